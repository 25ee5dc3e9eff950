/- A scope whose run jumps to several labels: what holds at every jump, and a measure that every pass from a label lowers. -/
import Derived.Scope
import Derived.Test.YtlaagdpanbineaaGreatDoorGl
import Derived.WalkMore
namespace Go.Proofs.YtlaagdpanbineaaGreatDoor

def jumps (J : Nat → Act → World → Prop) (Q : Exit → Act → World → Prop) : Exit → Act → World → Prop
  | .goto l, a, w => J l a w
  | e, a, w => Q e a w

section
variable {P : Program} {a : Act} {w : World} {Q : Exit → Act → World → Prop}

theorem wp_scope_many {c : Code} (J : Nat → Act → World → Prop) (μ : Nat → Act → World → Nat)
    (first : c.wp P (jumps J Q) a w)
    (pass : ∀ l a w, J l a w → ∃ rest, findLabel c l = some rest ∧ rest.wp P (jumps (fun l' a' w' => J l' a' w' ∧ μ l' a' w' < μ l a w) Q) a w) : (Code.scope c).wp P Q a w := by
  intro b k cs
  have key : ∀ n l a w, μ l a w = n → J l a w → ∃ rest, findLabel c l = some rest ∧ ∃ e a' w', Q e a' w' ∧ Arrives P (lone (b.at a (.code rest :: .inScope c :: k)) cs w) b k cs e a' w' := by
    intro n
    induction n using Nat.strongRecOn with
    | _ n ih =>
      intro l a w hn hJ
      obtain ⟨rest, hf, hp⟩ := pass l a w hJ
      refine ⟨rest, hf, ?_⟩
      obtain ⟨e, a₁, w₁, hq, harr⟩ := hp b (.inScope c :: k) cs
      cases e with
      | normal => exact ⟨.normal, a₁, w₁, hq, Steps.trans harr (.one step_inScope)⟩
      | exit id => exact ⟨.exit id, a₁, w₁, hq, fun k' hk => harr k' (by simp [exitTo, hk])⟩
      | goto l' =>
        obtain ⟨hJ', hlt⟩ := hq
        obtain ⟨rest', hf', e₂, a₂, w₂, hq₂, harr₂⟩ := ih _ (by omega) l' a₁ w₁ rfl hJ'
        have hg : gotoIn l' (.inScope c :: k) = some (.code rest' :: .inScope c :: k) := by simp [gotoIn, hf']
        exact ⟨e₂, a₂, w₂, hq₂, .of_steps (harr _ hg) harr₂⟩
      | ret => exact ⟨_, a₁, w₁, hq, harr⟩
      | panic ch => exact ⟨_, a₁, w₁, hq, harr⟩
      | outgrown => exact ⟨_, a₁, w₁, hq, harr⟩
  obtain ⟨e, a₁, w₁, hq, harr⟩ := first b (.inScope c :: k) cs
  cases e with
  | normal => exact ⟨.normal, a₁, w₁, hq, .head step_scope (Steps.trans harr (.one step_inScope))⟩
  | exit id => exact ⟨.exit id, a₁, w₁, hq, fun k' hk => .head step_scope (harr k' (by simp [exitTo, hk]))⟩
  | goto l' =>
    obtain ⟨rest', hf', e₂, a₂, w₂, hq₂, harr₂⟩ := key _ l' a₁ w₁ rfl hq
    have hg : gotoIn l' (.inScope c :: k) = some (.code rest' :: .inScope c :: k) := by simp [gotoIn, hf']
    exact ⟨e₂, a₂, w₂, hq₂, .of_steps (.head step_scope (harr _ hg)) harr₂⟩
  | ret => exact ⟨_, a₁, w₁, hq, .of_steps (.one step_scope) harr⟩
  | panic ch => exact ⟨_, a₁, w₁, hq, .of_steps (.one step_scope) harr⟩
  | outgrown => exact ⟨_, a₁, w₁, hq, .of_steps (.one step_scope) harr⟩
end

end Go.Proofs.YtlaagdpanbineaaGreatDoor

/- The program's reader of JSON: read: what holds at every label. -/
namespace Go.Proofs.YtlaagdpanbineaaGreatDoor
open Go.RowKit
open I2 (errVal errVal_some errVal_none)

/-- the frame at every label -/
def FrameIs (R : Nat) (a : Act) : Prop := ∃ (u1 u2 u3 u4 u5 u6 u7 u8 u9 u10 u11 u12 u13 u14 u15 u16 u17 u18 u19 u20 u21 u22 u23 u24 u25 u26 u27 u28 u29 u30 u31 u32 u33 u34 u35 u36 u37 u38 u39 u40 u41 u42 u43 u44 u45 u46 u47 u48 u49 u50 u51 u52 u53 u54 u55 u56 u57 u58 u59 u60 u61 u62 u63 : Value), a = { tmps := #[.pointer (some ⟨R, 0, none⟩), u1, u2, u3, u4, u5, u6, u7, u8, u9, u10, u11, u12, u13, u14, u15, u16, u17, u18, u19, u20, u21, u22, u23, u24, u25, u26, u27, u28, u29, u30, u31, u32, u33, u34, u35, u36, u37, u38, u39, u40, u41, u42, u43, u44, u45, u46, u47, u48, u49, u50, u51, u52, u53, u54, u55, u56, u57, u58, u59, u60, u61, u62, u63], defers := [] }

/-- what is behind a label -/
def scopeOf (f : Func) : Code := match f.body with
  | some (.seq _ (.scope c)) => c
  | _ => .skip
noncomputable def afterL (l : Nat) : Code := match findLabel (scopeOf Tryz.f16) l with
  | some (.seq .skip k) => k
  | _ => .skip

def rank : Nat → Nat
  | 1 => 1
  | 2 => 1
  | 3 => 2
  | 4 => 3
  | 6 => 1
  | 7 => 1
  | _ => 0
def mu (R : Nat) (s : ByteArray) (l : Nat) (_ : Act) (w : World) : Nat := 16 * (s.size - atP w R) + rank l

def ltAll (hs : List HRec) (c : Nat) : Prop := ∀ h ∈ hs, h.fr.kids.length < c
def keysOk (hs : List HRec) : Prop := ∀ h ∈ hs, h.fr.keys.length ≤ h.fr.kids.length + 1

/-- the answer at "[", behind it -/
def arrA (st : List Fr) (c : Nat) (l : List UInt8) : Ans := if 32 ≤ st.length then .bad 2 else after st (match skipB l with
        | [] => pI (.arr []) st.length c l
        | y :: u => if y.toNat = 93 then .ok (.mk 6 0 [] [] []) u c else pI (.arr []) st.length c l)
def objA (st : List Fr) (c : Nat) (l : List UInt8) : Ans := if 32 ≤ st.length then .bad 2 else after st (match skipB l with
        | [] => pI (.obj [] []) st.length c l
        | y :: u => if y.toNat = 125 then .ok (.mk 7 0 [] [] []) u c else pI (.obj [] []) st.length c l)
/-- the answer behind a kid of an Array, of an Object -/
def kidA (st : List Fr) (acc : List NT) (c : Nat) (l : List UInt8) : Ans := match skipB l with
  | [] => .bad 1
  | y :: u => if y.toNat = 93 then after st (.ok (.mk 6 0 [] [] acc) u c) else if y.toNat = 44 then after st (pI (.arr acc) st.length c u) else .bad 1
def memA (st : List Fr) (ks : List (List UInt8)) (acc : List NT) (c : Nat) (l : List UInt8) : Ans := match skipB l with
  | [] => .bad 1
  | y :: u => if y.toNat = 125 then after st (.ok (.mk 7 0 [] ks acc) u c) else if y.toNat = 44 then after st (pI (.obj ks acc) st.length c u) else .bad 1

section
variable (R B : Nat) (s : ByteArray) (A : Nat → Addr) (w0 : World) (res : Ans)

/-- what holds at all labels -/
structure Cm (w : World) (k c : Nat) (hv : Value) (L : LV) : Prop where
  rd : RdP w R s k c hv L
  hk : k ≤ s.size
  cond : CondB B w A
  below : Below R w0 w
  c20 : c ≤ 20000
/-- what of it needs no look at the reader -/
theorem Cm.next {w w' : World} {k c k' c' : Nat} {hv hv' : Value} {L L' : LV} (h : Cm R B s A w0 w k c hv L) (hBR : B ≤ R) (hr : RdP w' R s k' c' hv' L') (hk : k' ≤ s.size) (hb : Below R w w') (hc : c' ≤ 20000) : Cm R B s A w0 w' k' c' hv' L' := by
  refine ⟨hr, hk, ?_, h.below.trans hb, hc⟩
  obtain ⟨w1, h1, h2, h3, h4⟩ := h.cond
  have := hb.size
  exact ⟨w1, h1, h2, by omega, h4.trans ⟨hb.os, hb.tape, hb.output, hb.size, fun k hk => hb.block k (by omega)⟩⟩
theorem below_gb {w w' : World} {k c : Nat} {hv : Value} {L : LV} (h : RdP w R s k c hv L) (hg : w.grownBy w' (some R)) : Below R w w' := below_of_gb hg (by have := h.lt; omega) (fun g e => by injection e with e; omega)

structure J0 (w : World) : Prop where
  ex : ∃ k c hv L own hs, Cm R B s A w0 w k c hv L ∧ Stk w (R + 1) own hv hs c ∧ keysOk hs ∧ res = after (frs hs) (pI .val hs.length c (s.data.toList.drop k))
structure J1 (w : World) : Prop where
  ex : ∃ k c hv L own hs, Cm R B s A w0 w k (c + 1) hv L ∧ Stk w (R + 1) own hv hs c ∧ keysOk hs ∧ res = arrA (frs hs) (c + 1) (s.data.toList.drop k)
structure J2 (w : World) : Prop where
  ex : ∃ k c hv L own hs, Cm R B s A w0 w k (c + 1) hv L ∧ Stk w (R + 1) own hv hs c ∧ keysOk hs ∧ res = objA (frs hs) (c + 1) (s.data.toList.drop k)
structure J3 (w : World) : Prop where
  ex : ∃ k c hv L own hs v, Cm R B s A w0 w k (c + 1) hv L ∧ Stk w (R + 1) own hv hs c ∧ keysOk hs ∧ NIs (fun b => R + 1 ≤ b ∧ own b = 0) (33 - hs.length) w v L.v ∧ res = after (frs hs) (.ok v (s.data.toList.drop k) (c + 1))
structure J4 (w : World) : Prop where
  ex : ∃ k c hv L own hs h, Cm R B s A w0 w k (c + 1) hv L ∧ Stk w (R + 1) own hv (hs ++ [h]) (c + 1) ∧ ltAll hs (c + 1) ∧ keysOk hs ∧ res = after (frs hs) (.ok (.mk h.fr.kind 0 [] h.fr.keys h.fr.kids) (s.data.toList.drop k) (c + 1))
structure J5 (w : World) : Prop where
  ex : ∃ k c hv L own hs h ks acc, Cm R B s A w0 w k c hv L ∧ Stk w (R + 1) own hv (hs ++ [h]) c ∧ keysOk hs ∧ h.fr = .obj ks acc ∧ ks.length ≤ acc.length ∧ res = after (frs hs) (pI (.obj ks acc) hs.length c (s.data.toList.drop k))
structure J6 (w : World) : Prop where
  ex : ∃ k c hv L own hs h acc, Cm R B s A w0 w k (c + 1) hv L ∧ Stk w (R + 1) own hv (hs ++ [h]) (c + 1) ∧ ltAll hs (c + 1) ∧ keysOk hs ∧ h.fr = .arr acc ∧ res = kidA (frs hs) acc (c + 1) (s.data.toList.drop k)
structure J7 (w : World) : Prop where
  ex : ∃ k c hv L own hs h ks acc, Cm R B s A w0 w k (c + 1) hv L ∧ Stk w (R + 1) own hv (hs ++ [h]) (c + 1) ∧ ltAll hs (c + 1) ∧ keysOk hs ∧ h.fr = .obj ks acc ∧ ks.length ≤ acc.length ∧ res = memA (frs hs) ks acc (c + 1) (s.data.toList.drop k)
def JW (l : Nat) (w : World) : Prop := match l with
  | 0 => J0 R B s A w0 res w
  | 1 => J1 R B s A w0 res w
  | 2 => J2 R B s A w0 res w
  | 3 => J3 R B s A w0 res w
  | 4 => J4 R B s A w0 res w
  | 5 => J5 R B s A w0 res w
  | 6 => J6 R B s A w0 res w
  | 7 => J7 R B s A w0 res w
  | _ => False
def JJ (l : Nat) (a : Act) (w : World) : Prop := FrameIs R a ∧ JW R B s A w0 res l w
/-- .. with less left to read than m says -/
def JM (m : Nat) (l : Nat) (a : Act) (w : World) : Prop := JJ R B s A w0 res l a w ∧ mu R s l a w < m

def ReadPost (e : Ending) (w : World) : Prop := match res with
  | .bad e0 => 0 < e0 ∧ e = .returned (errVal A (some (e0 - 1))) ∧ Below R w0 w
  | .ok v => e = .returned .nilIface ∧ Below R w0 w ∧ ∃ k c hv L, RdP w R s k c hv L ∧ NIs (fun b => R + 1 ≤ b) 33 w v L.v
def QQ : Exit → Act → World → Prop := bodyPost Tryz.prog Tryz.f16 (ReadPost R s A w0 res)

theorem mu_lt {m : Nat} {a a' : Act} {w w' : World} {k k' c c' l l' : Nat} {hv hv' : Value} {L L' : LV} (h : RdP w R s k c hv L) (h' : RdP w' R s k' c' hv' L') (hm : mu R s l a w ≤ m) (hlt : 16 * (s.size - k') + rank l' < 16 * (s.size - k) + rank l) : mu R s l' a' w' < m := by
  unfold mu at hm ⊢
  rw [h.at] at hm
  rw [h'.at]
  omega
/-- a byte that stands next, or doesn't -/
theorem next_cases (l : List UInt8) (b : Nat) : (∃ y u, skipB l = y :: u ∧ y.toNat = b) ∨ NoB l b := by
  cases h : skipB l with
  | nil => exact .inr (fun y u e => by rw [h] at e; cases e)
  | cons y u =>
    by_cases hb : y.toNat = b
    · exact .inl ⟨y, u, rfl, hb⟩
    · refine .inr (fun y' u' e => ?_)
      rw [h] at e
      injection e with e1 e2
      rw [← e1]; exact hb
theorem skip_len {s : ByteArray} {k k' : Nat} {y : UInt8} {u : List UInt8} (h : skipB (s.data.toList.drop k) = y :: u) (hk' : k' ≤ s.size) (hu : s.data.toList.drop k' = u) : k < k' := by
  have h1 := skipB_cons h
  have h2 := congrArg List.length hu
  rw [List.length_drop, size_list] at h1 h2
  omega
theorem skip_ge {s : ByteArray} {k k' : Nat} (hk : k ≤ s.size) (hk' : k' ≤ s.size) (hu : s.data.toList.drop k' = skipB (s.data.toList.drop k)) : k ≤ k' := by
  have h1 := skipB_le (s.data.toList.drop k)
  have h2 := congrArg List.length hu
  rw [List.length_drop, size_list] at h2
  rw [List.length_drop, size_list] at h1
  omega
theorem NoB.skip {l l' : List UInt8} {b : Nat} (h : NoB l b) (e : l' = skipB l) : NoB l' b := fun y u hy => h y u (by rw [← skipB_idem, ← e]; exact hy)
end

end Go.Proofs.YtlaagdpanbineaaGreatDoor

