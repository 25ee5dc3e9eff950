/- What the listed errors are, in any program: each variable holds a pointer of its own; no two of them are the same. -/
import Derived.Stop.LaidErr
import Derived.WalkKit
import Derived.Test.YtlaagdpanbineaaDoorRows
import Derived.LaidEql
import Derived.Stop.Asserts
import Derived.RowKitTokens
import Derived.Stop.IfaceNil
import Derived.WalkSpells
import Derived.Lib.Hide
namespace Go.Proofs.YtlaagdpanbineaaDoor
open Go.RowKit

/-- the types of an error made by errors.New -/
structure ErrTypes (P : Program) (ti tp te ts : TypeId) (nm : String) : Prop where
  ex : ∃ (ms : Array (String × TypeId)) (f : Field), P.underlying ti = some (.interface ms) ∧ P.underlying te = some (.struct #[f]) ∧ f.type = ts ∧ f.offset = 0
  row : ∀ u, P.typeName? 3 u = some nm → u = tp
  hp : P.underlying tp = some (.pointer te)
  hs : P.underlying ts = some .string
  hc : P.cellsOf te = 1
  hcs : P.cellsOf ts = 1

def sentD (nm : String) (text : List UInt8) : DataW Unit := .iface nm (.ptr (.agg [.lit (.string text)]))

def RowsOk (P : Program) (w : World) (ps : List MemPlace) : Prop := ∀ b off, MemPlace.cell b off ∈ ps →
  (∃ c t, w.heap[b]? = some (.cells c t (0, 0))) ∧ ∀ u v, w.cell? ⟨b, off, none⟩ = some (.iface u v) → Value.okWide P w .any 0 u v

theorem RowsOk.sub {P : Program} {w : World} {ps qs : List MemPlace} (h : RowsOk P w ps) (hs : ∀ x ∈ qs, x ∈ ps) : RowsOk P w qs := fun b off hb => h b off (hs _ hb)

section
variable {P : Program} {w : World} {ti tp te ts : TypeId} {nm : String}

/-- the first of a list, if it is an error -/
theorem sent_head (T : ErrTypes P ti tp te ts nm) {n : String} {text : List UInt8} {g : Nat} {t : TypeId} {cs : Array Value} {fuel : Nat} {p : List MemPlace} (hg : P.globalNamed n = some g) (hv : w.var? P n = some cs)
    (hd : DataW.trod (fun _ => ()) P w 0 (fun _ => true) false fuel t cs.toList = some (sentD nm text, p)) (ht : t = ti) (hr : RowsOk P w (MemPlace.row ⟨g, 0, none⟩ cs.size ++ p)) :
    ∃ a : Addr, cs = #[.iface tp (.pointer (some a))] ∧ MemPlace.cell a.block a.off ∈ p ∧ ∃ c t', w.heap[a.block]? = some (.cells c t' (0, 0)) := by
  subst ht
  obtain ⟨ms, f, h1, h2, h3, h4⟩ := T.ex
  obtain ⟨l⟩ := cs
  have ok0 : ∀ u v, l = [.iface u v] → Value.okWide P w .any 0 u v := fun u v e => by
    subst e
    exact (hr g 0 (by simp [MemPlace.row])).2 u v (by simpa using World.var?_cell hg hv 0)
  obtain ⟨a, s, rfl, hc0, hs0, hz0, rfl⟩ := errorString_of_trod h1 T.row T.hp h2 h3 h4 T.hs T.hc T.hcs hd ok0
  have hm : MemPlace.cell a.block a.off ∈ MemPlace.row a 1 := by simp [MemPlace.row]
  exact ⟨a, rfl, hm, (hr a.block a.off (List.mem_append_right _ hm)).1⟩

theorem sent_mem (T : ErrTypes P ti tp te ts nm) : ∀ {l : List (String × DataW Unit)} {ps : List MemPlace}, DataW.LaidVars P w l ps → RowsOk P w ps → ∀ {n : String} {text : List UInt8} {g : Nat},
    (n, sentD nm text) ∈ l → P.globalNamed n = some g → (P.globals[g]?).map (·.type) = some ti →
    ∃ a : Addr, w.var? P n = some #[.iface tp (.pointer (some a))] ∧ MemPlace.cell a.block a.off ∈ ps ∧ ∃ c t', w.heap[a.block]? = some (.cells c t' (0, 0))
  | [], _, _, _, _, _, _, hm, _, _ => by cases hm
  | (n', d') :: r, ps, h, hr, n, text, g, hm, hg, ht => by
    obtain ⟨g', t, cs, fuel, p, q, h1, h2, h3, h4, h5, rfl⟩ := h
    rcases List.mem_cons.1 hm with e | e
    · cases e
      obtain rfl := Option.some.inj (hg.symm.trans h1)
      obtain rfl := Option.some.inj (ht.symm.trans h2)
      obtain ⟨a, rfl, ha, hb⟩ := sent_head T hg h3 h4 rfl (hr.sub (fun x hx => List.mem_append_left _ hx))
      exact ⟨a, h3, List.mem_append_left _ (List.mem_append_right _ ha), hb⟩
    · obtain ⟨a, hv, ha, hb⟩ := sent_mem T h5 (hr.sub (fun x hx => List.mem_append_right _ hx)) e hg ht
      exact ⟨a, hv, List.mem_append_right _ ha, hb⟩

theorem sent_ne (T : ErrTypes P ti tp te ts nm) : ∀ {l : List (String × DataW Unit)} {ps : List MemPlace}, DataW.LaidVars P w l ps → ps.Nodup → RowsOk P w ps → ∀ {n m : String} {tn tm : List UInt8} {g k : Nat} {a b : Addr},
    (n, sentD nm tn) ∈ l → (m, sentD nm tm) ∈ l → n ≠ m → P.globalNamed n = some g → P.globalNamed m = some k → (P.globals[g]?).map (·.type) = some ti → (P.globals[k]?).map (·.type) = some ti →
    w.var? P n = some #[.iface tp (.pointer (some a))] → w.var? P m = some #[.iface tp (.pointer (some b))] → a ≠ b
  | [], _, _, _, _, _, _, _, _, _, _, _, _, hm, _, _, _, _, _, _, _, _ => by cases hm
  | (n', d') :: r, ps, h, hnd, hr, n, m, tn, tm, g, k, a, b, hn, hm, hne, hg, hk, htg, htk, hvn, hvm => by
    obtain ⟨g', t, cs, fuel, p, q, h1, h2, h3, h4, h5, rfl⟩ := h
    have hrq : RowsOk P w q := hr.sub (fun x hx => List.mem_append_right _ hx)
    have hrp := hr.sub (qs := MemPlace.row ⟨g', 0, none⟩ cs.size ++ p) (fun x hx => List.mem_append_left _ hx)
    have hdis : ∀ x, x ∈ p → x ∈ q → False := fun x hp hq => by
      have := (List.nodup_append.1 hnd).2.2 x (List.mem_append_right _ hp) x hq
      exact this rfl
    rcases List.mem_cons.1 hn with e | e
    · cases e
      obtain rfl := Option.some.inj (hg.symm.trans h1)
      obtain rfl := Option.some.inj (htg.symm.trans h2)
      obtain ⟨a', rfl, ha, _⟩ := sent_head T hg h3 h4 rfl hrp
      have ea : a' = a := by have := h3.symm.trans hvn; simpa using this
      subst ea
      rcases List.mem_cons.1 hm with e2 | e2
      · cases e2; exact absurd rfl hne
      · obtain ⟨b', hv, hb, _⟩ := sent_mem T h5 hrq e2 hk htk
        have eb : b' = b := by have := hv.symm.trans hvm; simpa using this
        subst eb
        rintro rfl
        exact hdis _ ha hb
    · rcases List.mem_cons.1 hm with e2 | e2
      · cases e2
        obtain rfl := Option.some.inj (hk.symm.trans h1)
        obtain rfl := Option.some.inj (htk.symm.trans h2)
        obtain ⟨b', rfl, hb, _⟩ := sent_head T hk h3 h4 rfl hrp
        have eb : b' = b := by have := h3.symm.trans hvm; simpa using this
        subst eb
        obtain ⟨a', hv, ha, _⟩ := sent_mem T h5 hrq e hg htg
        have ea : a' = a := by have := hv.symm.trans hvn; simpa using this
        subst ea
        rintro rfl
        exact hdis _ hb ha
      · exact sent_ne T h5 (List.nodup_append.1 hnd).2.1 hrq e e2 hne hg hk htg htk hvn hvm

end
end Go.Proofs.YtlaagdpanbineaaDoor

/- The contract of errors.Is at two errors that errors.New made: Go's own text is walked. -/
namespace Go.Proofs.YtlaagdpanbineaaDoor
open Go.RowKit Go.Extern.Stop Go.Stop Go.Extern

theorem isTypeOf (v : Value) (w : World) : (Extern.ReflectliteType.typeOf #[.iface 164 v]).run Tryd.prog w = .ok (.iface 101 (.agg #[.pointer (some ⟨23, 164, none⟩)])) w := by kernel_rfl
def cmpE := Extern.ReflectliteType.method fun t => do Go.Extern.Rtype.noPackHeld "Comparable" t; pure (.bool (← typeInfo t).comparable)
theorem isComparable (w : World) : (cmpE #[.agg #[.pointer (some ⟨23, 164, none⟩)]]).run Tryd.prog w = .ok (.bool true) w := by kernel_rfl
theorem isMethodComparable (v : Value) (w : World) : (Go.method 300 101 v "Comparable").run Tryd.prog w = .ok (135, v) w := by kernel_rfl
theorem isComp : (Tryd.prog.info? 164).map (·.comparable) = some true := by kernel_rfl
theorem isSize : (Tryd.prog.info? 166).map (·.size) = some 1 := by kernel_rfl

theorem noIsE (v : Value) (xT : TypeId) (w : World) : (Instr.typeAssert (.iface 164 v) xT 103 true).run Tryd.prog w = .ok (.tuple #[.nilIface, .bool false]) w := run_typeAssert_lacksB Tryd.underlying103 (by kernel_rfl) (by kernel_rfl) v xT w
theorem noUnwrapE (v : Value) (xT : TypeId) (w : World) : (Instr.typeAssert (.iface 164 v) xT 106 true).run Tryd.prog w = .ok (.tuple #[.nilIface, .bool false]) w := run_typeAssert_lacksB Tryd.underlying106 (by kernel_rfl) (by kernel_rfl) v xT w
theorem noUnwrapsE (v : Value) (xT : TypeId) (w : World) : (Instr.typeAssert (.iface 164 v) xT 107 true).run Tryd.prog w = .ok (.tuple #[.nilIface, .bool false]) w := run_typeAssert_lacksB Tryd.underlying107 (by kernel_rfl) (by kernel_rfl) v xT w

/-- errors.Is(x, x) -/
theorem is_same (a : Addr) (w : World) :
    Calls Tryd.prog 25 #[.iface 164 (.pointer (some a)), .iface 164 (.pointer (some a))] w fun e w' => e = .returned (.bool true) ∧ w' = w := by
  obtain ⟨i, hi, hcmp⟩ := Option.map_eq_some_iff.1 isComp
  obtain ⟨j, hj, hjs⟩ := Option.map_eq_some_iff.1 isSize
  have h31 := @run_callFunc_extern Tryd.prog 40 _ Extern.ReflectliteType.typeOf Tryd.func40 (by kernel_rfl) (by kernel_rfl) (by kernel_rfl) (by kernel_rfl)
  have h51 := @run_callFunc_extern Tryd.prog 135 _ cmpE Tryd.func135 (by kernel_rfl) (by kernel_rfl) (by kernel_rfl) (by kernel_rfl)
  have tT := isTypeOf
  have cT := isComparable
  have mR := isMethodComparable
  have heq := run_eql_iface_ptr_same (P := Tryd.prog) w a Tryd.underlying31 Tryd.underlying164 hi hcmp hj
  go_enter Tryd.func25, Tryd.ntmps25
  go_wp2
  refine wp_loop_rounds 1 ?_
  rw [rounds_succ]
  go_wp2
  go_ret
  exact ⟨rfl, rfl⟩

/-- errors.Is(x, y), two different ones -/
theorem is_other (a b : Addr) (ca cb : Array Value) (ta tb : TypeId) (w : World) (hne : a ≠ b) (ha : w.heap[a.block]? = some (.cells ca ta (0, 0))) (hb : w.heap[b.block]? = some (.cells cb tb (0, 0))) :
    Calls Tryd.prog 25 #[.iface 164 (.pointer (some a)), .iface 164 (.pointer (some b))] w fun e w' => e = .returned (.bool false) ∧ w' = w := by
  obtain ⟨i, hi, hcmp⟩ := Option.map_eq_some_iff.1 isComp
  obtain ⟨j, hj, hjs⟩ := Option.map_eq_some_iff.1 isSize
  have h31 := @run_callFunc_extern Tryd.prog 40 _ Extern.ReflectliteType.typeOf Tryd.func40 (by kernel_rfl) (by kernel_rfl) (by kernel_rfl) (by kernel_rfl)
  have h51 := @run_callFunc_extern Tryd.prog 135 _ cmpE Tryd.func135 (by kernel_rfl) (by kernel_rfl) (by kernel_rfl) (by kernel_rfl)
  have tT := isTypeOf
  have cT := isComparable
  have mR := isMethodComparable
  have nE := noIsE
  have uE := noUnwrapE
  have vE := noUnwrapsE
  have heq := run_eql_iface_ptr_other (P := Tryd.prog) w Tryd.underlying31 Tryd.underlying164 hi hcmp hj (by rw [hjs]; decide) hne ha hb
  go_enter Tryd.func25, Tryd.ntmps25
  go_wp2
  refine wp_loop_rounds 1 ?_
  rw [rounds_succ]
  go_wp2
  go_ret
  exact ⟨rfl, rfl⟩

end Go.Proofs.YtlaagdpanbineaaDoor

/- The listed errors of package api, in the order of the document's table, and the contract of haversacknum.Num: an error's number by that table. -/
namespace Go.Proofs.YtlaagdpanbineaaDoor
open Go.RowKit

theorem nStar : "*" ++ "errors.errorString" = "*errors.errorString" := by decide
theorem rowErr (u : TypeId) (h : Tryd.prog.typeName? 3 u = some "*errors.errorString") : u = 164 :=
  typeName_ptr_named (nm := "errors.errorString") (by rw [nStar]; kernel_rfl) (by kernel_rfl) (by decide) u (by rw [nStar]; exact h)
theorem errTypes : ErrTypes Tryd.prog 31 164 166 9 "*errors.errorString" :=
  { ex := ⟨_, _, Tryd.underlying31, Tryd.underlying166, rfl, rfl⟩, row := rowErr, hp := Tryd.underlying164, hs := Tryd.underlying9, hc := by kernel_rfl, hcs := by kernel_rfl }

/-- the variable of the k-th error -/
def eGl : Nat → Nat
  | 0 => 1
  | 1 => 2
  | 2 => 0
  | 3 => 3
  | 4 => 4
  | 5 => 5
  | 6 => 6
  | 7 => 7
  | 8 => 8
  | 9 => 9
  | 10 => 10
  | 11 => 11
  | 12 => 12
  | _ => 0

structure ErrsK (K : Nat) (w : World) (A : Nat → Addr) : Prop where
  cell : ∀ k, k < K → w.cell? ⟨eGl k, 0, none⟩ = some (.iface 164 (.pointer (some (A k))))
  row : ∀ k, k < K → ∃ c t, w.heap[(A k).block]? = some (.cells c t (0, 0))
  ne : ∀ k j, k < K → j < K → k ≠ j → A k ≠ A j
/-- all thirteen -/
abbrev Errs (w : World) (A : Nat → Addr) : Prop := ErrsK 13 w A

theorem ErrsK.lt {K : Nat} {w : World} {A : Nat → Addr} (h : ErrsK K w A) {k : Nat} (hk : k < K) : eGl k < w.heap.size := by
  rcases Nat.lt_or_ge (eGl k) w.heap.size with hlt | hge
  · exact hlt
  · have := h.cell k hk
    simp [World.cell?, Array.getElem?_eq_none hge] at this
theorem ErrsK.below {K : Nat} {w w' : World} {A : Nat → Addr} (h : ErrsK K w A) (hb : Below w.heap.size w w') : ErrsK K w' A :=
  ⟨fun k hk => (hb.cell (p := ⟨eGl k, 0, none⟩) (h.lt hk)).trans (h.cell k hk),
   fun k hk => by
    obtain ⟨c, t, hc⟩ := h.row k hk
    exact ⟨c, t, (hb.block _ (Array.getElem?_eq_some_iff.1 hc).1).trans hc⟩, h.ne⟩
theorem ErrsK.mono {K K' : Nat} {w : World} {A : Nat → Addr} (h : ErrsK K w A) (hk : K' ≤ K) : ErrsK K' w A :=
  ⟨fun k h1 => h.cell k (by omega), fun k h1 => h.row k (by omega), fun k j h1 h2 => h.ne k j (by omega) (by omega)⟩

def eName : Nat → String
  | 0 => "haversack/api.ErrSyntax"
  | 1 => "haversack/api.ErrDepth"
  | 2 => "haversack/api.ErrSize"
  | 3 => "haversack/api.ErrNumber"
  | 4 => "haversack/api.ErrKey"
  | 5 => "haversack/api.ErrType"
  | 6 => "haversack/api.ErrName"
  | 7 => "haversack/api.ErrVersion"
  | 8 => "haversack/api.ErrSpec"
  | 9 => "haversack/api.ErrRange"
  | 10 => "haversack/api.ErrNone"
  | 11 => "haversack/api.ErrLimit"
  | 12 => "haversack/api.ErrTwice"
  | _ => ""
def eText : Nat → List UInt8
  | 0 => [104, 97, 118, 101, 114, 115, 97, 99, 107, 58, 32, 115, 121, 110, 116, 97, 120]
  | 1 => [104, 97, 118, 101, 114, 115, 97, 99, 107, 58, 32, 100, 101, 112, 116, 104]
  | 2 => [104, 97, 118, 101, 114, 115, 97, 99, 107, 58, 32, 115, 105, 122, 101]
  | 3 => [104, 97, 118, 101, 114, 115, 97, 99, 107, 58, 32, 110, 117, 109, 98, 101, 114]
  | 4 => [104, 97, 118, 101, 114, 115, 97, 99, 107, 58, 32, 107, 101, 121]
  | 5 => [104, 97, 118, 101, 114, 115, 97, 99, 107, 58, 32, 116, 121, 112, 101]
  | 6 => [104, 97, 118, 101, 114, 115, 97, 99, 107, 58, 32, 110, 97, 109, 101]
  | 7 => [104, 97, 118, 101, 114, 115, 97, 99, 107, 58, 32, 118, 101, 114, 115, 105, 111, 110]
  | 8 => [104, 97, 118, 101, 114, 115, 97, 99, 107, 58, 32, 115, 112, 101, 99]
  | 9 => [104, 97, 118, 101, 114, 115, 97, 99, 107, 58, 32, 114, 97, 110, 103, 101]
  | 10 => [104, 97, 118, 101, 114, 115, 97, 99, 107, 58, 32, 110, 111, 110, 101]
  | 11 => [104, 97, 118, 101, 114, 115, 97, 99, 107, 58, 32, 108, 105, 109, 105, 116]
  | 12 => [104, 97, 118, 101, 114, 115, 97, 99, 107, 58, 32, 116, 119, 105, 99, 101]
  | _ => []
theorem eGlob : ∀ k, k < 13 → Tryd.prog.globalNamed (eName k) = some (eGl k)
  | 0, _ => by kernel_rfl
  | 1, _ => by kernel_rfl
  | 2, _ => by kernel_rfl
  | 3, _ => by kernel_rfl
  | 4, _ => by kernel_rfl
  | 5, _ => by kernel_rfl
  | 6, _ => by kernel_rfl
  | 7, _ => by kernel_rfl
  | 8, _ => by kernel_rfl
  | 9, _ => by kernel_rfl
  | 10, _ => by kernel_rfl
  | 11, _ => by kernel_rfl
  | 12, _ => by kernel_rfl
  | k + 13, h => absurd h (by omega)
theorem eType : ∀ k, k < 13 → (Tryd.prog.globals[eGl k]?).map (·.type) = some 31
  | 0, _ => by kernel_rfl
  | 1, _ => by kernel_rfl
  | 2, _ => by kernel_rfl
  | 3, _ => by kernel_rfl
  | 4, _ => by kernel_rfl
  | 5, _ => by kernel_rfl
  | 6, _ => by kernel_rfl
  | 7, _ => by kernel_rfl
  | 8, _ => by kernel_rfl
  | 9, _ => by kernel_rfl
  | 10, _ => by kernel_rfl
  | 11, _ => by kernel_rfl
  | 12, _ => by kernel_rfl
  | k + 13, h => absurd h (by omega)
def eInv (g : Nat) : Nat := if g = 1 then 0 else if g = 2 then 1 else if g = 0 then 2 else if g = 3 then 3 else if g = 4 then 4 else if g = 5 then 5 else if g = 6 then 6 else if g = 7 then 7 else if g = 8 then 8 else if g = 9 then 9 else if g = 10 then 10 else if g = 11 then 11 else if g = 12 then 12 else 13
theorem eInv_gl : ∀ k, k < 13 → eInv (eGl k) = k
  | 0, _ => by decide
  | 1, _ => by decide
  | 2, _ => by decide
  | 3, _ => by decide
  | 4, _ => by decide
  | 5, _ => by decide
  | 6, _ => by decide
  | 7, _ => by decide
  | 8, _ => by decide
  | 9, _ => by decide
  | 10, _ => by decide
  | 11, _ => by decide
  | 12, _ => by decide
  | k + 13, h => absurd h (by omega)
theorem eNe (k j : Nat) (hk : k < 13) (hj : j < 13) (h : k ≠ j) : eName k ≠ eName j := by
  intro e
  have h1 := eGlob k hk
  rw [e, eGlob j hj] at h1
  have h2 := congrArg eInv (Option.some.inj h1)
  rw [eInv_gl k hk, eInv_gl j hj] at h2
  exact h h2.symm

/-- whatever list holds the first so many errors, as their text lays them -/
theorem errs_of {K : Nat} (hK : K ≤ 13) {W : World} {l : List (String × DataW Unit)} (hm : ∀ k, k < K → (eName k, sentD "*errors.errorString" (eText k)) ∈ l) (h : laidMet Tryd.prog l W) : ∃ A, ErrsK K W A := by
  obtain ⟨ps, hv, hnd, hr⟩ := h
  have hex : ∀ k, ∃ a : Addr, k < K → W.var? Tryd.prog (eName k) = some #[.iface 164 (.pointer (some a))] ∧ ∃ c t, W.heap[a.block]? = some (.cells c t (0, 0)) := fun k => by
    by_cases hk : k < K
    · obtain ⟨a, h1, _, h3⟩ := sent_mem errTypes hv hr (hm k hk) (eGlob k (by omega)) (eType k (by omega))
      exact ⟨a, fun _ => ⟨h1, h3⟩⟩
    · exact ⟨⟨0, 0, none⟩, fun h => absurd h hk⟩
  refine ⟨fun k => Classical.choose (hex k), ⟨fun k hk => ?_, fun k hk => (Classical.choose_spec (hex k) hk).2, fun k j hk hj hne => ?_⟩⟩
  · have := World.var?_cell (eGlob k (by omega)) (Classical.choose_spec (hex k) hk).1 0
    simpa using this
  · exact sent_ne errTypes hv hnd hr (hm k hk) (hm j hj) (eNe k j (by omega) (by omega) hne) (eGlob k (by omega)) (eGlob j (by omega)) (eType k (by omega)) (eType j (by omega)) (Classical.choose_spec (hex k) hk).1 (Classical.choose_spec (hex j) hj).1

def numW (w : World) (A : Nat → Addr) : World := w.alloc (.cells #[.iface 164 (.pointer (some (A 0))), .iface 164 (.pointer (some (A 1))), .iface 164 (.pointer (some (A 2))), .iface 164 (.pointer (some (A 3))), .iface 164 (.pointer (some (A 4))), .iface 164 (.pointer (some (A 5))), .iface 164 (.pointer (some (A 6))), .iface 164 (.pointer (some (A 7))), .iface 164 (.pointer (some (A 8))), .iface 164 (.pointer (some (A 9))), .iface 164 (.pointer (some (A 10))), .iface 164 (.pointer (some (A 11))), .iface 164 (.pointer (some (A 12)))] 31)
theorem numW_cell (w : World) (A : Nat → Addr) : ∀ k, k < 13 → (numW w A).cell? ⟨w.heap.size, k, none⟩ = some (.iface 164 (.pointer (some (A k)))) := by
  intro k hk
  have h := cell_of_row (numW w A) w.heap.size k _ 31 (0, 0) (heap_alloc_new w _)
  rw [h]
  match k, hk with
  | 0, _ => rfl
  | 1, _ => rfl
  | 2, _ => rfl
  | 3, _ => rfl
  | 4, _ => rfl
  | 5, _ => rfl
  | 6, _ => rfl
  | 7, _ => rfl
  | 8, _ => rfl
  | 9, _ => rfl
  | 10, _ => rfl
  | 11, _ => rfl
  | 12, _ => rfl
  | k + 13, h => exact absurd h (by omega)
theorem numW_below (w : World) (A : Nat → Addr) : Below w.heap.size w (numW w A) := (Below.refl _ _).alloc (Nat.le_refl _) _

set_option maxHeartbeats 400000 in
theorem num_nil (w : World) : Calls Tryd.prog 13 #[.nilIface] w fun e w' => e = .returned (.int .i64 0) ∧ w = w' := by
  have hn := @run_eql_nil_nil_at Tryd.prog w 31 (by kernel_rfl)
  go_enter Tryd.func13, Tryd.ntmps13
  go_wp2
  go_ret
  exact ⟨rfl, rfl⟩

set_option maxRecDepth 100000 in
set_option maxHeartbeats 1000000 in
theorem num_any (A : Nat → Addr) (w : World) (hE : Errs w A) (t : Nat) (ht : t < 13) :
    Calls Tryd.prog 13 #[.iface 164 (.pointer (some (A t)))] w fun e w' => e = .returned (.int .i64 (t + 1)) ∧ Below w.heap.size w w' := by
  have c0 : w.cell? ⟨1, 0, none⟩ = _ := hE.cell 0 (by omega)
  have c1 : w.cell? ⟨2, 0, none⟩ = _ := hE.cell 1 (by omega)
  have c2 : w.cell? ⟨0, 0, none⟩ = _ := hE.cell 2 (by omega)
  have c3 : w.cell? ⟨3, 0, none⟩ = _ := hE.cell 3 (by omega)
  have c4 : w.cell? ⟨4, 0, none⟩ = _ := hE.cell 4 (by omega)
  have c5 : w.cell? ⟨5, 0, none⟩ = _ := hE.cell 5 (by omega)
  have c6 : w.cell? ⟨6, 0, none⟩ = _ := hE.cell 6 (by omega)
  have c7 : w.cell? ⟨7, 0, none⟩ = _ := hE.cell 7 (by omega)
  have c8 : w.cell? ⟨8, 0, none⟩ = _ := hE.cell 8 (by omega)
  have c9 : w.cell? ⟨9, 0, none⟩ = _ := hE.cell 9 (by omega)
  have c10 : w.cell? ⟨10, 0, none⟩ = _ := hE.cell 10 (by omega)
  have c11 : w.cell? ⟨11, 0, none⟩ = _ := hE.cell 11 (by omega)
  have c12 : w.cell? ⟨12, 0, none⟩ = _ := hE.cell 12 (by omega)
  have HN := Lib.hid (numW_cell w A)
  have hE2 := hE.below (numW_below w A)
  have hnl := fun (x : Value) => @run_eql_iface_nil Tryd.prog w 31 (by kernel_rfl) 164 x
  have HE : Hid (Errs (numW w A) A) := hE2
  clear hE hE2
  go_enter Tryd.func13, Tryd.ntmps13
  go_wp2
  go_loopw [4, 5, 24] (fun _ _ i wr => ∃ k : Nat, k ≤ t ∧ i = .int .i64 k ∧ wr = numW w A) (fun _ _ i _ => 13 - (intOf i).toNat)
  case atStart => exact ⟨0, by omega, rfl, rfl⟩
  case round =>
    obtain ⟨k, hk, rfl, rfl⟩ := hrel
    have hc := HN.out k (by omega)
    have hk13 : k < 13 := by omega
    by_cases he : k = t
    · subst he
      go_wp2_with (go_at_call 25; refine (is_same _ _).mono ?_; rintro e w' ⟨rfl, rfl⟩)
      go_ret
      exact ⟨rfl, numW_below w A⟩
    · obtain ⟨ca, ta, ha⟩ := HE.out.row t ht
      obtain ⟨cb, tb, hb⟩ := HE.out.row k hk13
      have hne : A t ≠ A k := HE.out.ne _ _ ht hk13 (fun e => he e.symm)
      have hI := is_other _ _ _ _ _ _ (numW w A) hne ha hb
      clear ha hb hne
      go_wp2_with (go_at_call 25; refine hI.mono ?_; rintro e w' ⟨rfl, rfl⟩)
      go_roundw
      case rel => exact ⟨k + 1, by omega, by go_num, by first | trivial | rfl⟩
      case measure => simp [intOf]; omega

end Go.Proofs.YtlaagdpanbineaaDoor

