/- What a text of JSON is, over a list of bytes (no program): the value that is read from the left, or the number of the first error. -/
import Derived.Test.YtlaagdpanbineaaDoorQa
import Derived.Test.YtlaagdpanbineaaDoorNa
import Derived.Below
import Derived.Deep.AppendLies
import Derived.WalkKit
import Derived.WalkSpells
import Derived.WalkLawsBesides
import Derived.Lib.Hide
import Derived.Handy
namespace Go.Proofs.YtlaagdpanbineaaDoor
open I2

/-- a value: kind, number, text, keys, kids -/
inductive NT
  | mk (kind n : Int) (text : List UInt8) (keys : List (List UInt8)) (kids : List NT)

inductive Res
  | bad (e : Nat)
  | ok (v : NT) (rest : List UInt8) (count : Nat)

def isBl (c : UInt8) : Prop := c.toNat = 9 ∨ c.toNat = 10 ∨ c.toNat = 13 ∨ c.toNat = 32
instance (c : UInt8) : Decidable (isBl c) := by unfold isBl; infer_instance
def skipB : List UInt8 → List UInt8
  | [] => []
  | c :: t => if isBl c then skipB t else c :: t
theorem skipB_le : ∀ l : List UInt8, (skipB l).length ≤ l.length
  | [] => Nat.le_refl _
  | c :: t => by
    unfold skipB
    split
    · have := skipB_le t; simp; omega
    · exact Nat.le_refl _
theorem skipB_drop : ∀ l : List UInt8, skipB l = l.drop (l.length - (skipB l).length)
  | [] => rfl
  | c :: t => by
    unfold skipB
    split
    · have h := skipB_drop t
      have hl := skipB_le t
      rw [List.length_cons, show t.length + 1 - (skipB t).length = (t.length - (skipB t).length) + 1 by omega, List.drop_succ_cons]
      exact h
    · simp
theorem skipB_head {l t : List UInt8} {c : UInt8} (h : skipB l = c :: t) : ¬ isBl c := by
  induction l with
  | nil => simp [skipB] at h
  | cons x l ih =>
    unfold skipB at h
    split at h
    · exact ih h
    · rename_i hx
      simp only [List.cons.injEq] at h
      rw [← h.1]; exact hx
theorem skipB_idem (l : List UInt8) : skipB (skipB l) = skipB l := by
  cases h : skipB l with
  | nil => rfl
  | cons c t => unfold skipB; rw [if_neg (skipB_head h)]

/-- what is read next: a value, the next one of an Array, the next member of an Object -/
inductive Md
  | val
  | arr (acc : List NT)
  | obj (ks : List (List UInt8)) (acc : List NT)

def litN (k : Int) : NT := .mk k 0 [] [] []
/-- a word -/
def wordR (w : List UInt8) (k : Int) (l : List UInt8) (c : Nat) : Res := if w.isPrefixOf l then .ok (litN k) (l.drop w.length) c else .bad 1
def numR (l : List UInt8) (c : Nat) : Res := match takeR l with
  | (v, z, none) => .ok (.mk 4 v [] [] []) (l.drop z) c
  | (_, _, some e) => .bad (e + 1)
def strR (l : List UInt8) (c : Nat) : Res := match takeL l with
  | some (x, n) => .ok (.mk 5 0 x [] []) (l.drop n) c
  | none => .bad 1

def wNull : List UInt8 := [110, 117, 108, 108]
def wFalse : List UInt8 := [102, 97, 108, 115, 101]
def wTrue : List UInt8 := [116, 114, 117, 101]

/-- f: how many steps at most; d: the depth; c: how many values so far -/
def pJ : Nat → Md → Nat → Nat → List UInt8 → Res
  | 0, _, _, _, _ => .bad 0
  | f + 1, .val, d, c, l =>
    if 20000 ≤ c ∧ skipB l ≠ [] then .bad 3 else
    match skipB l with
    | [] => .bad 1
    | x :: t =>
      if x.toNat = 110 then wordR wNull 1 (x :: t) (c + 1)
      else if x.toNat = 102 then wordR wFalse 2 (x :: t) (c + 1)
      else if x.toNat = 116 then wordR wTrue 3 (x :: t) (c + 1)
      else if x.toNat = 34 then strR (x :: t) (c + 1)
      else if x.toNat = 91 then (if 32 ≤ d then .bad 2 else match skipB t with
        | [] => pJ f (.arr []) d (c + 1) t
        | y :: u => if y.toNat = 93 then .ok (.mk 6 0 [] [] []) u (c + 1) else pJ f (.arr []) d (c + 1) t)
      else if x.toNat = 123 then (if 32 ≤ d then .bad 2 else match skipB t with
        | [] => pJ f (.obj [] []) d (c + 1) t
        | y :: u => if y.toNat = 125 then .ok (.mk 7 0 [] [] []) u (c + 1) else pJ f (.obj [] []) d (c + 1) t)
      else numR (x :: t) (c + 1)
  | f + 1, .arr acc, d, c, l =>
    match pJ f .val (d + 1) c l with
    | .bad e => .bad e
    | .ok v r c' => match skipB r with
      | [] => .bad 1
      | y :: u => if y.toNat = 93 then .ok (.mk 6 0 [] [] (acc ++ [v])) u c' else if y.toNat = 44 then pJ f (.arr (acc ++ [v])) d c' u else .bad 1
  | f + 1, .obj ks acc, d, c, l =>
    match takeL (skipB l) with
    | none => .bad 1
    | some (k, n) => if k ∈ ks then .bad 5 else match skipB ((skipB l).drop n) with
      | [] => .bad 1
      | y :: u => if y.toNat = 58 then (match pJ f .val (d + 1) c u with
        | .bad e => .bad e
        | .ok v r c' => match skipB r with
          | [] => .bad 1
          | y :: u => if y.toNat = 125 then .ok (.mk 7 0 [] (ks ++ [k]) (acc ++ [v])) u c' else if y.toNat = 44 then pJ f (.obj (ks ++ [k]) (acc ++ [v])) d c' u else .bad 1)
        else .bad 1

/-- a whole text: its value, or the number of its error -/
inductive Ans
  | bad (e : Nat)
  | ok (v : NT)
def pText (l : List UInt8) : Ans :=
  if 100000 < l.length then .bad 3 else match pJ (2 * l.length + 2) .val 0 0 l with
  | .bad e => .bad e
  | .ok v r _ => if skipB r = [] then .ok v else .bad 1

/-! ### a value takes bytes -/
theorem skipB_cons {l t : List UInt8} {c : UInt8} (h : skipB l = c :: t) : t.length < l.length := by
  have := skipB_le l
  rw [h, List.length_cons] at this
  omega

theorem wordR_ok {w l r : List UInt8} {k : Int} {c c' : Nat} {v : NT} (h : wordR w k l c = .ok v r c') (hw : w ≠ []) : r.length < l.length ∧ c' = c ∧ v = litN k ∧ r = l.drop w.length := by
  unfold wordR at h
  split at h
  · rename_i hp
    have := (List.isPrefixOf_iff_prefix.1 hp).length_le
    have hw2 := List.length_pos_iff.2 hw
    simp only [Res.ok.injEq] at h
    obtain ⟨rfl, rfl, rfl⟩ := h
    rw [List.length_drop]
    exact ⟨by omega, rfl, rfl, rfl⟩
  · cases h
theorem strR_ok {l r : List UInt8} {c c' : Nat} {v : NT} (h : strR l c = .ok v r c') : r.length < l.length ∧ c' = c := by
  unfold strR at h
  split at h
  · rename_i x n hx
    obtain ⟨b, t, ps, hl, _, _, hn⟩ := takeL_of hx
    simp only [Res.ok.injEq] at h
    obtain ⟨_, rfl, rfl⟩ := h
    rw [List.length_drop, hl]
    simp
    omega
  · cases h
theorem takeR_size {l : List UInt8} {v : Int} {z : Nat} (h : takeR l = (v, z, none)) : 0 < z ∧ z ≤ l.length := by
  unfold takeR at h
  split at h
  · simp at h
  · rename_i hf
    have hl := front_le l
    split at h
    · simp only [Prod.mk.injEq] at h
      obtain ⟨_, rfl, _⟩ := h
      exact ⟨by omega, hl⟩
    · simp at h
theorem numR_ok {l r : List UInt8} {c c' : Nat} {v : NT} (h : numR l c = .ok v r c') : r.length < l.length ∧ c' = c := by
  unfold numR at h
  split at h
  · rename_i w z hx
    obtain ⟨h1, h2⟩ := takeR_size hx
    simp only [Res.ok.injEq] at h
    obtain ⟨_, rfl, rfl⟩ := h
    rw [List.length_drop]
    exact ⟨by omega, rfl⟩
  · cases h

/-- a value takes bytes -/
theorem pJ_ok : ∀ (f : Nat) (m : Md) (d c : Nat) (l : List UInt8) (v : NT) (r : List UInt8) (c' : Nat), pJ f m d c l = .ok v r c' → r.length < l.length
  | 0, _, _, _, _, _, _, _, h => by simp [pJ] at h
  | f + 1, .val, d, c, l, v, r, c', h => by
    have ih := pJ_ok f
    unfold pJ at h
    split at h
    · cases h
    · have hs := skipB_le l
      split at h
      · cases h
      · rename_i x t hx
        have h1 := skipB_cons hx
        have hw : ∀ {r : List UInt8}, r.length < (x :: t).length → r.length < l.length := fun {r} hr => by simp only [List.length_cons] at hr; omega
        split at h
        · exact hw (wordR_ok h (by simp [wNull])).1
        split at h
        · exact hw (wordR_ok h (by simp [wFalse])).1
        split at h
        · exact hw (wordR_ok h (by simp [wTrue])).1
        split at h
        · exact hw (strR_ok h).1
        split at h
        · split at h
          · cases h
          · split at h
            · have := ih _ _ _ _ _ _ _ h; omega
            · rename_i y u hy
              have := skipB_cons hy
              split at h
              · simp only [Res.ok.injEq] at h
                obtain ⟨_, rfl, _⟩ := h
                omega
              · have := ih _ _ _ _ _ _ _ h; omega
        split at h
        · split at h
          · cases h
          · split at h
            · have := ih _ _ _ _ _ _ _ h; omega
            · rename_i y u hy
              have := skipB_cons hy
              split at h
              · simp only [Res.ok.injEq] at h
                obtain ⟨_, rfl, _⟩ := h
                omega
              · have := ih _ _ _ _ _ _ _ h; omega
        · exact hw (numR_ok h).1
  | f + 1, .arr acc, d, c, l, v, r, c', h => by
    have ih := pJ_ok f
    unfold pJ at h
    split at h
    · cases h
    · rename_i v0 r0 c0 h0
      have h1 := ih _ _ _ _ _ _ _ h0
      split at h
      · cases h
      · rename_i y u hy
        have := skipB_cons hy
        split at h
        · simp only [Res.ok.injEq] at h
          obtain ⟨_, rfl, _⟩ := h
          omega
        · split at h
          · have := ih _ _ _ _ _ _ _ h; omega
          · cases h
  | f + 1, .obj ks acc, d, c, l, v, r, c', h => by
    have ih := pJ_ok f
    unfold pJ at h
    split at h
    · cases h
    · rename_i k n hk
      split at h
      · cases h
      · split at h
        · cases h
        · rename_i y u hy
          have h2 := skipB_cons hy
          have h3 := skipB_le l
          rw [List.length_drop] at h2
          split at h
          · split at h
            · cases h
            · rename_i v0 r0 c0 h0
              have h1 := ih _ _ _ _ _ _ _ h0
              split at h
              · cases h
              · rename_i y2 u2 hy2
                have := skipB_cons hy2
                split at h
                · simp only [Res.ok.injEq] at h
                  obtain ⟨_, rfl, _⟩ := h
                  omega
                · split at h
                  · have := ih _ _ _ _ _ _ _ h; omega
                  · cases h
          · cases h

end Go.Proofs.YtlaagdpanbineaaDoor

/- A text of JSON read with a stack: what is left to read, by the values that are begun and not ended (no program). -/
namespace Go.Proofs.YtlaagdpanbineaaDoor
open I2

/-- fuel enough -/
def needF : Md → List UInt8 → Nat
  | .val, l => 2 * l.length + 2
  | _, l => 2 * l.length + 3

theorem pJ_fuel : ∀ (f f' : Nat) (m : Md) (d c : Nat) (l : List UInt8), needF m l ≤ f → needF m l ≤ f' → pJ f m d c l = pJ f' m d c l
  | 0, _, m, _, _, _, h, _ => by cases m <;> simp [needF] at h
  | _ + 1, 0, m, _, _, _, _, h => by cases m <;> simp [needF] at h
  | f + 1, f' + 1, .val, d, c, l, h, h' => by
    have ih := pJ_fuel f f'
    simp only [needF] at h h'
    unfold pJ
    by_cases hc : 20000 ≤ c ∧ skipB l ≠ []
    · rw [if_pos hc, if_pos hc]
    rw [if_neg hc, if_neg hc]
    cases hl : skipB l with
    | nil => rfl
    | cons x t =>
      have h1 := skipB_cons hl
      simp only []
      have ha : pJ f (.arr []) d (c + 1) t = pJ f' (.arr []) d (c + 1) t := ih _ _ _ _ (by simp only [needF]; omega) (by simp only [needF]; omega)
      have ho : pJ f (.obj [] []) d (c + 1) t = pJ f' (.obj [] []) d (c + 1) t := ih _ _ _ _ (by simp only [needF]; omega) (by simp only [needF]; omega)
      rw [ha, ho]
  | f + 1, f' + 1, .arr acc, d, c, l, h, h' => by
    have ih := pJ_fuel f f'
    simp only [needF] at h h'
    unfold pJ
    rw [ih .val (d + 1) c l (by simp only [needF]; omega) (by simp only [needF]; omega)]
    cases hv : pJ f' .val (d + 1) c l with
    | bad e => rfl
    | ok v r c' =>
      have h1 := pJ_ok _ _ _ _ _ _ _ _ hv
      simp only []
      cases hr : skipB r with
      | nil => rfl
      | cons y u =>
        have h2 := skipB_cons hr
        simp only []
        rw [ih (.arr (acc ++ [v])) d c' u (by simp only [needF]; omega) (by simp only [needF]; omega)]
  | f + 1, f' + 1, .obj ks acc, d, c, l, h, h' => by
    have ih := pJ_fuel f f'
    simp only [needF] at h h'
    have h0 := skipB_le l
    unfold pJ
    cases ht : takeL (skipB l) with
    | none => rfl
    | some p =>
      obtain ⟨k, n⟩ := p
      simp only []
      by_cases hk : k ∈ ks
      · rw [if_pos hk, if_pos hk]
      rw [if_neg hk, if_neg hk]
      cases hl : skipB ((skipB l).drop n) with
      | nil => rfl
      | cons y u =>
        have h1 := skipB_cons hl
        rw [List.length_drop] at h1
        simp only []
        by_cases hy : y.toNat = 58
        · rw [if_pos hy, if_pos hy]
          rw [ih .val (d + 1) c u (by simp only [needF]; omega) (by simp only [needF]; omega)]
          cases hv : pJ f' .val (d + 1) c u with
          | bad e => rfl
          | ok v r c' =>
            have h3 := pJ_ok _ _ _ _ _ _ _ _ hv
            simp only []
            cases hr : skipB r with
            | nil => rfl
            | cons y2 u2 =>
              have h4 := skipB_cons hr
              simp only []
              rw [ih (.obj (ks ++ [k]) (acc ++ [v])) d c' u2 (by simp only [needF]; omega) (by simp only [needF]; omega)]
        · rw [if_neg hy, if_neg hy]

/-- with fuel enough -/
def pI (m : Md) (d c : Nat) (l : List UInt8) : Res := pJ (2 * l.length + 3) m d c l
theorem pI_of {f : Nat} {m : Md} {l : List UInt8} (h : needF m l ≤ f) (d c : Nat) : pJ f m d c l = pI m d c l :=
  pJ_fuel _ _ _ _ _ _ h (by cases m <;> simp [needF])

theorem pI_val (d c : Nat) (l : List UInt8) : pI .val d c l =
    if 20000 ≤ c ∧ skipB l ≠ [] then .bad 3 else match skipB l with
    | [] => .bad 1
    | x :: t =>
      if x.toNat = 110 then wordR wNull 1 (x :: t) (c + 1)
      else if x.toNat = 102 then wordR wFalse 2 (x :: t) (c + 1)
      else if x.toNat = 116 then wordR wTrue 3 (x :: t) (c + 1)
      else if x.toNat = 34 then strR (x :: t) (c + 1)
      else if x.toNat = 91 then (if 32 ≤ d then .bad 2 else match skipB t with
        | [] => pI (.arr []) d (c + 1) t
        | y :: u => if y.toNat = 93 then .ok (.mk 6 0 [] [] []) u (c + 1) else pI (.arr []) d (c + 1) t)
      else if x.toNat = 123 then (if 32 ≤ d then .bad 2 else match skipB t with
        | [] => pI (.obj [] []) d (c + 1) t
        | y :: u => if y.toNat = 125 then .ok (.mk 7 0 [] [] []) u (c + 1) else pI (.obj [] []) d (c + 1) t)
      else numR (x :: t) (c + 1) := by
  unfold pI
  conv => lhs; unfold pJ
  by_cases hc : 20000 ≤ c ∧ skipB l ≠ []
  · rw [if_pos hc, if_pos hc]
  rw [if_neg hc, if_neg hc]
  cases hl : skipB l with
  | nil => rfl
  | cons x t =>
    have h1 := skipB_cons hl
    simp only []
    rw [pI_of (m := .arr []) (by simp only [needF]; omega), pI_of (m := .obj [] []) (by simp only [needF]; omega)]
    rfl
theorem pI_arr (acc : List NT) (d c : Nat) (l : List UInt8) : pI (.arr acc) d c l =
    match pI .val (d + 1) c l with
    | .bad e => .bad e
    | .ok v r c' => match skipB r with
      | [] => .bad 1
      | y :: u => if y.toNat = 93 then .ok (.mk 6 0 [] [] (acc ++ [v])) u c' else if y.toNat = 44 then pI (.arr (acc ++ [v])) d c' u else .bad 1 := by
  conv => lhs; unfold pI pJ
  rw [pI_of (m := .val) (by simp only [needF]; omega)]
  cases hv : pI .val (d + 1) c l with
  | bad e => rfl
  | ok v r c' =>
    have h1 := pJ_ok _ _ _ _ _ _ _ _ hv
    simp only []
    cases hr : skipB r with
    | nil => rfl
    | cons y u =>
      have h2 := skipB_cons hr
      simp only []
      rw [pI_of (m := .arr (acc ++ [v])) (by simp only [needF]; omega)]
theorem pI_obj (ks : List (List UInt8)) (acc : List NT) (d c : Nat) (l : List UInt8) : pI (.obj ks acc) d c l =
    match takeL (skipB l) with
    | none => .bad 1
    | some (k, n) => if k ∈ ks then .bad 5 else match skipB ((skipB l).drop n) with
      | [] => .bad 1
      | y :: u => if y.toNat = 58 then (match pI .val (d + 1) c u with
        | .bad e => .bad e
        | .ok v r c' => match skipB r with
          | [] => .bad 1
          | y :: u => if y.toNat = 125 then .ok (.mk 7 0 [] (ks ++ [k]) (acc ++ [v])) u c' else if y.toNat = 44 then pI (.obj (ks ++ [k]) (acc ++ [v])) d c' u else .bad 1)
        else .bad 1 := by
  have h0 := skipB_le l
  conv => lhs; unfold pI pJ
  cases ht : takeL (skipB l) with
  | none => rfl
  | some p =>
    obtain ⟨k, n⟩ := p
    simp only []
    by_cases hk : k ∈ ks
    · rw [if_pos hk, if_pos hk]
    rw [if_neg hk, if_neg hk]
    cases hl : skipB ((skipB l).drop n) with
    | nil => rfl
    | cons y u =>
      have h1 := skipB_cons hl
      rw [List.length_drop] at h1
      simp only []
      by_cases hy : y.toNat = 58
      · rw [if_pos hy, if_pos hy]
        rw [pI_of (m := .val) (by simp only [needF]; omega)]
        cases hv : pI .val (d + 1) c u with
        | bad e => rfl
        | ok v r c' =>
          have h3 := pJ_ok _ _ _ _ _ _ _ _ hv
          simp only []
          cases hr : skipB r with
          | nil => rfl
          | cons y2 u2 =>
            have h4 := skipB_cons hr
            simp only []
            rw [pI_of (m := .obj (ks ++ [k]) (acc ++ [v])) (by simp only [needF]; omega)]
      · rw [if_neg hy, if_neg hy]
theorem pI_skip (d c : Nat) (l : List UInt8) : pI .val d c (skipB l) = pI .val d c l := by rw [pI_val, pI_val, skipB_idem]

/-- an Array or Object that is begun and not ended; an Object's keys have that of the value that is being read -/
inductive Fr
  | arr (acc : List NT)
  | obj (ks : List (List UInt8)) (acc : List NT)

/-- the answer of the text, when a value has been read in these -/
def after : List Fr → Res → Ans
  | [], .bad e => .bad e
  | [], .ok v r _ => if skipB r = [] then .ok v else .bad 1
  | _ :: _, .bad e => .bad e
  | .arr acc :: st, .ok v r c => match skipB r with
    | [] => .bad 1
    | y :: u => if y.toNat = 93 then after st (.ok (.mk 6 0 [] [] (acc ++ [v])) u c) else if y.toNat = 44 then after st (pI (.arr (acc ++ [v])) st.length c u) else .bad 1
  | .obj ks acc :: st, .ok v r c => match skipB r with
    | [] => .bad 1
    | y :: u => if y.toNat = 125 then after st (.ok (.mk 7 0 [] ks (acc ++ [v])) u c) else if y.toNat = 44 then after st (pI (.obj ks (acc ++ [v])) st.length c u) else .bad 1

theorem after_bad (st : List Fr) (e : Nat) : after st (.bad e) = .bad e := by cases st <;> rfl
theorem after_arr (st : List Fr) (acc : List NT) (c : Nat) (l : List UInt8) : after st (pI (.arr acc) st.length c l) = after (.arr acc :: st) (pI .val (st.length + 1) c l) := by
  rw [pI_arr]
  cases hv : pI .val (st.length + 1) c l with
  | bad e => simp only [after_bad]
  | ok v r c' =>
    simp only [after]
    cases hr : skipB r with
    | nil => simp only [after_bad]
    | cons y u =>
      simp only []
      split
      · rfl
      · split
        · rfl
        · simp only [after_bad]
/-- the key that stands next -/
inductive KR
  | bad (e : Nat)
  | ok (k : List UInt8) (r : List UInt8)
def keyR (ks : List (List UInt8)) (l : List UInt8) : KR := match takeL (skipB l) with
  | none => .bad 1
  | some (k, n) => if k ∈ ks then .bad 5 else .ok k ((skipB l).drop n)
theorem after_obj (st : List Fr) (ks : List (List UInt8)) (acc : List NT) (c : Nat) (l : List UInt8) : after st (pI (.obj ks acc) st.length c l) = match keyR ks l with
    | .bad e => .bad e
    | .ok k r => match skipB r with
      | [] => .bad 1
      | y :: u => if y.toNat = 58 then after (.obj (ks ++ [k]) acc :: st) (pI .val (st.length + 1) c u) else .bad 1 := by
  rw [pI_obj]
  unfold keyR
  cases ht : takeL (skipB l) with
  | none => simp only [after_bad]
  | some p =>
    obtain ⟨k, n⟩ := p
    simp only []
    by_cases hk : k ∈ ks
    · simp only [if_pos hk, after_bad]
    simp only [if_neg hk]
    cases hl : skipB ((skipB l).drop n) with
    | nil => simp only [after_bad]
    | cons y u =>
      simp only []
      by_cases hy : y.toNat = 58
      · simp only [if_pos hy]
        cases hv : pI .val (st.length + 1) c u with
        | bad e => simp only [after_bad]
        | ok v r c' =>
          simp only [after]
          cases hr : skipB r with
          | nil => simp only [after_bad]
          | cons y2 u2 =>
            simp only []
            split
            · rfl
            · split
              · rfl
              · simp only [after_bad]
      · simp only [if_neg hy, after_bad]
theorem pText_eq (l : List UInt8) : pText l = if 100000 < l.length then .bad 3 else after [] (pI .val 0 0 l) := by
  unfold pText
  rw [pI_of (by simp only [needF]; omega)]
  split
  · rfl
  · cases pI .val 0 0 l <;> rfl

/-- a value in which no others stand, as the program parts the cases -/
def leafR (l : List UInt8) (c : Nat) : Res :=
  if wNull.isPrefixOf l then .ok (litN 1) (l.drop 4) c
  else if wFalse.isPrefixOf l then .ok (litN 2) (l.drop 5) c
  else if wTrue.isPrefixOf l then .ok (litN 3) (l.drop 4) c
  else if bAt l 0 = 34 then strR l c else numR l c

theorem numR_no {x : UInt8} {t : List UInt8} (h1 : x.toNat < 48 ∨ 57 < x.toNat) (h2 : x.toNat ≠ 45) (c : Nat) : numR (x :: t) c = .bad 1 := by
  have hb : bAt (x :: t) 0 = x.toNat := rfl
  have hs : sgn (x :: t) = 0 := by
    unfold sgn
    rw [if_neg (by rw [hb]; exact h2)]
  have hd : digs (x :: t) = 0 := by
    unfold digs
    rw [if_neg (by omega)]
  have hf : front (x :: t) = 0 := by
    unfold front
    rw [hs, hb, List.drop_zero, hd, if_neg (by omega), if_pos rfl]
  unfold numR
  rw [takeR_syn hf]

theorem pre_cons {a x : UInt8} {w t : List UInt8} : (a :: w).isPrefixOf (x :: t) = true → x = a := by
  intro h
  rw [List.isPrefixOf_iff_prefix] at h
  obtain ⟨u, hu⟩ := h
  simp only [List.cons_append, List.cons.injEq] at hu
  exact hu.1.symm

theorem leaf_eq (x : UInt8) (t : List UInt8) (c : Nat) : leafR (x :: t) c =
    (if x.toNat = 110 then wordR wNull 1 (x :: t) c
      else if x.toNat = 102 then wordR wFalse 2 (x :: t) c
      else if x.toNat = 116 then wordR wTrue 3 (x :: t) c
      else if x.toNat = 34 then strR (x :: t) c else numR (x :: t) c) := by
  have hb : bAt (x :: t) 0 = x.toNat := rfl
  unfold leafR wordR
  by_cases h1 : wNull.isPrefixOf (x :: t) = true
  · have : x.toNat = 110 := by rw [pre_cons h1]; rfl
    rw [if_pos h1, if_pos this, if_pos h1]; rfl
  rw [if_neg h1]
  by_cases h2 : wFalse.isPrefixOf (x :: t) = true
  · have : x.toNat = 102 := by rw [pre_cons h2]; rfl
    rw [if_pos h2, if_neg (by omega), if_pos this, if_pos h2]; rfl
  rw [if_neg h2]
  by_cases h3 : wTrue.isPrefixOf (x :: t) = true
  · have : x.toNat = 116 := by rw [pre_cons h3]; rfl
    rw [if_pos h3, if_neg (by omega), if_neg (by omega), if_pos this, if_pos h3]; rfl
  rw [if_neg h3, hb]
  by_cases a1 : x.toNat = 110
  · rw [if_neg (by omega), if_pos a1, if_neg h1, numR_no (by omega) (by omega)]
  rw [if_neg a1]
  by_cases a2 : x.toNat = 102
  · rw [if_neg (by omega), if_pos a2, if_neg h2, numR_no (by omega) (by omega)]
  rw [if_neg a2]
  by_cases a3 : x.toNat = 116
  · rw [if_neg (by omega), if_pos a3, if_neg h3, numR_no (by omega) (by omega)]
  rw [if_neg a3]

/-- what stands at a value's place, as the program parts the cases (its blanks behind it, and there is something, and not too many values) -/
theorem val_leaf {l : List UInt8} {x : UInt8} {t : List UInt8} (h : skipB l = x :: t) {c : Nat} (hc : c < 20000) (h1 : x.toNat ≠ 91) (h2 : x.toNat ≠ 123) (d : Nat) : pI .val d c l = leafR (x :: t) (c + 1) := by
  rw [pI_val, h, leaf_eq, if_neg (by omega)]
  simp only []
  rw [if_neg h1, if_neg h2]
theorem val_end {l : List UInt8} (h : skipB l = []) (d c : Nat) : pI .val d c l = .bad 1 := by
  rw [pI_val, h, if_neg (by simp)]
theorem val_many {l : List UInt8} {x : UInt8} {t : List UInt8} (h : skipB l = x :: t) {c : Nat} (hc : 20000 ≤ c) (d : Nat) : pI .val d c l = .bad 3 := by
  rw [pI_val, h, if_pos ⟨hc, by simp⟩]
theorem val_deep {l : List UInt8} {x : UInt8} {t : List UInt8} (h : skipB l = x :: t) {c : Nat} (hc : c < 20000) (hx : x.toNat = 91 ∨ x.toNat = 123) {d : Nat} (hd : 32 ≤ d) : pI .val d c l = .bad 2 := by
  rw [pI_val, h, if_neg (by omega)]
  simp only []
  rw [if_neg (by omega), if_neg (by omega), if_neg (by omega), if_neg (by omega)]
  rcases hx with hx | hx
  · rw [if_pos hx, if_pos hd]
  · rw [if_neg (by omega), if_pos hx, if_pos hd]
theorem val_arr {l : List UInt8} {x : UInt8} {t : List UInt8} (h : skipB l = x :: t) {c : Nat} (hc : c < 20000) (hx : x.toNat = 91) {d : Nat} (hd : d < 32) : pI .val d c l = (match skipB t with
        | [] => pI (.arr []) d (c + 1) t
        | y :: u => if y.toNat = 93 then .ok (.mk 6 0 [] [] []) u (c + 1) else pI (.arr []) d (c + 1) t) := by
  rw [pI_val, h, if_neg (by omega)]
  simp only []
  rw [if_neg (by omega), if_neg (by omega), if_neg (by omega), if_neg (by omega), if_pos hx, if_neg (by omega)]
theorem val_obj {l : List UInt8} {x : UInt8} {t : List UInt8} (h : skipB l = x :: t) {c : Nat} (hc : c < 20000) (hx : x.toNat = 123) {d : Nat} (hd : d < 32) : pI .val d c l = (match skipB t with
        | [] => pI (.obj [] []) d (c + 1) t
        | y :: u => if y.toNat = 125 then .ok (.mk 7 0 [] [] []) u (c + 1) else pI (.obj [] []) d (c + 1) t) := by
  rw [pI_val, h, if_neg (by omega)]
  simp only []
  rw [if_neg (by omega), if_neg (by omega), if_neg (by omega), if_neg (by omega), if_neg (by omega), if_pos hx, if_neg (by omega)]

end Go.Proofs.YtlaagdpanbineaaDoor

/- What a call leaves in memory; variables of a value's type; lists (general). -/
namespace Go.Proofs.YtlaagdpanbineaaDoor
open Go.RowKit

theorem gb_refl (w : World) (r : Option Nat) : w.grownBy w r := ⟨rfl, rfl, rfl, Nat.le_refl _, fun _ _ _ => rfl⟩
theorem gb_trans {a b c : World} {r : Option Nat} (h : a.grownBy b r) (h2 : b.grownBy c r) : a.grownBy c r :=
  ⟨h2.os.trans h.os, h2.tape.trans h.tape, h2.output.trans h.output, Nat.le_trans h.size h2.size, fun k hk hr => (h2.block k (Nat.lt_of_lt_of_le hk h.size) hr).trans (h.block k hk hr)⟩
theorem gb_same {a b b' : World} {r : Option Nat} (h : a.grownBy b r) (h1 : b'.os = b.os := by rfl) (h2 : b'.tape = b.tape := by rfl) (h3 : b'.output = b.output := by rfl) (h4 : b'.heap = b.heap := by rfl) : a.grownBy b' r :=
  ⟨h1.trans h.os, h2.trans h.tape, h3.trans h.output, by rw [h4]; exact h.size, fun k hk hr => by rw [h4]; exact h.block k hk hr⟩
theorem gb_drewN {a b : World} {r : Option Nat} (h : a.grownBy b r) (n : Nat) : a.grownBy (b.drewN n) r := ⟨h.os, h.tape, h.output, h.size, h.block⟩
theorem gb_set {a b : World} {R j : Nat} (h : a.grownBy b (some R)) (v : Value) : a.grownBy (b.setCell ⟨R, j, none⟩ v) (some R) :=
  ⟨h.os, h.tape, h.output, by simp [World.setCell]; exact h.size, fun k hk hr => by
    rw [← h.block k hk hr]
    simp only [World.setCell]
    rw [Array.getElem?_modify]
    rw [if_neg (fun e => hr (by rw [e]))]⟩
theorem gb_alloc {a b : World} {r : Option Nat} (h : a.grownBy b r) (o : Obj) : a.grownBy (b.alloc o) r :=
  ⟨h.os, h.tape, h.output, by simp; exact Nat.le_succ_of_le h.size, fun k hk hr => (Below.heap_alloc b o k (Nat.lt_of_lt_of_le hk h.size)).trans (h.block k hk hr)⟩
theorem gb_below {a b c : World} {r : Option Nat} (h : a.grownBy b r) (h2 : Below b.heap.size b c) : a.grownBy c r :=
  ⟨h2.os.trans h.os, h2.tape.trans h.tape, h2.output.trans h.output, Nat.le_trans h.size h2.size, fun k hk hr => (h2.block k (Nat.lt_of_lt_of_le hk h.size)).trans (h.block k hk hr)⟩
def headB : List UInt8 → Nat
  | [] => 0
  | c :: _ => c.toNat
theorem drop_hd {s : ByteArray} {a : Nat} (h : a < s.size) : s.data.toList.drop a = s[a] :: s.data.toList.drop (a + 1) := by
  have hl : a < s.data.toList.length := by rw [size_list]; exact h
  rw [List.drop_eq_getElem_cons hl]
  rfl
theorem drop_nl {s : ByteArray} {a : Nat} (h : ¬ a < s.size) : s.data.toList.drop a = [] := by rw [List.drop_eq_nil_iff, size_list]; omega

theorem gb_of1 {a b : World} {r : Option Nat} (h : a.drew.grownBy b r) : a.grownBy b r := ⟨h.os, h.tape, h.output, h.size, h.block⟩
theorem gb_of {a b : World} {n : Nat} {r : Option Nat} (h : (a.drewN n).grownBy b r) : a.grownBy b r := ⟨h.os, h.tape, h.output, h.size, h.block⟩
theorem drop_cons {s : ByteArray} {k : Nat} {y : UInt8} {u : List UInt8} (h : s.data.toList.drop k = y :: u) : k < s.size ∧ u = s.data.toList.drop (k + 1) := by
  have hl := congrArg List.length h
  rw [List.length_drop, size_list, List.length_cons] at hl
  exact ⟨by omega, by rw [← List.drop_drop, h]; rfl⟩

/-- where the byte does not stand -/
def NoB (l : List UInt8) (b : Nat) : Prop := ∀ y u, skipB l = y :: u → y.toNat ≠ b

/-- to go on from a world of which only p is known -/
theorem wp_gen {P : Program} {c : Code} {Q : Exit → Act → World → Prop} {a : Act} {w : World} (p : World → Prop) (hp : p w) (h : ∀ w3, p w3 → Code.wp P c Q a w3) : Code.wp P c Q a w := h w hp

theorem bp_gen {P : Program} {f : Func} {Q : Ending → World → Prop} {e : Exit} {a : Act} {w : World} (p : World → Prop) (hp : p w) (h : ∀ w3, p w3 → bodyPost P f Q e a w3) : bodyPost P f Q e a w := h w hp
theorem gb_new {a b : World} {r : Option Nat} {X j : Nat} (h : a.grownBy b r) (hX : a.heap.size ≤ X) (v : Value) : a.grownBy (b.setCell ⟨X, j, none⟩ v) r :=
  ⟨h.os, h.tape, h.output, by simp [World.setCell]; exact h.size, fun k hk hr => by
    rw [← h.block k hk hr]
    simp only [World.setCell]
    rw [Array.getElem?_modify, if_neg (by omega)]⟩
/-- a variable of a value's type, cell for cell -/
def Blk (w : World) (X : Nat) (c0 c1 c2 c3 c4 : Value) : Prop := w.heap[X]? = some (.cells #[c0, c1, c2, c3, c4] 25 (0, 0))
def zeroBlk (w : World) (X : Nat) : Prop := Blk w X (.int .i64 0) (.int .i64 0) (.string ⟨#[]⟩) (.slice none 0 0) (.slice none 0 0)
theorem Blk.lt {w : World} {X : Nat} {c0 c1 c2 c3 c4 : Value} (h : Blk w X c0 c1 c2 c3 c4) : X < w.heap.size := (Array.getElem?_eq_some_iff.1 h).1
theorem Blk.cell {w : World} {X : Nat} {c0 c1 c2 c3 c4 : Value} (h : Blk w X c0 c1 c2 c3 c4) (j : Nat) (hj : j < 5) : w.cell? ⟨X, j, none⟩ = some (#[c0, c1, c2, c3, c4].getD j .nilIface) := by
  unfold Blk at h
  simp only [World.cell?]
  rw [h]
  rcases (show j = 0 ∨ j = 1 ∨ j = 2 ∨ j = 3 ∨ j = 4 by omega) with rfl | rfl | rfl | rfl | rfl <;> rfl
theorem Blk.fz {w : World} {X : Nat} {c0 c1 c2 c3 c4 : Value} (h : Blk w X c0 c1 c2 c3 c4) (j : Nat) : w.frozen? ⟨X, j, none⟩ = false := by
  unfold Blk at h
  simp only [World.frozen?]
  rw [h]
  simp
theorem Blk.other {w : World} {X b j : Nat} {c0 c1 c2 c3 c4 : Value} (h : Blk w X c0 c1 c2 c3 c4) (hb : b ≠ X) (v : Value) : Blk (w.setCell ⟨b, j, none⟩ v) X c0 c1 c2 c3 c4 := by
  unfold Blk at h ⊢
  simp only [World.setCell]
  rw [Array.getElem?_modify, if_neg hb]
  exact h
/-- all five cells are stored -/
theorem Blk.store {w : World} {X : Nat} {c0 c1 c2 c3 c4 : Value} (h : Blk w X c0 c1 c2 c3 c4) (d0 d1 d2 d3 d4 : Value) :
    Blk (((((w.setCell ⟨X, 0, none⟩ d0).setCell ⟨X, 1, none⟩ d1).setCell ⟨X, 2, none⟩ d2).setCell ⟨X, 3, none⟩ d3).setCell ⟨X, 4, none⟩ d4) X d0 d1 d2 d3 d4 := by
  unfold Blk at h ⊢
  simp [World.setCell, Array.getElem?_modify, h]
theorem own_gb {w w' : World} {R base size n : Nat} {e : TypeId} {v : Value} {xs : List Value} (h : w.ownsRow base e size v n xs) (hg : w.grownBy w' (some R)) (hR : R < base) : w'.ownsRow base e size v n xs := by
  refine h.kept hg ?_
  cases hv : v.ownBlock with
  | none => exact .inl rfl
  | some g =>
    right
    intro e2
    have := (h.lt g hv).1
    injection e2 with e2
    omega
theorem gb_row {a b c : World} {R : Nat} {r : Option Nat} (h : a.grownBy b (some R)) (h2 : b.grownBy c r) (hr : ∀ g, r = some g → a.heap.size ≤ g) : a.grownBy c (some R) :=
  ⟨h2.os.trans h.os, h2.tape.trans h.tape, h2.output.trans h.output, Nat.le_trans h.size h2.size, fun k hk hkr => (h2.block k (Nat.lt_of_lt_of_le hk h.size) (fun e => by have := hr k e.symm; omega)).trans (h.block k hk hkr)⟩
theorem Blk.grown {w w' : World} {X : Nat} {r : Option Nat} {c0 c1 c2 c3 c4 : Value} (h : Blk w X c0 c1 c2 c3 c4) (hg : w.grownBy w' r) (hr : some X ≠ r) : Blk w' X c0 c1 c2 c3 c4 := (hg.block X h.lt hr).trans h
theorem Blk.set4 {w : World} {X : Nat} {c0 c1 c2 c3 c4 : Value} (h : Blk w X c0 c1 c2 c3 c4) (v : Value) : Blk (w.setCell ⟨X, 4, none⟩ v) X c0 c1 c2 c3 v := by
  unfold Blk at h ⊢
  simp [World.setCell, Array.getElem?_modify, h]

theorem news_one (k n : Int) (t : ByteArray) (A A2 : Option Addr) (l c l2 c2 : Nat) : ∀ u ∈ [Value.int .i64 k, .int .i64 n, .string t, .slice A l c, .slice A2 l2 c2], u.oneCell' = true := by
  intro u hu
  simp only [List.mem_cons, List.not_mem_nil, or_false] at hu
  rcases hu with rfl | rfl | rfl | rfl | rfl <;> rfl

theorem heap_alloc_new2 (w : World) (o o2 : Obj) : ((w.alloc o).alloc o2).heap[w.heap.size + 1]? = some o2 := by
  have := heap_alloc_new (w.alloc o) o2
  simpa using this
theorem nodeInfo : (Tryd.prog.info? 25).map (fun i => (i.zero, i.size, i.bytes)) = some (some (.agg #[.int .i64 0, .int .i64 0, .string ⟨#[]⟩, .slice none 0 0, .slice none 0 0]), 5, 80) := by kernel_rfl


end Go.Proofs.YtlaagdpanbineaaDoor

/- A value of JSON in memory: what reads as it, and that it goes on doing so. -/
namespace Go.Proofs.YtlaagdpanbineaaDoor
open Go.RowKit

/-- a slice of texts -/
def StrAt (ok : Nat → Prop) (w : World) (v : Value) (ks : List (List UInt8)) : Prop :=
  ∃ A c, v = .slice A ks.length c ∧ (ks = [] ∨ ∃ b off, A = some ⟨b, off, none⟩ ∧ ok b ∧ b < w.heap.size ∧ ∀ j, j < ks.length → w.cell? ⟨b, off + j, none⟩ = some (.string ⟨(ks.getD j []).toArray⟩))

def litV (k n : Int) (t : List UInt8) (kv cv : Value) : Value := .agg #[.int .i64 k, .int .i64 n, .string ⟨t.toArray⟩, kv, cv]

/-- a value and all that stands in it, at most h of them in one another; all blocks that it lies in are ok -/
def NIs (ok : Nat → Prop) : Nat → World → NT → Value → Prop
  | 0, _, _, _ => False
  | h + 1, w, .mk k n t ks kids, v => ∃ kv A c, v = litV k n t kv (.slice A kids.length c) ∧ StrAt ok w kv ks ∧
      (kids = [] ∨ ∃ b off, A = some ⟨b, off, none⟩ ∧ ok b ∧ b < w.heap.size ∧ ∀ j (hj : j < kids.length), ∃ c0 c1 c2 c3 c4,
        w.cell? ⟨b, off + 5 * j, none⟩ = some c0 ∧ w.cell? ⟨b, off + 5 * j + 1, none⟩ = some c1 ∧ w.cell? ⟨b, off + 5 * j + 2, none⟩ = some c2 ∧ w.cell? ⟨b, off + 5 * j + 3, none⟩ = some c3 ∧ w.cell? ⟨b, off + 5 * j + 4, none⟩ = some c4 ∧
        NIs ok h w kids[j] (.agg #[c0, c1, c2, c3, c4]))

theorem cell_kept {w w' : World} {b j : Nat} (h : w'.heap[b]? = w.heap[b]?) : w'.cell? ⟨b, j, none⟩ = w.cell? ⟨b, j, none⟩ := World.cell?_of_block h

theorem StrAt.kept {ok ok' : Nat → Prop} {w w' : World} {v : Value} {ks : List (List UInt8)} (h : StrAt ok w v ks) (hs : w.heap.size ≤ w'.heap.size) (hk : ∀ b, ok b → b < w.heap.size → ok' b ∧ w'.heap[b]? = w.heap[b]?) : StrAt ok' w' v ks := by
  obtain ⟨A, c, rfl, h2⟩ := h
  refine ⟨A, c, rfl, ?_⟩
  rcases h2 with h2 | ⟨b, off, hA, ho, hb, hc⟩
  · exact .inl h2
  · obtain ⟨o1, o2⟩ := hk b ho hb
    exact .inr ⟨b, off, hA, o1, by omega, fun j hj => (cell_kept o2).trans (hc j hj)⟩

theorem NIs.kept {ok ok' : Nat → Prop} {w w' : World} (hs : w.heap.size ≤ w'.heap.size) (hk : ∀ b, ok b → b < w.heap.size → ok' b ∧ w'.heap[b]? = w.heap[b]?) : ∀ {h : Nat} {t : NT} {v : Value}, NIs ok h w t v → NIs ok' h w' t v
  | 0, _, _, h => h.elim
  | h + 1, .mk k n t ks kids, v, hN => by
    obtain ⟨kv, A, c, rfl, h1, h2⟩ := hN
    refine ⟨kv, A, c, rfl, h1.kept hs hk, ?_⟩
    rcases h2 with h2 | ⟨b, off, hA, ho, hb, hc⟩
    · exact .inl h2
    · obtain ⟨o1, o2⟩ := hk b ho hb
      refine .inr ⟨b, off, hA, o1, by omega, fun j hj => ?_⟩
      obtain ⟨c0, c1, c2, c3, c4, e0, e1, e2, e3, e4, hN⟩ := hc j hj
      exact ⟨c0, c1, c2, c3, c4, (cell_kept o2).trans e0, (cell_kept o2).trans e1, (cell_kept o2).trans e2, (cell_kept o2).trans e3, (cell_kept o2).trans e4, hN.kept hs hk⟩

theorem NIs.mono {ok : Nat → Prop} {w : World} : ∀ {h h' : Nat} {t : NT} {v : Value}, h ≤ h' → NIs ok h w t v → NIs ok h' w t v
  | 0, _, _, _, _, h => h.elim
  | h + 1, 0, _, _, hh, _ => absurd hh (by omega)
  | h + 1, h' + 1, .mk k n t ks kids, v, hh, hN => by
    obtain ⟨kv, A, c, rfl, h1, h2⟩ := hN
    refine ⟨kv, A, c, rfl, h1, ?_⟩
    rcases h2 with h2 | ⟨b, off, hA, ho, hb, hc⟩
    · exact .inl h2
    · refine .inr ⟨b, off, hA, ho, hb, fun j hj => ?_⟩
      obtain ⟨c0, c1, c2, c3, c4, e0, e1, e2, e3, e4, hN⟩ := hc j hj
      exact ⟨c0, c1, c2, c3, c4, e0, e1, e2, e3, e4, hN.mono (by omega)⟩

theorem NIs.below {ok : Nat → Prop} {w w' : World} {h : Nat} {t : NT} {v : Value} (hN : NIs ok h w t v) (hb : Below w.heap.size w w') : NIs ok h w' t v :=
  hN.kept hb.size (fun b ho hlt => ⟨ho, hb.block b hlt⟩)
theorem NIs.grown {ok : Nat → Prop} {w w' : World} {R : Nat} {h : Nat} {t : NT} {v : Value} (hN : NIs ok h w t v) (hg : w.grownBy w' (some R)) (hR : ∀ b, ok b → b ≠ R) : NIs ok h w' t v :=
  hN.kept hg.size (fun b ho hlt => ⟨ho, hg.block b hlt (fun e => hR b ho (by simpa using e))⟩)

/-- the cells of a row of values -/
structure CIs (ok : Nat → Prop) (h : Nat) (w : World) (kids : List NT) (xs : List Value) : Prop where
  len : xs.length = kids.length * 5
  kid : ∀ j (hj : j < kids.length), NIs ok h w kids[j] (.agg #[xs.getD (5 * j) .nilIface, xs.getD (5 * j + 1) .nilIface, xs.getD (5 * j + 2) .nilIface, xs.getD (5 * j + 3) .nilIface, xs.getD (5 * j + 4) .nilIface])

theorem CIs.kept {ok ok' : Nat → Prop} {h : Nat} {w w' : World} {kids : List NT} {xs : List Value} (hC : CIs ok h w kids xs) (hs : w.heap.size ≤ w'.heap.size) (hk : ∀ b, ok b → b < w.heap.size → ok' b ∧ w'.heap[b]? = w.heap[b]?) : CIs ok' h w' kids xs :=
  ⟨hC.len, fun j hj => (hC.kid j hj).kept hs hk⟩
theorem CIs.nil (ok : Nat → Prop) (h : Nat) (w : World) : CIs ok h w [] [] := ⟨rfl, fun j hj => absurd hj (by simp)⟩
theorem CIs.snoc {ok : Nat → Prop} {h : Nat} {w : World} {kids : List NT} {xs : List Value} (hC : CIs ok h w kids xs) {t : NT} {c0 c1 c2 c3 c4 : Value} (hN : NIs ok h w t (.agg #[c0, c1, c2, c3, c4])) : CIs ok h w (kids ++ [t]) (xs ++ [c0, c1, c2, c3, c4]) := by
  have hl := hC.len
  refine ⟨by simp [hl]; omega, fun j hj => ?_⟩
  have hj2 : j < kids.length + 1 := by simpa using hj
  by_cases hjk : j < kids.length
  · have := hC.kid j hjk
    have e : (kids ++ [t])[j] = kids[j] := by rw [List.getElem_append_left hjk]
    rw [e]
    have g : ∀ i, i < xs.length → (xs ++ [c0, c1, c2, c3, c4]).getD i .nilIface = xs.getD i .nilIface := fun i hi => by
      simp [List.getD, List.getElem?_append_left hi]
    rw [g _ (by omega), g _ (by omega), g _ (by omega), g _ (by omega), g _ (by omega)]
    exact this
  · obtain rfl : j = kids.length := by omega
    have e : (kids ++ [t])[kids.length]'hj = t := by simp
    rw [e]
    have g : ∀ i, (xs ++ [c0, c1, c2, c3, c4]).getD (5 * kids.length + i) .nilIface = [c0, c1, c2, c3, c4].getD i .nilIface := fun i => by
      simp only [List.getD]
      rw [List.getElem?_append_right (by omega)]
      congr 2
      omega
    have g0 := g 0
    rw [Nat.add_zero] at g0
    rw [g0, g, g, g, g]
    exact hN

/-- a value's shape -/
def NdV (v : Value) : Prop := ∃ (k n : Int) (t : List UInt8) (A : Option Addr) (l c : Nat) (A2 : Option Addr) (l2 c2 : Nat), v = .agg #[.int .i64 k, .int .i64 n, .string ⟨t.toArray⟩, .slice A l c, .slice A2 l2 c2]
theorem NIs.nd {ok : Nat → Prop} {h : Nat} {w : World} {t : NT} {v : Value} (hN : NIs ok h w t v) : NdV v := by
  cases h with
  | zero => exact hN.elim
  | succ h =>
    cases t with
    | mk k n t ks kids =>
      obtain ⟨kv, A, c, rfl, ⟨A2, c2, rfl, _⟩, _⟩ := hN
      exact ⟨k, n, t, A2, ks.length, c2, A, kids.length, c, rfl⟩


/-- a row that is owned reads as the values -/
theorem NIs.of_own {ok : Nat → Prop} {h B : Nat} {w : World} {kids : List NT} {xs : List Value} {cv kv : Value} {k n : Int} {t : List UInt8} {ks : List (List UInt8)} (hown : w.ownsRow B 25 5 cv kids.length xs) (hC : CIs ok h w kids xs)
    (hg : ∀ g, cv.ownBlock = some g → ok g) (hk : StrAt ok w kv ks) : NIs ok (h + 1) w (.mk k n t ks kids) (litV k n t kv cv) := by
  rcases hown.2 with ⟨rfl, h0⟩ | ⟨g, cap, cur, rfl, hb, hgg, hn, hc, hs, ht⟩
  · have hz : kids = [] := List.eq_nil_of_length_eq_zero h0
    subst hz
    exact ⟨kv, none, 0, rfl, hk, .inl rfl⟩
  · refine ⟨kv, _, cap, rfl, hk, .inr ⟨g, 0, rfl, hg g rfl, (Array.getElem?_eq_some_iff.1 hgg).1, fun j hj => ?_⟩⟩
    have hl := hC.len
    have hcell : ∀ i, i < 5 → w.cell? ⟨g, 0 + 5 * j + i, none⟩ = some (xs.getD (5 * j + i) .nilIface) := fun i hi => by
      have := hown.cellAt (0 + 5 * j + i) (by omega)
      rw [this, Nat.zero_add]
      have hlt : 5 * j + i < xs.length := by omega
      simp [List.getD, hlt]
    exact ⟨_, _, _, _, _, hcell 0 (by omega), hcell 1 (by omega), hcell 2 (by omega), hcell 3 (by omega), hcell 4 (by omega), hC.kid j hj⟩

end Go.Proofs.YtlaagdpanbineaaDoor

/- json.Count and json.Depth on a value in memory. -/
namespace Go.Proofs.YtlaagdpanbineaaDoor
open Go.RowKit

mutual
def cnt : NT → Nat
  | .mk _ _ _ _ kids => 1 + cntL kids
def cntL : List NT → Nat
  | [] => 0
  | t :: ts => cnt t + cntL ts
end
mutual
def dep : NT → Nat
  | .mk _ _ _ _ kids => depL kids
def depL : List NT → Nat
  | [] => 0
  | t :: ts => max (1 + dep t) (depL ts)
end
theorem cntL_append : ∀ a b : List NT, cntL (a ++ b) = cntL a + cntL b
  | [], b => by simp [cntL]
  | t :: a, b => by simp [cntL, cntL_append a b]; omega
theorem depL_append : ∀ a b : List NT, depL (a ++ b) = max (depL a) (depL b)
  | [], b => by simp [depL]
  | t :: a, b => by simp only [List.cons_append, depL, depL_append a b]; omega
theorem take_snoc' (l : List NT) (k : Nat) (h : k < l.length) : l.take (k + 1) = l.take k ++ [l[k]] := by
  rw [List.take_succ_eq_append_getElem h]
theorem cntL_take (l : List NT) (k : Nat) (h : k < l.length) : cntL (l.take (k + 1)) = cntL (l.take k) + cnt l[k] := by rw [take_snoc' l k h, cntL_append]; simp [cntL]
theorem depL_take (l : List NT) (k : Nat) (h : k < l.length) : depL (l.take (k + 1)) = max (depL (l.take k)) (1 + dep l[k]) := by rw [take_snoc' l k h, depL_append]; simp [depL]
theorem cntL_le (l : List NT) (k : Nat) : cntL (l.take k) ≤ cntL l := by
  conv => rhs; rw [← List.take_append_drop k l]
  rw [cntL_append]; omega
theorem depL_le (l : List NT) (k : Nat) : depL (l.take k) ≤ depL l := by
  conv => rhs; rw [← List.take_append_drop k l]
  rw [depL_append]; omega
theorem len_le_cntL : ∀ l : List NT, l.length ≤ cntL l
  | [] => Nat.le_refl _
  | .mk _ _ _ _ ks :: l => by have := len_le_cntL l; simp only [List.length_cons, cntL, cnt]; omega




































































set_option maxRecDepth 100000 in
set_option maxHeartbeats 1000000 in
theorem depth_any (ok : Nat → Prop) : ∀ (h : Nat) (t : NT) (v : Value) (w : World), NIs ok h w t v → dep t ≤ 1000000 → cnt t ≤ 1000000 →
    Calls Tryd.prog 14 #[v] w fun e w' => e = .returned (.int .i64 (dep t)) ∧ Below w.heap.size w w'
  | 0, _, _, _, hN, _, _ => hN.elim
  | h + 1, .mk kd nn tx ks kids, v, w, hN, hbd, hct => by
    have ih := depth_any ok h
    obtain ⟨kv, S, c1, rfl, ⟨S1, c0, rfl, _⟩, hk⟩ := hN
    have hlen := len_le_cntL kids
    simp only [cnt] at hct
    have HIH := Lib.hid ih
    have HK := Lib.hid hk
    have HCT := Lib.hid hct
    have hlen2 : kids.length ≤ 1000000 := by omega
    simp only [dep] at hbd
    have HBD := Lib.hid hbd
    clear ih hk hlen hct hbd
    show Calls Tryd.prog _ #[.agg #[.int .i64 kd, .int .i64 nn, .string ⟨tx.toArray⟩, .slice S1 ks.length c0, .slice S kids.length c1]] w _
    go_enter Tryd.func14, Tryd.ntmps14
    go_wp2
    go_loopw [3, 9] (fun c i wr => ∃ k : Nat, k ≤ kids.length ∧ i = .int .i64 k ∧ c = .int .i64 (depL (kids.take k) : Nat) ∧ Hid (Below w.heap.size w wr)) (fun _ i _ => kids.length - (intOf i).toNat)
    case atStart => exact ⟨0, Nat.zero_le _, rfl, by simp [depL], (Below.refl _ _).alloc (Nat.le_refl _) _⟩
    case round =>
      obtain ⟨k, hkl, rfl, rfl, HB⟩ := hrel
      by_cases hlt : k < kids.length
      · obtain ⟨b, off, rfl, hb0, hc⟩ : ∃ b off, S = some ⟨b, off, none⟩ ∧ b < w.heap.size ∧ ∀ j (hj : j < kids.length), ∃ c0 c1 c2 c3 c4,
            w.cell? ⟨b, off + 5 * j, none⟩ = some c0 ∧ w.cell? ⟨b, off + 5 * j + 1, none⟩ = some c1 ∧ w.cell? ⟨b, off + 5 * j + 2, none⟩ = some c2 ∧ w.cell? ⟨b, off + 5 * j + 3, none⟩ = some c3 ∧ w.cell? ⟨b, off + 5 * j + 4, none⟩ = some c4 ∧
            NIs ok h w kids[j] (.agg #[c0, c1, c2, c3, c4]) := by
          rcases HK.out with e | ⟨b, off, e, _, h1, h2⟩
          · rw [e] at hlt; simp at hlt
          · exact ⟨b, off, e, h1, h2⟩
        obtain ⟨x0, x1, x2, x3, x4, e0, e1, e2, e3, e4, hNk⟩ := hc k hlt
        obtain ⟨kk, n2, t2, S3, l3, m3, S4, l4, m4, hv⟩ := hNk.nd
        simp only [Value.agg.injEq, Array.mk.injEq, List.cons.injEq, and_true] at hv
        obtain ⟨rfl, rfl, rfl, rfl, rfl⟩ := hv
        have hcell : ∀ {j : Nat} {x : Value}, w.cell? ⟨b, off + 5 * k + j, none⟩ = some x → wr.cell? ⟨b, off + k * 5 + j, none⟩ = some x := fun {j x} hx => by
          rw [show off + k * 5 + j = off + 5 * k + j by omega]
          exact (HB.out.cell (p := ⟨b, off + 5 * k + j, none⟩) hb0).trans hx
        have f0 : wr.cell? ⟨b, off + k * 5, none⟩ = _ := hcell (j := 0) e0
        have f1 := hcell e1
        have f2 := hcell e2
        have f3 := hcell e3
        have f4 := hcell e4
        have hba : ∀ o, Below w.heap.size w (wr.alloc o) := fun o => HB.out.alloc (HB.out.size) _
        have hT := fun o => HIH.out kids[k] _ (wr.alloc o) (hNk.below (hba o)) (by have h1 := HBD.out; have h2 := depL_take kids k hlt; have h3 := depL_le kids (k + 1); omega) (by have h1 := HCT.out; have h2 := cntL_take kids k hlt; have h3 := cntL_le kids (k + 1); omega)
        have HT := depL_take kids k hlt
        have HL := depL_le kids (k + 1)
        have HBA := Lib.hid hba
        have HT2 := Lib.hid HT
        have hq1 : depL (kids.take (k + 1)) ≤ 1000000 := by have h1 := HBD.out; omega
        have hq2 : dep kids[k] ≤ 1000000 := by omega
        clear e0 e1 e2 e3 e4 hc hcell hba HT hNk
        go_wp2_with fail
        refine (hT _).mono ?_
        rintro e w2 ⟨rfl, hb2⟩
        have HB2 : Hid (Below w.heap.size w w2) := (HBA.out _).trans (hb2.mono (HBA.out _).size)
        clear hT hb2
        go_wp2
        go_roundw
        case rel => exact ⟨k + 1, by omega, by go_num, by rw [HT2.out]; go_num, HB2⟩
        case measure => simp [intOf]; omega
      · obtain rfl : k = kids.length := by omega
        go_wp2
        go_ret
        refine ⟨?_, HB.out⟩
        rw [List.take_length]
        rfl

end Go.Proofs.YtlaagdpanbineaaDoor

/- The laws of JSON: what their texts are read as (no program). -/
namespace Go.Proofs.YtlaagdpanbineaaDoor
open I2

/-- nothing that a number could go on with -/
def Quiet (z : List UInt8) : Prop := bAt z 0 ≠ 46 ∧ bAt z 0 ≠ 101 ∧ bAt z 0 ≠ 69 ∧ (bAt z 0 < 48 ∨ 57 < bAt z 0)
theorem digs_quiet {z : List UInt8} (h : Quiet z) : digs z = 0 := by
  cases z with
  | nil => rfl
  | cons c r =>
    have hb : bAt (c :: r) 0 = c.toNat := rfl
    unfold digs
    rw [if_neg]
    have := h.2.2.2
    rw [hb] at this
    omega
theorem takeR_one {x : UInt8} {z : List UInt8} (h1 : 49 ≤ x.toNat) (h2 : x.toNat ≤ 57) (hq : Quiet z) : takeR (x :: z) = (((x.toNat - 48 : Nat) : Int), 1, none) := by
  have hb : bAt (x :: z) 0 = x.toNat := rfl
  have hs : sgn (x :: z) = 0 := by unfold sgn; rw [if_neg (by rw [hb]; omega)]
  have hd : digs (x :: z) = 1 := by
    unfold digs
    rw [if_pos ⟨by omega, by omega⟩, digs_quiet hq]
  have hf : front (x :: z) = 1 := by
    unfold front
    rw [hs, hb, List.drop_zero, hd, if_neg (by omega), if_neg (by omega)]
  have ht : two (x :: z) = 1 := by
    unfold two
    rw [hf]
    show 1 + frac z = 1
    unfold frac
    rw [if_neg (fun e => hq.1 e.1)]
  have ha : allOf (x :: z) = 1 := by
    unfold allOf
    rw [ht]
    show 1 + expo z = 1
    unfold expo
    rw [if_neg (fun e => by
      rcases e.1 with e | e
      · exact hq.2.1 e
      · exact hq.2.2.1 e)]
  have hw : wholeV [x] = some ((x.toNat - 48 : Nat) : Int) := by
    unfold wholeV
    rw [atoi_pos [x] (by intro c hc; simp at hc; rw [hc]; omega) (by simp), valFrom_cons, valFrom_nil]
    rw [if_pos (by omega)]
    simp
  rw [takeR_ok (v := ((x.toNat - 48 : Nat) : Int)) (by rw [hf]; omega) (by rw [ha, hf]) (by rw [hf]; exact hw), hf]
theorem numR_one {x : UInt8} {z : List UInt8} (h1 : 49 ≤ x.toNat) (h2 : x.toNat ≤ 57) (hq : Quiet z) (c : Nat) : numR (x :: z) c = .ok (.mk 4 ((x.toNat - 48 : Nat) : Int) [] [] []) z c := by
  unfold numR
  rw [takeR_one h1 h2 hq]
  rfl
theorem val_one {x : UInt8} {z : List UInt8} (h1 : 49 ≤ x.toNat) (h2 : x.toNat ≤ 57) (hq : Quiet z) {c : Nat} (hc : c < 20000) (d : Nat) : pI .val d c (x :: z) = .ok (.mk 4 ((x.toNat - 48 : Nat) : Int) [] [] []) z (c + 1) := by
  have hs : skipB (x :: z) = x :: z := by unfold skipB; rw [if_neg (by unfold isBl; omega)]
  rw [pI_val, hs, if_neg (by omega)]
  simp only []
  rw [if_neg (by omega), if_neg (by omega), if_neg (by omega), if_neg (by omega), if_neg (by omega), if_neg (by omega)]
  exact numR_one h1 h2 hq (c + 1)
theorem val_full {x : UInt8} {z : List UInt8} (h1 : 49 ≤ x.toNat) (h2 : x.toNat ≤ 57) {c : Nat} (hc : 20000 ≤ c) (d : Nat) : pI .val d c (x :: z) = .bad 3 := by
  have hs : skipB (x :: z) = x :: z := by unfold skipB; rw [if_neg (by unfold isBl; omega)]
  exact val_many hs hc d
theorem skip_no {x : UInt8} {t : List UInt8} (h : ¬ isBl x) : skipB (x :: t) = x :: t := by unfold skipB; rw [if_neg h]

/-! ### a row of ones -/
def oneV : NT := .mk 4 1 [] [] []
def moreOnes : Nat → List UInt8
  | 0 => []
  | k + 1 => 44 :: 49 :: moreOnes k
theorem moreOnes_len : ∀ k, (moreOnes k).length = 2 * k
  | 0 => rfl
  | k + 1 => by simp only [moreOnes, List.length_cons, moreOnes_len k]; omega
theorem moreOnes_snoc : ∀ k, moreOnes (k + 1) = moreOnes k ++ [44, 49]
  | 0 => rfl
  | k + 1 => by
    show 44 :: 49 :: moreOnes (k + 1) = (44 :: 49 :: moreOnes k) ++ [44, 49]
    rw [moreOnes_snoc k]; rfl
theorem ones_read : ∀ (k : Nat) (acc : List NT) (c : Nat), pI (.arr acc) 0 c (49 :: (moreOnes k ++ [93])) = if c + k + 1 ≤ 20000 then .ok (.mk 6 0 [] [] (acc ++ List.replicate (k + 1) oneV)) [] (c + k + 1) else .bad 3
  | k, acc, c => by
    have ih := fun k' (_ : k' < k) => ones_read k'
    rw [pI_arr]
    by_cases hc : 20000 ≤ c
    · rw [val_full (by decide) (by decide) hc, if_neg (by omega)]
    · cases k with
      | zero =>
        rw [val_one (by decide) (by decide) (by refine ⟨?_, ?_, ?_, ?_⟩ <;> decide) (by omega), if_pos (by omega)]
        show (match skipB [93] with
          | [] => Res.bad 1
          | y :: u => if y.toNat = 93 then .ok (.mk 6 0 [] [] (acc ++ [_])) u (c + 1) else _) = _
        rw [skip_no (by unfold isBl; decide)]
        rfl
      | succ k =>
        rw [val_one (by decide) (by decide) (by refine ⟨?_, ?_, ?_, ?_⟩ <;> simp [moreOnes, bAt]) (by omega)]
        simp only [moreOnes, List.cons_append]
        rw [skip_no (by unfold isBl; decide)]
        simp only []
        rw [if_neg (by decide), if_pos (by decide), ih k (by omega), show c + 1 + k + 1 = c + (k + 1) + 1 by omega]
        split
        · rw [List.append_assoc]
          rfl
        · rfl
termination_by k => k
theorem cntL_ones : ∀ k, cntL (List.replicate k oneV) = k
  | 0 => rfl
  | k + 1 => by
    rw [List.replicate_succ]
    show cnt oneV + cntL (List.replicate k oneV) = k + 1
    rw [cntL_ones k]
    have : cnt oneV = 1 := rfl
    omega

theorem long_values (N : Nat) (h0 : 1 ≤ N) (h1 : 2 * N + 1 ≤ 100000) : pText (91 :: 49 :: (moreOnes (N - 1) ++ [93])) = if N + 1 ≤ 20000 then .ok (.mk 6 0 [] [] (List.replicate N oneV)) else .bad 3 := by
  rw [pText_eq, if_neg (by simp [moreOnes_len]; omega)]
  have hs : skipB (91 :: 49 :: (moreOnes (N - 1) ++ [93])) = 91 :: 49 :: (moreOnes (N - 1) ++ [93]) := skip_no (by unfold isBl; decide)
  rw [val_arr hs (by omega) (by decide) (by omega), skip_no (by unfold isBl; decide)]
  simp only []
  rw [if_neg (by decide), ones_read]
  rw [show 0 + 1 + (N - 1) + 1 = N + 1 by omega, show N - 1 + 1 = N by omega]
  split
  · simp only [after, List.nil_append]
    rw [if_pos (by rfl)]
  · rfl
theorem skip_blanks : ∀ m, skipB (List.replicate m 32) = []
  | 0 => rfl
  | m + 1 => by rw [List.replicate_succ]; unfold skipB; rw [if_pos (by unfold isBl; decide)]; exact skip_blanks m
theorem long_bytes (m : Nat) : pText (53 :: List.replicate m 32) = if m + 1 ≤ 100000 then .ok (.mk 4 5 [] [] []) else .bad 3 := by
  rw [pText_eq]
  by_cases h : m + 1 ≤ 100000
  · rw [if_neg (by simp; omega), if_pos h, val_one (by decide) (by decide) (by cases m <;> (refine ⟨?_, ?_, ?_, ?_⟩ <;> simp [bAt, List.replicate_succ])) (by omega)]
    simp only [after]
    rw [skip_blanks, if_pos rfl]
    rfl
  · rw [if_pos (by simp; omega), if_neg h]

/-! ### values in one another -/
def opB : Bool → List UInt8
  | true => [91]
  | false => [123, 34, 107, 34, 58]
def clB : Bool → UInt8
  | true => 93
  | false => 125
def ahd (l : List Bool) : List UInt8 := l.flatMap opB
def bhd (l : List Bool) : List UInt8 := (l.map clB).reverse
theorem ahd_snoc (l : List Bool) (b : Bool) : ahd (l ++ [b]) = ahd l ++ opB b := by simp [ahd]
theorem bhd_snoc (l : List Bool) (b : Bool) : bhd (l ++ [b]) = clB b :: bhd l := by simp [bhd]
theorem bhd_cons (l : List Bool) (b : Bool) : bhd (b :: l) = bhd l ++ [clB b] := by simp [bhd]
theorem ahd_len (l : List Bool) : (ahd l).length ≤ 5 * l.length := by
  induction l with
  | nil => simp [ahd]
  | cons b l ih =>
    have : (opB b).length ≤ 5 := by cases b <;> decide
    simp only [ahd, List.flatMap_cons, List.length_append, List.length_cons] at *
    omega
theorem bhd_len (l : List Bool) : (bhd l).length = l.length := by simp [bhd]
def nest : List Bool → NT
  | [] => .mk 4 7 [] [] []
  | true :: l => .mk 6 0 [] [] [nest l]
  | false :: l => .mk 7 0 [] [[107]] [nest l]
theorem nest_cnt : ∀ l, cnt (nest l) = l.length + 1
  | [] => rfl
  | true :: l => by simp only [nest, cnt, cntL, nest_cnt l, List.length_cons]; omega
  | false :: l => by simp only [nest, cnt, cntL, nest_cnt l, List.length_cons]; omega
theorem nest_dep : ∀ l, dep (nest l) = l.length
  | [] => rfl
  | true :: l => by simp only [nest, dep, depL, nest_dep l, List.length_cons]; omega
  | false :: l => by simp only [nest, dep, depL, nest_dep l, List.length_cons]; omega
theorem key_k (t : List UInt8) : takeL (34 :: 107 :: 34 :: t) = some ([107], 3) := by
  have hp : Piece (encB 107) 107 := .plain 107 (by unfold isPt; omega) (by omega) (by omega) (by omega)
  have he : encB 107 = [107] := by decide +kernel
  rw [he] at hp
  have h := takeL_body (Body.cons hp Body.nil) t
  have h2 : encLB [107] = [107] := by rw [encLB_cons, he]; rfl
  rw [h2] at h
  exact h
theorem closer (b : Bool) : ¬ isBl (clB b) ∧ (clB b).toNat = (if b then 93 else 125) := by cases b <;> (unfold isBl; decide)
theorem head_of (l : List Bool) (t : List UInt8) : ∃ x u, ahd l ++ 55 :: t = x :: u ∧ ¬ isBl x ∧ x.toNat ≠ 93 ∧ x.toNat ≠ 125 := by
  cases l with
  | nil => exact ⟨55, t, rfl, by unfold isBl; decide, by decide, by decide⟩
  | cons b l =>
    cases b
    · exact ⟨123, _, rfl, by unfold isBl; decide, by decide, by decide⟩
    · exact ⟨91, _, rfl, by unfold isBl; decide, by decide, by decide⟩

theorem deep_read : ∀ (l : List Bool) (d c : Nat) (z : List UInt8), c + l.length < 20000 → Quiet z → pI .val d c (ahd l ++ 55 :: (bhd l ++ z)) = if d + l.length ≤ 32 ∨ l = [] then .ok (nest l) z (c + l.length + 1) else .bad 2
  | [], d, c, z, hc, hq => by
    rw [if_pos (.inr rfl)]
    show pI .val d c (55 :: z) = _
    rw [val_one (by decide) (by decide) hq (by simpa using hc)]
    rfl
  | b :: l, d, c, z, hc, hq => by
    have hqz : Quiet (clB b :: z) := by cases b <;> (refine ⟨?_, ?_, ?_, ?_⟩ <;> simp [clB, bAt])
    have ih := deep_read l (d + 1) (c + 1) (clB b :: z) (by simp only [List.length_cons] at hc; omega) hqz
    rw [bhd_cons, List.append_assoc]
    rw [show ([clB b] ++ z : List UInt8) = clB b :: z from rfl]
    simp only [List.length_cons] at hc ⊢
    obtain ⟨x, u, hxu, hx1, hx2, hx3⟩ := head_of l (bhd l ++ clB b :: z)
    cases b with
    | true =>
      have hs : skipB (ahd (true :: l) ++ 55 :: (bhd l ++ clB true :: z)) = 91 :: (ahd l ++ 55 :: (bhd l ++ clB true :: z)) := skip_no (by unfold isBl; decide)
      by_cases hd : 32 ≤ d
      · rw [val_deep hs (by omega) (.inl (by decide)) hd, if_neg (by simp; omega)]
      rw [val_arr hs (by omega) (by decide) (by omega), hxu, skip_no hx1]
      simp only []
      rw [if_neg hx2, ← hxu, pI_arr, ih]
      by_cases hl : d + 1 + l.length ≤ 32 ∨ l = []
      · rw [if_pos hl, if_pos (by left; rcases hl with h | h; omega; rw [h]; simp; omega)]
        simp only []
        rw [skip_no (closer true).1]
        simp only []
        rw [if_pos (by decide)]
        simp only [nest, List.nil_append]
        congr 1
        omega
      · rw [if_neg hl, if_neg (by simp; omega)]
    | false =>
      have hs : skipB (ahd (false :: l) ++ 55 :: (bhd l ++ clB false :: z)) = 123 :: 34 :: 107 :: 34 :: 58 :: (ahd l ++ 55 :: (bhd l ++ clB false :: z)) := skip_no (by unfold isBl; decide)
      by_cases hd : 32 ≤ d
      · rw [val_deep hs (by omega) (.inr (by decide)) hd, if_neg (by simp; omega)]
      rw [val_obj hs (by omega) (by decide) (by omega), skip_no (by unfold isBl; decide)]
      simp only []
      rw [if_neg (by decide), pI_obj, skip_no (by unfold isBl; decide), key_k]
      simp only []
      rw [if_neg (by simp)]
      show (match skipB (58 :: (ahd l ++ 55 :: (bhd l ++ clB false :: z))) with
        | [] => Res.bad 1
        | y :: u => if y.toNat = 58 then _ else _) = _
      rw [skip_no (by unfold isBl; decide)]
      simp only []
      rw [if_pos (by decide), ih]
      by_cases hl : d + 1 + l.length ≤ 32 ∨ l = []
      · rw [if_pos hl, if_pos (by left; rcases hl with h | h; omega; rw [h]; simp; omega)]
        simp only []
        rw [skip_no (closer false).1]
        simp only []
        rw [if_pos (by decide)]
        simp only [nest, List.nil_append]
        congr 1
        omega
      · rw [if_neg hl, if_neg (by simp; omega)]
theorem deep_text (l : List Bool) (h : l.length ≤ 100) : pText (ahd l ++ 55 :: bhd l) = if l.length ≤ 32 then .ok (nest l) else .bad 2 := by
  have h1 := ahd_len l
  have h2 := bhd_len l
  rw [pText_eq, if_neg (by simp; omega)]
  have := deep_read l 0 0 [] (by omega) (by refine ⟨?_, ?_, ?_, ?_⟩ <;> decide)
  rw [List.append_nil] at this
  rw [this]
  by_cases hl : l.length ≤ 32
  · rw [if_pos (.inl (by omega)), if_pos hl]
    rfl
  · rw [if_neg (by rintro (e | e); omega; rw [e] at hl; simp at hl), if_neg hl]
    rfl

end Go.Proofs.YtlaagdpanbineaaDoor

/- JsonBlanks: a text among blanks, or in an Array, is read as it is alone (no program). -/
namespace Go.Proofs.YtlaagdpanbineaaDoor
open I2

/-- what may stand behind a value -/
def Stp (z : List UInt8) : Prop := ∀ x u, z = x :: u → isBl x ∨ x.toNat = 44 ∨ x.toNat = 93 ∨ x.toNat = 125
theorem Stp.b {z : List UInt8} (h : Stp z) : bAt z 0 = 0 ∨ bAt z 0 = 9 ∨ bAt z 0 = 10 ∨ bAt z 0 = 13 ∨ bAt z 0 = 32 ∨ bAt z 0 = 44 ∨ bAt z 0 = 93 ∨ bAt z 0 = 125 := by
  cases z with
  | nil => left; rfl
  | cons x u => have := h x u rfl; unfold isBl at this; rw [bAt_cons]; omega
theorem Stp.quiet {z : List UInt8} (h : Stp z) : Quiet z := by have := h.b; unfold Quiet; omega
theorem bAt_app {l z : List UInt8} (h : Stp z) {i : Nat} (hi : i ≤ l.length) : bAt (l ++ z) i = bAt l i ∨ (bAt l i = 0 ∧ (bAt (l ++ z) i = 0 ∨ bAt (l ++ z) i = 9 ∨ bAt (l ++ z) i = 10 ∨ bAt (l ++ z) i = 13 ∨ bAt (l ++ z) i = 32 ∨ bAt (l ++ z) i = 44 ∨ bAt (l ++ z) i = 93 ∨ bAt (l ++ z) i = 125)) := by
  rcases Nat.lt_or_ge i l.length with h1 | h1
  · left; exact bAt_left h1
  · right
    obtain rfl : i = l.length + 0 := by omega
    rw [bAt_right, bAt_out (l := l) (by omega)]
    exact ⟨rfl, h.b⟩
theorem digs_app {l z : List UInt8} (h : Quiet z) : digs (l ++ z) = digs l := by
  induction l with
  | nil => exact digs_quiet h
  | cons c r ih => simp only [List.cons_append]; unfold digs; rw [ih]
theorem drop_app {l z : List UInt8} {k : Nat} (h : k ≤ l.length) : (l ++ z).drop k = l.drop k ++ z := List.drop_append_of_le_length h
theorem sgn_app {l z : List UInt8} (h : Stp z) : sgn (l ++ z) = sgn l := by
  unfold sgn
  have := bAt_app (l := l) h (Nat.zero_le _)
  by_cases hc : bAt l 0 = 45
  · rw [if_pos hc, if_pos (by omega)]
  · rw [if_neg hc, if_neg (by omega)]
theorem front_app {l z : List UInt8} (h : Stp z) : front (l ++ z) = front l := by
  unfold front
  rw [sgn_app h, drop_app (sgn_le l), digs_app h.quiet]
  have := bAt_app h (sgn_le l)
  by_cases hc : bAt l (sgn l) = 48
  · rw [if_pos hc, if_pos (by omega)]
  · rw [if_neg hc, if_neg (by omega)]
theorem frac_app {l z : List UInt8} (h : Stp z) : frac (l ++ z) = frac l := by
  unfold frac
  cases l with
  | nil =>
    have := h.b
    rw [List.nil_append, if_neg (by omega), if_neg (by intro e; have h2 : bAt [] 0 = 0 := rfl; omega)]
  | cons c r =>
    rw [drop_app (by simp), digs_app h.quiet]
    rfl
theorem expo_app {l z : List UInt8} (h : Stp z) : expo (l ++ z) = expo l := by
  unfold expo
  cases l with
  | nil =>
    have := h.b
    rw [List.nil_append, if_neg (by omega), if_neg (by intro e; have h2 : bAt [] 0 = 0 := rfl; omega)]
  | cons c r =>
    have he : exps (c :: r ++ z) = exps (c :: r) := by
      unfold exps
      have := bAt_app (l := c :: r) h (i := 1) (by simp)
      by_cases hc : bAt (c :: r) 1 = 43 ∨ bAt (c :: r) 1 = 45
      · rw [if_pos hc, if_pos (by omega)]
      · rw [if_neg hc, if_neg (by omega)]
    have hl : exps (c :: r) ≤ (c :: r).length := by
      unfold exps
      split
      · have := bAt_pos (l := c :: r) (i := 1) (by omega); omega
      · simp
    rw [he, drop_app hl, digs_app h.quiet]
    rfl
theorem allOf_app {l z : List UInt8} (h : Stp z) : allOf (l ++ z) = allOf l := by
  have h2 : two (l ++ z) = two l := by
    unfold two
    rw [front_app h, drop_app (front_le l), frac_app h]
  unfold allOf
  rw [h2, drop_app (two_le l), expo_app h]
theorem takeR_app {l z : List UInt8} (h : Stp z) : takeR (l ++ z) = takeR l := by
  unfold takeR
  rw [front_app h, allOf_app h, List.take_append_of_le_length (front_le l)]

theorem takeL_app {l x : List UInt8} {n : Nat} (h : takeL l = some (x, n)) (z : List UInt8) : takeL (l ++ z) = some (x, n) := by
  obtain ⟨b, t, ps, rfl, hb, rfl, rfl⟩ := takeL_of h
  have h2 := takeL_body hb (t ++ z)
  rw [show 34 :: (b ++ 34 :: t) ++ z = 34 :: (b ++ 34 :: (t ++ z)) by simp]
  exact h2
theorem takeL_le {l x : List UInt8} {n : Nat} (h : takeL l = some (x, n)) : n ≤ l.length := by
  obtain ⟨b, t, ps, rfl, hb, rfl, rfl⟩ := takeL_of h
  simp <;> omega
theorem takeL_none {l z : List UInt8} (h : takeL l = none) (hz : ∀ c ∈ z, c.toNat ≠ 34) : takeL (l ++ z) = none := by
  cases h2 : takeL (l ++ z) with
  | none => rfl
  | some p =>
    obtain ⟨x, n⟩ := p
    obtain ⟨b, t, ps, he, hb, rfl, rfl⟩ := takeL_of h2
    exfalso
    rw [show 34 :: (b ++ 34 :: t) = (34 :: (b ++ [34])) ++ t by simp] at he
    rcases List.append_eq_append_iff.1 he with ⟨a, h3, h4⟩ | ⟨a, h3, h4⟩
    · cases a with
      | nil =>
        rw [List.append_nil] at h3
        rw [← h3, takeL_body hb []] at h
        cases h
      | cons c a =>
        have h5 : (34 : UInt8) ∈ c :: a := by
          have h6 : (34 :: (b ++ [34]) : List UInt8).getLast? = some 34 := by rw [← List.cons_append]; exact List.getLast?_concat
          rw [h3, List.getLast?_append] at h6
          cases hq : (c :: a).getLast? with
          | none => exact absurd (List.getLast?_eq_none_iff.1 hq) (by simp)
          | some q =>
            rw [hq, Option.some_or] at h6
            rw [← Option.some.inj h6]
            exact List.mem_of_getLast? hq
        exact hz 34 (by rw [h4]; exact List.mem_append_left _ h5) rfl
    · rw [h3, show 34 :: (b ++ [34]) ++ a = 34 :: (b ++ 34 :: a) by simp, takeL_body hb a] at h
      cases h

def AllBl (z : List UInt8) : Prop := ∀ c ∈ z, isBl c
theorem AllBl.stp {z : List UInt8} (h : AllBl z) : Stp z := fun x u e => .inl (h x (by rw [e]; simp))
theorem AllBl.no34 {z : List UInt8} (h : AllBl z) : ∀ c ∈ z, c.toNat ≠ 34 := fun c hc => by have := h c hc; unfold isBl at this; omega
theorem skip_all : ∀ {z : List UInt8}, AllBl z → skipB z = []
  | [], _ => rfl
  | c :: z, h => by unfold skipB; rw [if_pos (h c (by simp))]; exact skip_all fun x hx => h x (by simp [hx])
theorem skip_app {z : List UInt8} : ∀ {l t : List UInt8} {c : UInt8}, skipB l = c :: t → skipB (l ++ z) = c :: (t ++ z)
  | [], _, _, h => by simp [skipB] at h
  | x :: l, t, c, h => by
    rw [List.cons_append]
    unfold skipB at h ⊢
    split at h
    · rw [if_pos (by assumption)]; exact skip_app h
    · rw [if_neg (by assumption)]
      simp only [List.cons.injEq] at h
      rw [h.1, h.2]
theorem skip_nil {z : List UInt8} : ∀ {l : List UInt8}, skipB l = [] → skipB (l ++ z) = skipB z
  | [], _ => rfl
  | x :: l, h => by
    rw [List.cons_append]
    unfold skipB at h
    split at h
    · rename_i hx
      conv => lhs; unfold skipB
      rw [if_pos hx]; exact skip_nil h
    · cases h
theorem skip_ahead {z l : List UInt8} (h : AllBl z) : skipB (z ++ l) = skipB l := skip_nil (skip_all h)

theorem word_app {w l : List UInt8} (z : List UInt8) (h : w.isPrefixOf l = true) : w.isPrefixOf (l ++ z) = true ∧ (l ++ z).drop w.length = l.drop w.length ++ z := by
  have h1 := List.isPrefixOf_iff_prefix.1 h
  exact ⟨List.isPrefixOf_iff_prefix.2 (h1.trans (List.prefix_append _ _)), drop_app h1.length_le⟩
theorem word_no {w l z : List UInt8} (hz : AllBl z) (hw : ∀ c ∈ w, ¬ isBl c) (h : w.isPrefixOf l = false) : w.isPrefixOf (l ++ z) = false := by
  cases h2 : w.isPrefixOf (l ++ z) with
  | false => rfl
  | true =>
    have h1 := List.isPrefixOf_iff_prefix.1 h2
    have h0 : ¬ w <+: l := fun e => by rw [List.isPrefixOf_iff_prefix.2 e] at h; cases h
    rcases List.prefix_or_prefix_of_prefix h1 (List.prefix_append l z) with h3 | ⟨e, rfl⟩
    · exact absurd h3 h0
    · cases e with
      | nil => exact absurd (by simp) h0
      | cons x e =>
        obtain ⟨u, hu⟩ := h1
        rw [List.append_assoc] at hu
        have h4 := List.append_cancel_left hu
        exact absurd (hz x (by rw [← h4]; simp)) (hw x (by simp))

def Res.app (z : List UInt8) : Res → Res
  | .bad e => .bad e
  | .ok v r c => .ok v (r ++ z) c
theorem wordR_app {w l z : List UInt8} (hz : AllBl z) (hw : ∀ c ∈ w, ¬ isBl c) (k : Int) (c : Nat) : wordR w k (l ++ z) c = (wordR w k l c).app z := by
  unfold wordR
  cases h : w.isPrefixOf l with
  | true => rw [if_pos (word_app z h).1, if_pos rfl, (word_app z h).2]; rfl
  | false => rw [if_neg (by rw [word_no hz hw h]; simp), if_neg (by simp)]; rfl
theorem numR_app {l z : List UInt8} (hz : Stp z) (c : Nat) : numR (l ++ z) c = (numR l c).app z := by
  unfold numR
  rw [takeR_app hz]
  rcases hR : takeR l with ⟨v, n, o⟩
  cases o with
  | some e => rfl
  | none =>
    have hn : n ≤ l.length := by
      have h2 := front_le l
      unfold takeR at hR
      split at hR
      · simp at hR
      · split at hR
        · simp only [Prod.mk.injEq] at hR; omega
        · simp at hR
    simp only [Res.app]
    rw [drop_app hn]
theorem strR_app {l z : List UInt8} (hz : AllBl z) (c : Nat) : strR (l ++ z) c = (strR l c).app z := by
  unfold strR
  cases h : takeL l with
  | none => rw [takeL_none h hz.no34]; rfl
  | some p =>
    obtain ⟨x, n⟩ := p
    rw [takeL_app h]
    simp only [Res.app]
    rw [drop_app (takeL_le h)]
theorem wNull_no : ∀ c ∈ wNull, ¬ isBl c := by unfold wNull isBl; decide
theorem wFalse_no : ∀ c ∈ wFalse, ¬ isBl c := by unfold wFalse isBl; decide
theorem wTrue_no : ∀ c ∈ wTrue, ¬ isBl c := by unfold wTrue isBl; decide

theorem pJ_app {z : List UInt8} (hz : AllBl z) : ∀ (f : Nat) (m : Md) (d c : Nat) (l : List UInt8), pJ f m d c (l ++ z) = (pJ f m d c l).app z
  | 0, _, _, _, _ => rfl
  | f + 1, .val, d, c, l => by
    have ih := pJ_app hz f
    unfold pJ
    cases hl : skipB l with
    | nil =>
      rw [skip_nil hl, skip_all hz, if_neg (by simp)]
      rfl
    | cons x t =>
      rw [skip_app hl]
      by_cases hc : 20000 ≤ c
      · rw [if_pos ⟨hc, by simp⟩, if_pos ⟨hc, by simp⟩]; rfl
      rw [if_neg (by omega), if_neg (by omega)]
      simp only []
      by_cases h1 : x.toNat = 110
      · rw [if_pos h1, if_pos h1]; exact wordR_app (l := x :: t) hz wNull_no 1 _
      rw [if_neg h1, if_neg h1]
      by_cases h2 : x.toNat = 102
      · rw [if_pos h2, if_pos h2]; exact wordR_app (l := x :: t) hz wFalse_no 2 _
      rw [if_neg h2, if_neg h2]
      by_cases h3 : x.toNat = 116
      · rw [if_pos h3, if_pos h3]; exact wordR_app (l := x :: t) hz wTrue_no 3 _
      rw [if_neg h3, if_neg h3]
      by_cases h4 : x.toNat = 34
      · rw [if_pos h4, if_pos h4]; exact strR_app (l := x :: t) hz _
      rw [if_neg h4, if_neg h4]
      by_cases h5 : x.toNat = 91
      · rw [if_pos h5, if_pos h5]
        by_cases hd : 32 ≤ d
        · rw [if_pos hd, if_pos hd]; rfl
        rw [if_neg hd, if_neg hd]
        cases ht : skipB t with
        | nil => rw [skip_nil ht, skip_all hz]; exact ih _ _ _ _
        | cons y u =>
          rw [skip_app ht]
          simp only []
          by_cases hy : y.toNat = 93
          · rw [if_pos hy, if_pos hy]; rfl
          · rw [if_neg hy, if_neg hy]; exact ih _ _ _ _
      rw [if_neg h5, if_neg h5]
      by_cases h6 : x.toNat = 123
      · rw [if_pos h6, if_pos h6]
        by_cases hd : 32 ≤ d
        · rw [if_pos hd, if_pos hd]; rfl
        rw [if_neg hd, if_neg hd]
        cases ht : skipB t with
        | nil => rw [skip_nil ht, skip_all hz]; exact ih _ _ _ _
        | cons y u =>
          rw [skip_app ht]
          simp only []
          by_cases hy : y.toNat = 125
          · rw [if_pos hy, if_pos hy]; rfl
          · rw [if_neg hy, if_neg hy]; exact ih _ _ _ _
      rw [if_neg h6, if_neg h6]
      exact numR_app (l := x :: t) hz.stp _
  | f + 1, .arr acc, d, c, l => by
    have ih := pJ_app hz f
    unfold pJ
    rw [ih]
    cases hv : pJ f .val (d + 1) c l with
    | bad e => rfl
    | ok v r c' =>
      simp only [Res.app]
      cases hr : skipB r with
      | nil => rw [skip_nil hr, skip_all hz]
      | cons y u =>
        rw [skip_app hr]
        simp only []
        by_cases hy : y.toNat = 93
        · rw [if_pos hy, if_pos hy]
        rw [if_neg hy, if_neg hy]
        by_cases hy2 : y.toNat = 44
        · rw [if_pos hy2, if_pos hy2]; exact ih _ _ _ _
        · rw [if_neg hy2, if_neg hy2]
  | f + 1, .obj ks acc, d, c, l => by
    have ih := pJ_app hz f
    unfold pJ
    have ht0 : takeL (skipB (l ++ z)) = takeL (skipB l) ∧ (∀ x n, takeL (skipB l) = some (x, n) → (skipB (l ++ z)).drop n = (skipB l).drop n ++ z) := by
      cases hl : skipB l with
      | nil => rw [skip_nil hl, skip_all hz]; exact ⟨rfl, fun x n h => by cases h⟩
      | cons x t =>
        rw [skip_app hl]
        cases hx : takeL (x :: t) with
        | none => exact ⟨takeL_none hx hz.no34, fun x n h => by cases h⟩
        | some p =>
          obtain ⟨k, n⟩ := p
          refine ⟨takeL_app hx z, fun k' n' h => ?_⟩
          have := takeL_le hx
          simp only [Option.some.injEq, Prod.mk.injEq] at h
          rw [← h.2]
          exact drop_app this
    rw [ht0.1]
    cases ht : takeL (skipB l) with
    | none => rfl
    | some p =>
      obtain ⟨k, n⟩ := p
      simp only []
      rw [ht0.2 k n ht]
      by_cases hk : k ∈ ks
      · rw [if_pos hk, if_pos hk]; rfl
      rw [if_neg hk, if_neg hk]
      cases hl : skipB ((skipB l).drop n) with
      | nil => rw [skip_nil hl, skip_all hz]; rfl
      | cons y u =>
        rw [skip_app hl]
        simp only []
        by_cases hy : y.toNat = 58
        · rw [if_pos hy, if_pos hy, ih]
          cases hv : pJ f .val (d + 1) c u with
          | bad e => rfl
          | ok v r c' =>
            simp only [Res.app]
            cases hr : skipB r with
            | nil => rw [skip_nil hr, skip_all hz]
            | cons y2 u2 =>
              rw [skip_app hr]
              simp only []
              by_cases hy3 : y2.toNat = 125
              · rw [if_pos hy3, if_pos hy3]
              rw [if_neg hy3, if_neg hy3]
              by_cases hy2 : y2.toNat = 44
              · rw [if_pos hy2, if_pos hy2]; exact ih _ _ _ _
              · rw [if_neg hy2, if_neg hy2]
        · rw [if_neg hy, if_neg hy]; rfl

theorem pI_app {z : List UInt8} (hz : AllBl z) (m : Md) (d c : Nat) (l : List UInt8) : pI m d c (l ++ z) = (pI m d c l).app z := by
  have h1 : pI m d c l = pJ (2 * (l ++ z).length + 3) m d c l := (pI_of (by cases m <;> simp [needF] <;> omega) d c).symm
  rw [h1]
  exact pJ_app hz _ _ _ _ _

/-- blanks ahead and behind -/
theorem blanks_text {B s : List UInt8} (hB : AllBl B) (h : s.length + 2 * B.length ≤ 100000) : pText (B ++ (s ++ B)) = pText s := by
  rw [pText_eq, pText_eq, if_neg (by simp; omega), if_neg (by omega)]
  have h1 : pI .val 0 0 (B ++ (s ++ B)) = pI .val 0 0 (s ++ B) := by rw [← pI_skip 0 0 (B ++ (s ++ B)), skip_ahead hB, pI_skip]
  rw [h1, pI_app hB]
  cases pI .val 0 0 s with
  | bad e => rfl
  | ok v r c =>
    simp only [Res.app, after]
    cases hr : skipB r with
    | nil => rw [skip_nil hr, skip_all hB]
    | cons y u => rw [skip_app hr]; simp

/-! ### in another place -/
def gives : Md → NT → Prop
  | .val, _ => True
  | .arr acc, v => ∃ rest, v = .mk 6 0 [] [] (acc ++ rest)
  | .obj ks acc, v => ∃ ks' rest, v = .mk 7 0 [] (ks ++ ks') (acc ++ rest)
theorem pJ_grow : ∀ (f : Nat) (m : Md) (d c : Nat) (l : List UInt8) (v : NT) (r : List UInt8) (c' : Nat), pJ f m d c l = .ok v r c' →
    c < c' ∧ c' + r.length ≤ c + l.length ∧ gives m v
  | 0, _, _, _, _, _, _, _, h => by simp [pJ] at h
  | f + 1, .val, d, c, l, v, r, c', h => by
    have ih := pJ_grow f
    unfold pJ at h
    split at h
    · cases h
    split at h
    · cases h
    rename_i x t hl
    have h0 := skipB_cons hl
    have hle := skipB_le l
    rw [hl] at hle
    have word : ∀ w k, w ≠ [] → wordR w k (x :: t) (c + 1) = .ok v r c' → c < c' ∧ c' + r.length ≤ c + l.length ∧ gives .val v := fun w k hw e => by
      have h2 := wordR_ok e hw
      exact ⟨by omega, by omega, trivial⟩
    split at h
    · exact word _ _ (by simp [wNull]) h
    split at h
    · exact word _ _ (by simp [wFalse]) h
    split at h
    · exact word _ _ (by simp [wTrue]) h
    split at h
    · have h2 := strR_ok h
      exact ⟨by omega, by omega, trivial⟩
    split at h
    · split at h
      · cases h
      · split at h
        · have h2 := ih _ _ _ _ _ _ _ h
          exact ⟨by omega, by omega, trivial⟩
        · rename_i y u hy
          have h3 := skipB_cons hy
          split at h
          · simp only [Res.ok.injEq] at h
            obtain ⟨_, rfl, rfl⟩ := h
            exact ⟨by omega, by omega, trivial⟩
          · have h2 := ih _ _ _ _ _ _ _ h
            exact ⟨by omega, by omega, trivial⟩
    split at h
    · split at h
      · cases h
      · split at h
        · have h2 := ih _ _ _ _ _ _ _ h
          exact ⟨by omega, by omega, trivial⟩
        · rename_i y u hy
          have h3 := skipB_cons hy
          split at h
          · simp only [Res.ok.injEq] at h
            obtain ⟨_, rfl, rfl⟩ := h
            exact ⟨by omega, by omega, trivial⟩
          · have h2 := ih _ _ _ _ _ _ _ h
            exact ⟨by omega, by omega, trivial⟩
    · have h2 := numR_ok h
      exact ⟨by omega, by omega, trivial⟩
  | f + 1, .arr acc, d, c, l, v, r, c', h => by
    have ih := pJ_grow f
    unfold pJ at h
    split at h
    · cases h
    rename_i v0 r0 c0 hv
    have h0 := ih _ _ _ _ _ _ _ hv
    split at h
    · cases h
    rename_i y u hy
    have h3 := skipB_cons hy
    split at h
    · simp only [Res.ok.injEq] at h
      obtain ⟨rfl, rfl, rfl⟩ := h
      exact ⟨by omega, by omega, [v0], rfl⟩
    split at h
    · have h2 := ih _ _ _ _ _ _ _ h
      obtain ⟨rest, hrest⟩ := h2.2.2
      exact ⟨by omega, by omega, v0 :: rest, by rw [hrest, List.append_assoc]; rfl⟩
    · cases h
  | f + 1, .obj ks acc, d, c, l, v, r, c', h => by
    have ih := pJ_grow f
    have hle := skipB_le l
    unfold pJ at h
    split at h
    · cases h
    rename_i k n hk
    split at h
    · cases h
    split at h
    · cases h
    rename_i y u hy
    have h3 := skipB_cons hy
    rw [List.length_drop] at h3
    split at h
    · split at h
      · cases h
      rename_i v0 r0 c0 hv
      have h0 := ih _ _ _ _ _ _ _ hv
      split at h
      · cases h
      rename_i y2 u2 hy2
      have h4 := skipB_cons hy2
      split at h
      · simp only [Res.ok.injEq] at h
        obtain ⟨rfl, rfl, rfl⟩ := h
        exact ⟨by omega, by omega, [k], [v0], rfl⟩
      split at h
      · have h2 := ih _ _ _ _ _ _ _ h
        obtain ⟨ks', rest, hrest⟩ := h2.2.2
        exact ⟨by omega, by omega, k :: ks', v0 :: rest, by rw [hrest, List.append_assoc, List.append_assoc]; rfl⟩
      · cases h
    · cases h

theorem dep_in (acc rest : List NT) (v0 : NT) (k n : Int) (tx : List UInt8) (ks : List (List UInt8)) : 1 + dep v0 ≤ dep (.mk k n tx ks (acc ++ v0 :: rest)) := by
  show _ ≤ depL _
  rw [depL_append]
  simp only [depL]
  omega
theorem dep_arr {acc _rest : List NT} {v0 v : NT} (h : gives (.arr (acc ++ [v0])) v) : 1 + dep v0 ≤ dep v := by
  obtain ⟨rest, rfl⟩ := h
  rw [List.append_assoc]
  exact dep_in acc rest v0 6 0 [] []
theorem dep_obj {ks : List (List UInt8)} {acc : List NT} {k : List UInt8} {v0 v : NT} (h : gives (.obj (ks ++ [k]) (acc ++ [v0])) v) : 1 + dep v0 ≤ dep v := by
  obtain ⟨ks', rest, rfl⟩ := h
  rw [List.append_assoc acc]
  exact dep_in acc rest v0 7 0 [] _

theorem pJ_ctx {z : List UInt8} (hz : Stp z) (k j : Nat) : ∀ (f : Nat) (m : Md) (d c : Nat) (l : List UInt8) (v : NT) (r : List UInt8) (c' : Nat), pJ f m d c l = .ok v r c' → d + k + dep v ≤ 31 → c' + j ≤ 20000 →
    pJ f m (d + k) (c + j) (l ++ z) = .ok v (r ++ z) (c' + j)
  | 0, _, _, _, _, _, _, _, h, _, _ => by simp [pJ] at h
  | f + 1, .val, d, c, l, v, r, c', h, hd, hc => by
    have ih := pJ_ctx hz k j f
    have hg := (pJ_grow _ _ _ _ _ _ _ _ h).1
    have e1 : c + j + 1 = (c + 1) + j := by omega
    unfold pJ at h ⊢
    split at h
    · cases h
    split at h
    · cases h
    rename_i x t hl
    rw [skip_app hl, if_neg (by omega)]
    simp only []
    have word : ∀ w kk, wordR w kk (x :: t) (c + 1) = .ok v r c' → wordR w kk (x :: (t ++ z)) (c + j + 1) = .ok v (r ++ z) (c' + j) := fun w kk e => by
      unfold wordR at e ⊢
      split at e
      · rename_i hp
        have h2 := word_app z hp
        rw [List.cons_append] at h2
        simp only [Res.ok.injEq] at e
        obtain ⟨rfl, rfl, rfl⟩ := e
        rw [if_pos h2.1, h2.2, e1]
      · cases e
    split at h
    · rw [if_pos (by assumption)]; exact word _ _ h
    rw [if_neg (by assumption)]
    split at h
    · rw [if_pos (by assumption)]; exact word _ _ h
    rw [if_neg (by assumption)]
    split at h
    · rw [if_pos (by assumption)]; exact word _ _ h
    rw [if_neg (by assumption)]
    split at h
    · rw [if_pos (by assumption)]
      unfold strR at h ⊢
      split at h
      · rename_i q n hq
        have h2 := takeL_app hq z
        rw [List.cons_append] at h2
        rw [h2]
        simp only [Res.ok.injEq] at h
        obtain ⟨rfl, rfl, rfl⟩ := h
        have h3 : (x :: (t ++ z)).drop n = (x :: t).drop n ++ z := drop_app (l := x :: t) (takeL_le hq)
        simp only []
        rw [h3, e1]
      · cases h
    rw [if_neg (by assumption)]
    split at h
    · rw [if_pos (by assumption)]
      split at h
      · cases h
      rw [if_neg (by omega), e1]
      split at h
      · rename_i ht
        have h2 := ih _ _ _ _ _ _ _ h hd hc
        exfalso
        cases f with
        | zero => simp [pJ] at h
        | succ f =>
          unfold pJ at h
          cases f with
          | zero => simp [pJ] at h
          | succ f =>
            unfold pJ at h
            rw [ht, if_neg (by simp)] at h
            cases h
      · rename_i y u ht
        rw [skip_app ht]
        simp only []
        split at h
        · rw [if_pos (by assumption)]
          simp only [Res.ok.injEq] at h
          obtain ⟨rfl, rfl, rfl⟩ := h
          rfl
        · rw [if_neg (by assumption)]
          exact ih _ _ _ _ _ _ _ h hd hc
    rw [if_neg (by assumption)]
    split at h
    · rw [if_pos (by assumption)]
      split at h
      · cases h
      rw [if_neg (by omega), e1]
      split at h
      · rename_i ht
        exfalso
        cases f with
        | zero => simp [pJ] at h
        | succ f =>
          unfold pJ at h
          rw [ht] at h
          simp [takeL] at h
      · rename_i y u ht
        rw [skip_app ht]
        simp only []
        split at h
        · rw [if_pos (by assumption)]
          simp only [Res.ok.injEq] at h
          obtain ⟨rfl, rfl, rfl⟩ := h
          rfl
        · rw [if_neg (by assumption)]
          exact ih _ _ _ _ _ _ _ h hd hc
    · rw [if_neg (by assumption)]
      have h2 := numR_app (l := x :: t) hz (c + j + 1)
      rw [List.cons_append] at h2
      rw [h2]
      unfold numR at h ⊢
      rcases hR : takeR (x :: t) with ⟨a, n, o⟩
      rw [hR] at h
      cases o with
      | some e => cases h
      | none =>
        simp only [Res.ok.injEq] at h
        obtain ⟨rfl, rfl, rfl⟩ := h
        simp only [Res.app]
        rw [e1]
  | f + 1, .arr acc, d, c, l, v, r, c', h, hd, hc => by
    have ih := pJ_ctx hz k j f
    have hgw := (pJ_grow _ _ _ _ _ _ _ _ h)
    unfold pJ at h ⊢
    split at h
    · cases h
    rename_i v0 r0 c0 hv
    split at h
    · cases h
    rename_i y u hy
    split at h
    · simp only [Res.ok.injEq] at h
      obtain ⟨rfl, rfl, rfl⟩ := h
      have h2 := dep_in acc [] v0 6 0 [] []
      have h3 := ih _ _ _ _ _ _ _ hv (by omega) hc
      rw [show d + k + 1 = d + 1 + k by omega, h3]
      simp only []
      rw [skip_app hy]
      simp only []
      rw [if_pos (by assumption)]
    split at h
    · have h1 := pJ_grow _ _ _ _ _ _ _ _ h
      have h2 := dep_arr (_rest := []) h1.2.2
      have h3 := ih _ _ _ _ _ _ _ hv (by omega) (by omega)
      rw [show d + k + 1 = d + 1 + k by omega, h3]
      simp only []
      rw [skip_app hy]
      simp only []
      rw [if_neg (by assumption), if_pos (by assumption)]
      exact ih _ _ _ _ _ _ _ h hd hc
    · cases h
  | f + 1, .obj ks acc, d, c, l, v, r, c', h, hd, hc => by
    have ih := pJ_ctx hz k j f
    unfold pJ at h ⊢
    split at h
    · cases h
    rename_i kk n hk
    split at h
    · cases h
    rename_i hmem
    split at h
    · cases h
    rename_i y u hy
    have hsk : skipB (l ++ z) = skipB l ++ z := by
      cases hl : skipB l with
      | nil => rw [hl] at hk; simp [takeL] at hk
      | cons x t => exact skip_app hl
    rw [hsk, takeL_app hk]
    simp only []
    rw [if_neg hmem, drop_app (takeL_le hk), skip_app hy]
    simp only []
    split at h
    · rw [if_pos (by assumption)]
      split at h
      · cases h
      rename_i v0 r0 c0 hv
      split at h
      · cases h
      rename_i y2 u2 hy2
      split at h
      · simp only [Res.ok.injEq] at h
        obtain ⟨rfl, rfl, rfl⟩ := h
        have h2 := dep_in acc [] v0 7 0 [] (ks ++ [kk])
        have h3 := ih _ _ _ _ _ _ _ hv (by omega) hc
        rw [show d + k + 1 = d + 1 + k by omega, h3]
        simp only []
        rw [skip_app hy2]
        simp only []
        rw [if_pos (by assumption)]
      split at h
      · have h1 := pJ_grow _ _ _ _ _ _ _ _ h
        have h2 := dep_obj h1.2.2
        have h3 := ih _ _ _ _ _ _ _ hv (by omega) (by omega)
        rw [show d + k + 1 = d + 1 + k by omega, h3]
        simp only []
        rw [skip_app hy2]
        simp only []
        rw [if_neg (by assumption), if_pos (by assumption)]
        exact ih _ _ _ _ _ _ _ h hd hc
      · cases h
    · cases h

theorem pI_ctx {z : List UInt8} (hz : Stp z) (k j : Nat) {m : Md} {d c : Nat} {l : List UInt8} {v : NT} {r : List UInt8} {c' : Nat} (h : pI m d c l = .ok v r c') (hd : d + k + dep v ≤ 31) (hc : c' + j ≤ 20000) :
    pI m (d + k) (c + j) (l ++ z) = .ok v (r ++ z) (c' + j) := by
  have h1 : pI m d c l = pJ (2 * (l ++ z).length + 3) m d c l := (pI_of (by cases m <;> simp [needF] <;> omega) d c).symm
  rw [h1] at h
  exact pJ_ctx hz k j _ _ _ _ _ _ _ _ h hd hc
theorem pI_grow {m : Md} {d c : Nat} {l : List UInt8} {v : NT} {r : List UInt8} {c' : Nat} (h : pI m d c l = .ok v r c') : c < c' ∧ c' + r.length ≤ c + l.length := by
  have h1 := pJ_grow _ _ _ _ _ _ _ _ h
  exact ⟨h1.1, h1.2.1⟩
/-- a text that is read, in its parts -/
theorem text_ok {s : List UInt8} {v : NT} (h : pText s = .ok v) : s.length ≤ 100000 ∧ ∃ r c, pI .val 0 0 s = .ok v r c ∧ skipB r = [] ∧ c ≤ s.length := by
  rw [pText_eq] at h
  split at h
  · cases h
  rename_i hl
  refine ⟨by omega, ?_⟩
  cases hp : pI .val 0 0 s with
  | bad e => rw [hp] at h; cases h
  | ok v1 r c =>
    rw [hp] at h
    simp only [after] at h
    split at h
    · rename_i hr
      simp only [Ans.ok.injEq] at h
      have := pI_grow hp
      exact ⟨r, c, by rw [h], hr, by omega⟩
    · cases h
/-- twice in an Array -/
theorem twice_text {B s : List UInt8} {v : NT} (hB : AllBl B) (hs : s.length < 2001) (hb : B.length ≤ 100) (h : pText s = .ok v) (hd : dep v ≤ 30) :
    pText (91 :: (B ++ (s ++ (B ++ 44 :: (s ++ [93]))))) = .ok (.mk 6 0 [] [] [v, v]) := by
  obtain ⟨_, r, c, hp, hr, hc⟩ := text_ok h
  obtain ⟨y, u, hyu, hy⟩ : ∃ y u, skipB s = y :: u ∧ y.toNat ≠ 93 := by
    cases hs0 : skipB s with
    | nil => rw [val_end hs0] at hp; cases hp
    | cons y u =>
      refine ⟨y, u, rfl, fun e => ?_⟩
      rw [val_leaf hs0 (by omega) (by omega) (by omega), leaf_eq, if_neg (by omega), if_neg (by omega), if_neg (by omega), if_neg (by omega), numR_no (by omega) (by omega)] at hp
      cases hp
  have hz1 : Stp (B ++ 44 :: (s ++ [93])) := by
    intro x t e
    cases B with
    | nil => simp only [List.nil_append, List.cons.injEq] at e; rw [← e.1]; right; left; rfl
    | cons b B => simp only [List.cons_append, List.cons.injEq] at e; rw [← e.1]; left; exact hB b (by simp)
  have hz2 : Stp [93] := fun x t e => by simp only [List.cons.injEq] at e; rw [← e.1]; right; right; left; rfl
  rw [pText_eq, if_neg (by simp; omega)]
  have hs0 : skipB (91 :: (B ++ (s ++ (B ++ 44 :: (s ++ [93]))))) = 91 :: (B ++ (s ++ (B ++ 44 :: (s ++ [93])))) := skip_no (by unfold isBl; decide)
  rw [val_arr hs0 (by omega) (by decide) (by omega), skip_ahead hB, skip_app hyu]
  simp only []
  rw [if_neg hy, pI_arr]
  have e1 : pI .val (0 + 1) (0 + 1) (B ++ (s ++ (B ++ 44 :: (s ++ [93])))) = .ok v (r ++ (B ++ 44 :: (s ++ [93]))) (c + 1) := by
    rw [← pI_skip, skip_ahead hB, pI_skip]
    exact pI_ctx hz1 1 1 hp (by omega) (by omega)
  rw [e1]
  simp only []
  rw [skip_nil hr, skip_ahead hB, skip_no (by unfold isBl; decide)]
  simp only []
  rw [if_neg (by decide), if_pos (by decide), pI_arr]
  have e2 : pI .val (0 + 1) (0 + (c + 1)) (s ++ [93]) = .ok v (r ++ [93]) (c + (c + 1)) := pI_ctx hz2 1 (c + 1) hp (by omega) (by omega)
  rw [show (0 + (c + 1)) = c + 1 by omega] at e2
  rw [e2]
  simp only []
  rw [skip_nil hr, skip_no (by unfold isBl; decide)]
  simp only []
  rw [if_pos (by decide)]
  rfl

end Go.Proofs.YtlaagdpanbineaaDoor

