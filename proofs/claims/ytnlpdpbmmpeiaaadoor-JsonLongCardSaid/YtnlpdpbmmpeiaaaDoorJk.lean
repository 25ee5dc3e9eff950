/- A text of JSON read with a stack: what is left to read, by the values that are begun and not ended (no program). -/
import Derived.Test.YtnlpdpbmmpeiaaaDoorJm
namespace Go.Proofs.YtnlpdpbmmpeiaaaDoor
open I2

/-- fuel enough -/
def needF : Md → List UInt8 → Nat
  | .val, l => 2 * l.length + 2
  | _, l => 2 * l.length + 3

theorem pJ_fuel : ∀ (f f' : Nat) (m : Md) (d c : Nat) (l : List UInt8), needF m l ≤ f → needF m l ≤ f' → pJ f m d c l = pJ f' m d c l
  | 0, _, m, _, _, _, h, _ => by cases m <;> simp [needF] at h
  | _ + 1, 0, m, _, _, _, _, h => by cases m <;> simp [needF] at h
  | f + 1, f' + 1, .val, d, c, l, h, h' => by
    have ih := pJ_fuel f f'
    simp only [needF] at h h'
    unfold pJ
    by_cases hc : 20000 ≤ c ∧ skipB l ≠ []
    · rw [if_pos hc, if_pos hc]
    rw [if_neg hc, if_neg hc]
    cases hl : skipB l with
    | nil => rfl
    | cons x t =>
      have h1 := skipB_cons hl
      simp only []
      have ha : pJ f (.arr []) d (c + 1) t = pJ f' (.arr []) d (c + 1) t := ih _ _ _ _ (by simp only [needF]; omega) (by simp only [needF]; omega)
      have ho : pJ f (.obj [] []) d (c + 1) t = pJ f' (.obj [] []) d (c + 1) t := ih _ _ _ _ (by simp only [needF]; omega) (by simp only [needF]; omega)
      rw [ha, ho]
  | f + 1, f' + 1, .arr acc, d, c, l, h, h' => by
    have ih := pJ_fuel f f'
    simp only [needF] at h h'
    unfold pJ
    rw [ih .val (d + 1) c l (by simp only [needF]; omega) (by simp only [needF]; omega)]
    cases hv : pJ f' .val (d + 1) c l with
    | bad e => rfl
    | ok v r c' =>
      have h1 := pJ_ok _ _ _ _ _ _ _ _ hv
      simp only []
      cases hr : skipB r with
      | nil => rfl
      | cons y u =>
        have h2 := skipB_cons hr
        simp only []
        rw [ih (.arr (acc ++ [v])) d c' u (by simp only [needF]; omega) (by simp only [needF]; omega)]
  | f + 1, f' + 1, .obj ks acc, d, c, l, h, h' => by
    have ih := pJ_fuel f f'
    simp only [needF] at h h'
    have h0 := skipB_le l
    unfold pJ
    cases ht : takeL (skipB l) with
    | none => rfl
    | some p =>
      obtain ⟨k, n⟩ := p
      simp only []
      by_cases hk : k ∈ ks
      · rw [if_pos hk, if_pos hk]
      rw [if_neg hk, if_neg hk]
      cases hl : skipB ((skipB l).drop n) with
      | nil => rfl
      | cons y u =>
        have h1 := skipB_cons hl
        rw [List.length_drop] at h1
        simp only []
        by_cases hy : y.toNat = 58
        · rw [if_pos hy, if_pos hy]
          rw [ih .val (d + 1) c u (by simp only [needF]; omega) (by simp only [needF]; omega)]
          cases hv : pJ f' .val (d + 1) c u with
          | bad e => rfl
          | ok v r c' =>
            have h3 := pJ_ok _ _ _ _ _ _ _ _ hv
            simp only []
            cases hr : skipB r with
            | nil => rfl
            | cons y2 u2 =>
              have h4 := skipB_cons hr
              simp only []
              rw [ih (.obj (ks ++ [k]) (acc ++ [v])) d c' u2 (by simp only [needF]; omega) (by simp only [needF]; omega)]
        · rw [if_neg hy, if_neg hy]

/-- with fuel enough -/
def pI (m : Md) (d c : Nat) (l : List UInt8) : Res := pJ (2 * l.length + 3) m d c l
theorem pI_of {f : Nat} {m : Md} {l : List UInt8} (h : needF m l ≤ f) (d c : Nat) : pJ f m d c l = pI m d c l :=
  pJ_fuel _ _ _ _ _ _ h (by cases m <;> simp [needF])

theorem pI_val (d c : Nat) (l : List UInt8) : pI .val d c l =
    if 20000 ≤ c ∧ skipB l ≠ [] then .bad 3 else match skipB l with
    | [] => .bad 1
    | x :: t =>
      if x.toNat = 110 then wordR wNull 1 (x :: t) (c + 1)
      else if x.toNat = 102 then wordR wFalse 2 (x :: t) (c + 1)
      else if x.toNat = 116 then wordR wTrue 3 (x :: t) (c + 1)
      else if x.toNat = 34 then strR (x :: t) (c + 1)
      else if x.toNat = 91 then (if 32 ≤ d then .bad 2 else match skipB t with
        | [] => pI (.arr []) d (c + 1) t
        | y :: u => if y.toNat = 93 then .ok (.mk 6 0 [] [] []) u (c + 1) else pI (.arr []) d (c + 1) t)
      else if x.toNat = 123 then (if 32 ≤ d then .bad 2 else match skipB t with
        | [] => pI (.obj [] []) d (c + 1) t
        | y :: u => if y.toNat = 125 then .ok (.mk 7 0 [] [] []) u (c + 1) else pI (.obj [] []) d (c + 1) t)
      else numR (x :: t) (c + 1) := by
  unfold pI
  conv => lhs; unfold pJ
  by_cases hc : 20000 ≤ c ∧ skipB l ≠ []
  · rw [if_pos hc, if_pos hc]
  rw [if_neg hc, if_neg hc]
  cases hl : skipB l with
  | nil => rfl
  | cons x t =>
    have h1 := skipB_cons hl
    simp only []
    rw [pI_of (m := .arr []) (by simp only [needF]; omega), pI_of (m := .obj [] []) (by simp only [needF]; omega)]
    rfl
theorem pI_arr (acc : List NT) (d c : Nat) (l : List UInt8) : pI (.arr acc) d c l =
    match pI .val (d + 1) c l with
    | .bad e => .bad e
    | .ok v r c' => match skipB r with
      | [] => .bad 1
      | y :: u => if y.toNat = 93 then .ok (.mk 6 0 [] [] (acc ++ [v])) u c' else if y.toNat = 44 then pI (.arr (acc ++ [v])) d c' u else .bad 1 := by
  conv => lhs; unfold pI pJ
  rw [pI_of (m := .val) (by simp only [needF]; omega)]
  cases hv : pI .val (d + 1) c l with
  | bad e => rfl
  | ok v r c' =>
    have h1 := pJ_ok _ _ _ _ _ _ _ _ hv
    simp only []
    cases hr : skipB r with
    | nil => rfl
    | cons y u =>
      have h2 := skipB_cons hr
      simp only []
      rw [pI_of (m := .arr (acc ++ [v])) (by simp only [needF]; omega)]
theorem pI_obj (ks : List (List UInt8)) (acc : List NT) (d c : Nat) (l : List UInt8) : pI (.obj ks acc) d c l =
    match takeL (skipB l) with
    | none => .bad 1
    | some (k, n) => if k ∈ ks then .bad 5 else match skipB ((skipB l).drop n) with
      | [] => .bad 1
      | y :: u => if y.toNat = 58 then (match pI .val (d + 1) c u with
        | .bad e => .bad e
        | .ok v r c' => match skipB r with
          | [] => .bad 1
          | y :: u => if y.toNat = 125 then .ok (.mk 7 0 [] (ks ++ [k]) (acc ++ [v])) u c' else if y.toNat = 44 then pI (.obj (ks ++ [k]) (acc ++ [v])) d c' u else .bad 1)
        else .bad 1 := by
  have h0 := skipB_le l
  conv => lhs; unfold pI pJ
  cases ht : takeL (skipB l) with
  | none => rfl
  | some p =>
    obtain ⟨k, n⟩ := p
    simp only []
    by_cases hk : k ∈ ks
    · rw [if_pos hk, if_pos hk]
    rw [if_neg hk, if_neg hk]
    cases hl : skipB ((skipB l).drop n) with
    | nil => rfl
    | cons y u =>
      have h1 := skipB_cons hl
      rw [List.length_drop] at h1
      simp only []
      by_cases hy : y.toNat = 58
      · rw [if_pos hy, if_pos hy]
        rw [pI_of (m := .val) (by simp only [needF]; omega)]
        cases hv : pI .val (d + 1) c u with
        | bad e => rfl
        | ok v r c' =>
          have h3 := pJ_ok _ _ _ _ _ _ _ _ hv
          simp only []
          cases hr : skipB r with
          | nil => rfl
          | cons y2 u2 =>
            have h4 := skipB_cons hr
            simp only []
            rw [pI_of (m := .obj (ks ++ [k]) (acc ++ [v])) (by simp only [needF]; omega)]
      · rw [if_neg hy, if_neg hy]
theorem pI_skip (d c : Nat) (l : List UInt8) : pI .val d c (skipB l) = pI .val d c l := by rw [pI_val, pI_val, skipB_idem]

/-- an Array or Object that is begun and not ended; an Object's keys have that of the value that is being read -/
inductive Fr
  | arr (acc : List NT)
  | obj (ks : List (List UInt8)) (acc : List NT)

/-- the answer of the text, when a value has been read in these -/
def after : List Fr → Res → Ans
  | [], .bad e => .bad e
  | [], .ok v r _ => if skipB r = [] then .ok v else .bad 1
  | _ :: _, .bad e => .bad e
  | .arr acc :: st, .ok v r c => match skipB r with
    | [] => .bad 1
    | y :: u => if y.toNat = 93 then after st (.ok (.mk 6 0 [] [] (acc ++ [v])) u c) else if y.toNat = 44 then after st (pI (.arr (acc ++ [v])) st.length c u) else .bad 1
  | .obj ks acc :: st, .ok v r c => match skipB r with
    | [] => .bad 1
    | y :: u => if y.toNat = 125 then after st (.ok (.mk 7 0 [] ks (acc ++ [v])) u c) else if y.toNat = 44 then after st (pI (.obj ks (acc ++ [v])) st.length c u) else .bad 1

theorem after_bad (st : List Fr) (e : Nat) : after st (.bad e) = .bad e := by cases st <;> rfl
theorem after_arr (st : List Fr) (acc : List NT) (c : Nat) (l : List UInt8) : after st (pI (.arr acc) st.length c l) = after (.arr acc :: st) (pI .val (st.length + 1) c l) := by
  rw [pI_arr]
  cases hv : pI .val (st.length + 1) c l with
  | bad e => simp only [after_bad]
  | ok v r c' =>
    simp only [after]
    cases hr : skipB r with
    | nil => simp only [after_bad]
    | cons y u =>
      simp only []
      split
      · rfl
      · split
        · rfl
        · simp only [after_bad]
/-- the key that stands next -/
inductive KR
  | bad (e : Nat)
  | ok (k : List UInt8) (r : List UInt8)
def keyR (ks : List (List UInt8)) (l : List UInt8) : KR := match takeL (skipB l) with
  | none => .bad 1
  | some (k, n) => if k ∈ ks then .bad 5 else .ok k ((skipB l).drop n)
theorem after_obj (st : List Fr) (ks : List (List UInt8)) (acc : List NT) (c : Nat) (l : List UInt8) : after st (pI (.obj ks acc) st.length c l) = match keyR ks l with
    | .bad e => .bad e
    | .ok k r => match skipB r with
      | [] => .bad 1
      | y :: u => if y.toNat = 58 then after (.obj (ks ++ [k]) acc :: st) (pI .val (st.length + 1) c u) else .bad 1 := by
  rw [pI_obj]
  unfold keyR
  cases ht : takeL (skipB l) with
  | none => simp only [after_bad]
  | some p =>
    obtain ⟨k, n⟩ := p
    simp only []
    by_cases hk : k ∈ ks
    · simp only [if_pos hk, after_bad]
    simp only [if_neg hk]
    cases hl : skipB ((skipB l).drop n) with
    | nil => simp only [after_bad]
    | cons y u =>
      simp only []
      by_cases hy : y.toNat = 58
      · simp only [if_pos hy]
        cases hv : pI .val (st.length + 1) c u with
        | bad e => simp only [after_bad]
        | ok v r c' =>
          simp only [after]
          cases hr : skipB r with
          | nil => simp only [after_bad]
          | cons y2 u2 =>
            simp only []
            split
            · rfl
            · split
              · rfl
              · simp only [after_bad]
      · simp only [if_neg hy, after_bad]
theorem pText_eq (l : List UInt8) : pText l = if 100000 < l.length then .bad 3 else after [] (pI .val 0 0 l) := by
  unfold pText
  rw [pI_of (by simp only [needF]; omega)]
  split
  · rfl
  · cases pI .val 0 0 l <;> rfl

/-- a value in which no others stand, as the program parts the cases -/
def leafR (l : List UInt8) (c : Nat) : Res :=
  if wNull.isPrefixOf l then .ok (litN 1) (l.drop 4) c
  else if wFalse.isPrefixOf l then .ok (litN 2) (l.drop 5) c
  else if wTrue.isPrefixOf l then .ok (litN 3) (l.drop 4) c
  else if bAt l 0 = 34 then strR l c else numR l c

theorem numR_no {x : UInt8} {t : List UInt8} (h1 : x.toNat < 48 ∨ 57 < x.toNat) (h2 : x.toNat ≠ 45) (c : Nat) : numR (x :: t) c = .bad 1 := by
  have hb : bAt (x :: t) 0 = x.toNat := rfl
  have hs : sgn (x :: t) = 0 := by
    unfold sgn
    rw [if_neg (by rw [hb]; exact h2)]
  have hd : digs (x :: t) = 0 := by
    unfold digs
    rw [if_neg (by omega)]
  have hf : front (x :: t) = 0 := by
    unfold front
    rw [hs, hb, List.drop_zero, hd, if_neg (by omega), if_pos rfl]
  unfold numR
  rw [takeR_syn hf]

theorem pre_cons {a x : UInt8} {w t : List UInt8} : (a :: w).isPrefixOf (x :: t) = true → x = a := by
  intro h
  rw [List.isPrefixOf_iff_prefix] at h
  obtain ⟨u, hu⟩ := h
  simp only [List.cons_append, List.cons.injEq] at hu
  exact hu.1.symm

theorem leaf_eq (x : UInt8) (t : List UInt8) (c : Nat) : leafR (x :: t) c =
    (if x.toNat = 110 then wordR wNull 1 (x :: t) c
      else if x.toNat = 102 then wordR wFalse 2 (x :: t) c
      else if x.toNat = 116 then wordR wTrue 3 (x :: t) c
      else if x.toNat = 34 then strR (x :: t) c else numR (x :: t) c) := by
  have hb : bAt (x :: t) 0 = x.toNat := rfl
  unfold leafR wordR
  by_cases h1 : wNull.isPrefixOf (x :: t) = true
  · have : x.toNat = 110 := by rw [pre_cons h1]; rfl
    rw [if_pos h1, if_pos this, if_pos h1]; rfl
  rw [if_neg h1]
  by_cases h2 : wFalse.isPrefixOf (x :: t) = true
  · have : x.toNat = 102 := by rw [pre_cons h2]; rfl
    rw [if_pos h2, if_neg (by omega), if_pos this, if_pos h2]; rfl
  rw [if_neg h2]
  by_cases h3 : wTrue.isPrefixOf (x :: t) = true
  · have : x.toNat = 116 := by rw [pre_cons h3]; rfl
    rw [if_pos h3, if_neg (by omega), if_neg (by omega), if_pos this, if_pos h3]; rfl
  rw [if_neg h3, hb]
  by_cases a1 : x.toNat = 110
  · rw [if_neg (by omega), if_pos a1, if_neg h1, numR_no (by omega) (by omega)]
  rw [if_neg a1]
  by_cases a2 : x.toNat = 102
  · rw [if_neg (by omega), if_pos a2, if_neg h2, numR_no (by omega) (by omega)]
  rw [if_neg a2]
  by_cases a3 : x.toNat = 116
  · rw [if_neg (by omega), if_pos a3, if_neg h3, numR_no (by omega) (by omega)]
  rw [if_neg a3]

/-- what stands at a value's place, as the program parts the cases (its blanks behind it, and there is something, and not too many values) -/
theorem val_leaf {l : List UInt8} {x : UInt8} {t : List UInt8} (h : skipB l = x :: t) {c : Nat} (hc : c < 20000) (h1 : x.toNat ≠ 91) (h2 : x.toNat ≠ 123) (d : Nat) : pI .val d c l = leafR (x :: t) (c + 1) := by
  rw [pI_val, h, leaf_eq, if_neg (by omega)]
  simp only []
  rw [if_neg h1, if_neg h2]
theorem val_end {l : List UInt8} (h : skipB l = []) (d c : Nat) : pI .val d c l = .bad 1 := by
  rw [pI_val, h, if_neg (by simp)]
theorem val_many {l : List UInt8} {x : UInt8} {t : List UInt8} (h : skipB l = x :: t) {c : Nat} (hc : 20000 ≤ c) (d : Nat) : pI .val d c l = .bad 3 := by
  rw [pI_val, h, if_pos ⟨hc, by simp⟩]
theorem val_deep {l : List UInt8} {x : UInt8} {t : List UInt8} (h : skipB l = x :: t) {c : Nat} (hc : c < 20000) (hx : x.toNat = 91 ∨ x.toNat = 123) {d : Nat} (hd : 32 ≤ d) : pI .val d c l = .bad 2 := by
  rw [pI_val, h, if_neg (by omega)]
  simp only []
  rw [if_neg (by omega), if_neg (by omega), if_neg (by omega), if_neg (by omega)]
  rcases hx with hx | hx
  · rw [if_pos hx, if_pos hd]
  · rw [if_neg (by omega), if_pos hx, if_pos hd]
theorem val_arr {l : List UInt8} {x : UInt8} {t : List UInt8} (h : skipB l = x :: t) {c : Nat} (hc : c < 20000) (hx : x.toNat = 91) {d : Nat} (hd : d < 32) : pI .val d c l = (match skipB t with
        | [] => pI (.arr []) d (c + 1) t
        | y :: u => if y.toNat = 93 then .ok (.mk 6 0 [] [] []) u (c + 1) else pI (.arr []) d (c + 1) t) := by
  rw [pI_val, h, if_neg (by omega)]
  simp only []
  rw [if_neg (by omega), if_neg (by omega), if_neg (by omega), if_neg (by omega), if_pos hx, if_neg (by omega)]
theorem val_obj {l : List UInt8} {x : UInt8} {t : List UInt8} (h : skipB l = x :: t) {c : Nat} (hc : c < 20000) (hx : x.toNat = 123) {d : Nat} (hd : d < 32) : pI .val d c l = (match skipB t with
        | [] => pI (.obj [] []) d (c + 1) t
        | y :: u => if y.toNat = 125 then .ok (.mk 7 0 [] [] []) u (c + 1) else pI (.obj [] []) d (c + 1) t) := by
  rw [pI_val, h, if_neg (by omega)]
  simp only []
  rw [if_neg (by omega), if_neg (by omega), if_neg (by omega), if_neg (by omega), if_neg (by omega), if_pos hx, if_neg (by omega)]

end Go.Proofs.YtnlpdpbmmpeiaaaDoor
