/- The laws of JSON: what their texts are read as (no program). -/
import Derived.Test.YtnlpdpbmmpeiaaaDoorJk
import Derived.Test.YtnlpdpbmmpeiaaaDoorLcd
namespace Go.Proofs.YtnlpdpbmmpeiaaaDoor
open I2

/-- nothing that a number could go on with -/
def Quiet (z : List UInt8) : Prop := bAt z 0 ≠ 46 ∧ bAt z 0 ≠ 101 ∧ bAt z 0 ≠ 69 ∧ (bAt z 0 < 48 ∨ 57 < bAt z 0)
theorem digs_quiet {z : List UInt8} (h : Quiet z) : digs z = 0 := by
  cases z with
  | nil => rfl
  | cons c r =>
    have hb : bAt (c :: r) 0 = c.toNat := rfl
    unfold digs
    rw [if_neg]
    have := h.2.2.2
    rw [hb] at this
    omega
theorem takeR_one {x : UInt8} {z : List UInt8} (h1 : 49 ≤ x.toNat) (h2 : x.toNat ≤ 57) (hq : Quiet z) : takeR (x :: z) = (((x.toNat - 48 : Nat) : Int), 1, none) := by
  have hb : bAt (x :: z) 0 = x.toNat := rfl
  have hs : sgn (x :: z) = 0 := by unfold sgn; rw [if_neg (by rw [hb]; omega)]
  have hd : digs (x :: z) = 1 := by
    unfold digs
    rw [if_pos ⟨by omega, by omega⟩, digs_quiet hq]
  have hf : front (x :: z) = 1 := by
    unfold front
    rw [hs, hb, List.drop_zero, hd, if_neg (by omega), if_neg (by omega)]
  have ht : two (x :: z) = 1 := by
    unfold two
    rw [hf]
    show 1 + frac z = 1
    unfold frac
    rw [if_neg (fun e => hq.1 e.1)]
  have ha : allOf (x :: z) = 1 := by
    unfold allOf
    rw [ht]
    show 1 + expo z = 1
    unfold expo
    rw [if_neg (fun e => by
      rcases e.1 with e | e
      · exact hq.2.1 e
      · exact hq.2.2.1 e)]
  have hw : wholeV [x] = some ((x.toNat - 48 : Nat) : Int) := by
    unfold wholeV
    rw [atoi_pos [x] (by intro c hc; simp at hc; rw [hc]; omega) (by simp), valFrom_cons, valFrom_nil]
    rw [if_pos (by omega)]
    simp
  rw [takeR_ok (v := ((x.toNat - 48 : Nat) : Int)) (by rw [hf]; omega) (by rw [ha, hf]) (by rw [hf]; exact hw), hf]
theorem numR_one {x : UInt8} {z : List UInt8} (h1 : 49 ≤ x.toNat) (h2 : x.toNat ≤ 57) (hq : Quiet z) (c : Nat) : numR (x :: z) c = .ok (.mk 4 ((x.toNat - 48 : Nat) : Int) [] [] []) z c := by
  unfold numR
  rw [takeR_one h1 h2 hq]
  rfl
theorem val_one {x : UInt8} {z : List UInt8} (h1 : 49 ≤ x.toNat) (h2 : x.toNat ≤ 57) (hq : Quiet z) {c : Nat} (hc : c < 20000) (d : Nat) : pI .val d c (x :: z) = .ok (.mk 4 ((x.toNat - 48 : Nat) : Int) [] [] []) z (c + 1) := by
  have hs : skipB (x :: z) = x :: z := by unfold skipB; rw [if_neg (by unfold isBl; omega)]
  rw [pI_val, hs, if_neg (by omega)]
  simp only []
  rw [if_neg (by omega), if_neg (by omega), if_neg (by omega), if_neg (by omega), if_neg (by omega), if_neg (by omega)]
  exact numR_one h1 h2 hq (c + 1)
theorem val_full {x : UInt8} {z : List UInt8} (h1 : 49 ≤ x.toNat) (h2 : x.toNat ≤ 57) {c : Nat} (hc : 20000 ≤ c) (d : Nat) : pI .val d c (x :: z) = .bad 3 := by
  have hs : skipB (x :: z) = x :: z := by unfold skipB; rw [if_neg (by unfold isBl; omega)]
  exact val_many hs hc d
theorem skip_no {x : UInt8} {t : List UInt8} (h : ¬ isBl x) : skipB (x :: t) = x :: t := by unfold skipB; rw [if_neg h]

/-! ### a row of ones -/
def oneV : NT := .mk 4 1 [] [] []
def moreOnes : Nat → List UInt8
  | 0 => []
  | k + 1 => 44 :: 49 :: moreOnes k
theorem moreOnes_len : ∀ k, (moreOnes k).length = 2 * k
  | 0 => rfl
  | k + 1 => by simp only [moreOnes, List.length_cons, moreOnes_len k]; omega
theorem moreOnes_snoc : ∀ k, moreOnes (k + 1) = moreOnes k ++ [44, 49]
  | 0 => rfl
  | k + 1 => by
    show 44 :: 49 :: moreOnes (k + 1) = (44 :: 49 :: moreOnes k) ++ [44, 49]
    rw [moreOnes_snoc k]; rfl
theorem ones_read : ∀ (k : Nat) (acc : List NT) (c : Nat), pI (.arr acc) 0 c (49 :: (moreOnes k ++ [93])) = if c + k + 1 ≤ 20000 then .ok (.mk 6 0 [] [] (acc ++ List.replicate (k + 1) oneV)) [] (c + k + 1) else .bad 3
  | k, acc, c => by
    have ih := fun k' (_ : k' < k) => ones_read k'
    rw [pI_arr]
    by_cases hc : 20000 ≤ c
    · rw [val_full (by decide) (by decide) hc, if_neg (by omega)]
    · cases k with
      | zero =>
        rw [val_one (by decide) (by decide) (by refine ⟨?_, ?_, ?_, ?_⟩ <;> decide) (by omega), if_pos (by omega)]
        show (match skipB [93] with
          | [] => Res.bad 1
          | y :: u => if y.toNat = 93 then .ok (.mk 6 0 [] [] (acc ++ [_])) u (c + 1) else _) = _
        rw [skip_no (by unfold isBl; decide)]
        rfl
      | succ k =>
        rw [val_one (by decide) (by decide) (by refine ⟨?_, ?_, ?_, ?_⟩ <;> simp [moreOnes, bAt]) (by omega)]
        simp only [moreOnes, List.cons_append]
        rw [skip_no (by unfold isBl; decide)]
        simp only []
        rw [if_neg (by decide), if_pos (by decide), ih k (by omega), show c + 1 + k + 1 = c + (k + 1) + 1 by omega]
        split
        · rw [List.append_assoc]
          rfl
        · rfl
termination_by k => k
theorem cntL_ones : ∀ k, cntL (List.replicate k oneV) = k
  | 0 => rfl
  | k + 1 => by
    rw [List.replicate_succ]
    show cnt oneV + cntL (List.replicate k oneV) = k + 1
    rw [cntL_ones k]
    have : cnt oneV = 1 := rfl
    omega

theorem long_values (N : Nat) (h0 : 1 ≤ N) (h1 : 2 * N + 1 ≤ 100000) : pText (91 :: 49 :: (moreOnes (N - 1) ++ [93])) = if N + 1 ≤ 20000 then .ok (.mk 6 0 [] [] (List.replicate N oneV)) else .bad 3 := by
  rw [pText_eq, if_neg (by simp [moreOnes_len]; omega)]
  have hs : skipB (91 :: 49 :: (moreOnes (N - 1) ++ [93])) = 91 :: 49 :: (moreOnes (N - 1) ++ [93]) := skip_no (by unfold isBl; decide)
  rw [val_arr hs (by omega) (by decide) (by omega), skip_no (by unfold isBl; decide)]
  simp only []
  rw [if_neg (by decide), ones_read]
  rw [show 0 + 1 + (N - 1) + 1 = N + 1 by omega, show N - 1 + 1 = N by omega]
  split
  · simp only [after, List.nil_append]
    rw [if_pos (by rfl)]
  · rfl
theorem skip_blanks : ∀ m, skipB (List.replicate m 32) = []
  | 0 => rfl
  | m + 1 => by rw [List.replicate_succ]; unfold skipB; rw [if_pos (by unfold isBl; decide)]; exact skip_blanks m
theorem long_bytes (m : Nat) : pText (53 :: List.replicate m 32) = if m + 1 ≤ 100000 then .ok (.mk 4 5 [] [] []) else .bad 3 := by
  rw [pText_eq]
  by_cases h : m + 1 ≤ 100000
  · rw [if_neg (by simp; omega), if_pos h, val_one (by decide) (by decide) (by cases m <;> (refine ⟨?_, ?_, ?_, ?_⟩ <;> simp [bAt, List.replicate_succ])) (by omega)]
    simp only [after]
    rw [skip_blanks, if_pos rfl]
    rfl
  · rw [if_pos (by simp; omega), if_neg h]

/-! ### values in one another -/
def opB : Bool → List UInt8
  | true => [91]
  | false => [123, 34, 107, 34, 58]
def clB : Bool → UInt8
  | true => 93
  | false => 125
def ahd (l : List Bool) : List UInt8 := l.flatMap opB
def bhd (l : List Bool) : List UInt8 := (l.map clB).reverse
theorem ahd_snoc (l : List Bool) (b : Bool) : ahd (l ++ [b]) = ahd l ++ opB b := by simp [ahd]
theorem bhd_snoc (l : List Bool) (b : Bool) : bhd (l ++ [b]) = clB b :: bhd l := by simp [bhd]
theorem bhd_cons (l : List Bool) (b : Bool) : bhd (b :: l) = bhd l ++ [clB b] := by simp [bhd]
theorem ahd_len (l : List Bool) : (ahd l).length ≤ 5 * l.length := by
  induction l with
  | nil => simp [ahd]
  | cons b l ih =>
    have : (opB b).length ≤ 5 := by cases b <;> decide
    simp only [ahd, List.flatMap_cons, List.length_append, List.length_cons] at *
    omega
theorem bhd_len (l : List Bool) : (bhd l).length = l.length := by simp [bhd]
def nest : List Bool → NT
  | [] => .mk 4 7 [] [] []
  | true :: l => .mk 6 0 [] [] [nest l]
  | false :: l => .mk 7 0 [] [[107]] [nest l]
theorem nest_cnt : ∀ l, cnt (nest l) = l.length + 1
  | [] => rfl
  | true :: l => by simp only [nest, cnt, cntL, nest_cnt l, List.length_cons]; omega
  | false :: l => by simp only [nest, cnt, cntL, nest_cnt l, List.length_cons]; omega
theorem nest_dep : ∀ l, dep (nest l) = l.length
  | [] => rfl
  | true :: l => by simp only [nest, dep, depL, nest_dep l, List.length_cons]; omega
  | false :: l => by simp only [nest, dep, depL, nest_dep l, List.length_cons]; omega
theorem key_k (t : List UInt8) : takeL (34 :: 107 :: 34 :: t) = some ([107], 3) := by
  have hp : Piece (encB 107) 107 := .plain 107 (by unfold isPt; omega) (by omega) (by omega) (by omega)
  have he : encB 107 = [107] := by decide +kernel
  rw [he] at hp
  have h := takeL_body (Body.cons hp Body.nil) t
  have h2 : encLB [107] = [107] := by rw [encLB_cons, he]; rfl
  rw [h2] at h
  exact h
theorem closer (b : Bool) : ¬ isBl (clB b) ∧ (clB b).toNat = (if b then 93 else 125) := by cases b <;> (unfold isBl; decide)
theorem head_of (l : List Bool) (t : List UInt8) : ∃ x u, ahd l ++ 55 :: t = x :: u ∧ ¬ isBl x ∧ x.toNat ≠ 93 ∧ x.toNat ≠ 125 := by
  cases l with
  | nil => exact ⟨55, t, rfl, by unfold isBl; decide, by decide, by decide⟩
  | cons b l =>
    cases b
    · exact ⟨123, _, rfl, by unfold isBl; decide, by decide, by decide⟩
    · exact ⟨91, _, rfl, by unfold isBl; decide, by decide, by decide⟩

theorem deep_read : ∀ (l : List Bool) (d c : Nat) (z : List UInt8), c + l.length < 20000 → Quiet z → pI .val d c (ahd l ++ 55 :: (bhd l ++ z)) = if d + l.length ≤ 32 ∨ l = [] then .ok (nest l) z (c + l.length + 1) else .bad 2
  | [], d, c, z, hc, hq => by
    rw [if_pos (.inr rfl)]
    show pI .val d c (55 :: z) = _
    rw [val_one (by decide) (by decide) hq (by simpa using hc)]
    rfl
  | b :: l, d, c, z, hc, hq => by
    have hqz : Quiet (clB b :: z) := by cases b <;> (refine ⟨?_, ?_, ?_, ?_⟩ <;> simp [clB, bAt])
    have ih := deep_read l (d + 1) (c + 1) (clB b :: z) (by simp only [List.length_cons] at hc; omega) hqz
    rw [bhd_cons, List.append_assoc]
    rw [show ([clB b] ++ z : List UInt8) = clB b :: z from rfl]
    simp only [List.length_cons] at hc ⊢
    obtain ⟨x, u, hxu, hx1, hx2, hx3⟩ := head_of l (bhd l ++ clB b :: z)
    cases b with
    | true =>
      have hs : skipB (ahd (true :: l) ++ 55 :: (bhd l ++ clB true :: z)) = 91 :: (ahd l ++ 55 :: (bhd l ++ clB true :: z)) := skip_no (by unfold isBl; decide)
      by_cases hd : 32 ≤ d
      · rw [val_deep hs (by omega) (.inl (by decide)) hd, if_neg (by simp; omega)]
      rw [val_arr hs (by omega) (by decide) (by omega), hxu, skip_no hx1]
      simp only []
      rw [if_neg hx2, ← hxu, pI_arr, ih]
      by_cases hl : d + 1 + l.length ≤ 32 ∨ l = []
      · rw [if_pos hl, if_pos (by left; rcases hl with h | h; omega; rw [h]; simp; omega)]
        simp only []
        rw [skip_no (closer true).1]
        simp only []
        rw [if_pos (by decide)]
        simp only [nest, List.nil_append]
        congr 1
        omega
      · rw [if_neg hl, if_neg (by simp; omega)]
    | false =>
      have hs : skipB (ahd (false :: l) ++ 55 :: (bhd l ++ clB false :: z)) = 123 :: 34 :: 107 :: 34 :: 58 :: (ahd l ++ 55 :: (bhd l ++ clB false :: z)) := skip_no (by unfold isBl; decide)
      by_cases hd : 32 ≤ d
      · rw [val_deep hs (by omega) (.inr (by decide)) hd, if_neg (by simp; omega)]
      rw [val_obj hs (by omega) (by decide) (by omega), skip_no (by unfold isBl; decide)]
      simp only []
      rw [if_neg (by decide), pI_obj, skip_no (by unfold isBl; decide), key_k]
      simp only []
      rw [if_neg (by simp)]
      show (match skipB (58 :: (ahd l ++ 55 :: (bhd l ++ clB false :: z))) with
        | [] => Res.bad 1
        | y :: u => if y.toNat = 58 then _ else _) = _
      rw [skip_no (by unfold isBl; decide)]
      simp only []
      rw [if_pos (by decide), ih]
      by_cases hl : d + 1 + l.length ≤ 32 ∨ l = []
      · rw [if_pos hl, if_pos (by left; rcases hl with h | h; omega; rw [h]; simp; omega)]
        simp only []
        rw [skip_no (closer false).1]
        simp only []
        rw [if_pos (by decide)]
        simp only [nest, List.nil_append]
        congr 1
        omega
      · rw [if_neg hl, if_neg (by simp; omega)]
theorem deep_text (l : List Bool) (h : l.length ≤ 100) : pText (ahd l ++ 55 :: bhd l) = if l.length ≤ 32 then .ok (nest l) else .bad 2 := by
  have h1 := ahd_len l
  have h2 := bhd_len l
  rw [pText_eq, if_neg (by simp; omega)]
  have := deep_read l 0 0 [] (by omega) (by refine ⟨?_, ?_, ?_, ?_⟩ <;> decide)
  rw [List.append_nil] at this
  rw [this]
  by_cases hl : l.length ≤ 32
  · rw [if_pos (.inl (by omega)), if_pos hl]
    rfl
  · rw [if_neg (by rintro (e | e); omega; rw [e] at hl; simp at hl), if_neg hl]
    rfl

end Go.Proofs.YtnlpdpbmmpeiaaaDoor
