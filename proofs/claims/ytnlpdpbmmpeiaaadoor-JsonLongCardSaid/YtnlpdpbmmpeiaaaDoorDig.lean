/- What a number's text is, over a list of bytes (no program): digits, the whole part, the fraction, the exponent; a whole number's value. -/
import Derived.Lib.AtoiAllCases
import Derived.Lib.ItoaNum
namespace Go.Proofs.YtnlpdpbmmpeiaaaDoor.I2
open Go.Lib

/-- the byte at a place; 0 outside of the text -/
def bAt (l : List UInt8) (i : Nat) : Nat := match l[i]? with
  | some c => c.toNat
  | none => 0
theorem bAt_drop (l : List UInt8) (a i : Nat) : bAt (l.drop a) i = bAt l (a + i) := by unfold bAt; rw [List.getElem?_drop]
theorem bAt_lt (l : List UInt8) (i : Nat) : bAt l i < 256 := by
  unfold bAt; split
  · exact UInt8.toNat_lt _
  · omega
theorem bAt_out {l : List UInt8} {i : Nat} (h : l.length ≤ i) : bAt l i = 0 := by unfold bAt; rw [List.getElem?_eq_none h]
theorem bAt_pos {l : List UInt8} {i : Nat} (h : 0 < bAt l i) : i < l.length := by
  rcases Nat.lt_or_ge i l.length with h1 | h1
  · exact h1
  · rw [bAt_out h1] at h; omega
theorem bAt_get {l : List UInt8} {i : Nat} (h : i < l.length) : bAt l i = l[i].toNat := by unfold bAt; rw [List.getElem?_eq_getElem h]
theorem bAt_in (s : ByteArray) (i : Nat) (h : i < s.size) : s[i].toNat = bAt s.data.toList i := by
  rw [bAt_get (by simpa using h)]; rfl
theorem bAt_cons (c : UInt8) (l : List UInt8) : bAt (c :: l) 0 = c.toNat := rfl
theorem bAt_succ (c : UInt8) (l : List UInt8) (i : Nat) : bAt (c :: l) (i + 1) = bAt l i := rfl
theorem bAt_take {l : List UInt8} {n i : Nat} (h : i < n) : bAt (l.take n) i = bAt l i := by unfold bAt; rw [List.getElem?_take_of_lt h]
theorem bAt_left {l r : List UInt8} {i : Nat} (h : i < l.length) : bAt (l ++ r) i = bAt l i := by unfold bAt; rw [List.getElem?_append_left h]
theorem bAt_right (l r : List UInt8) (i : Nat) : bAt (l ++ r) (l.length + i) = bAt r i := by unfold bAt; rw [List.getElem?_append_right (by omega)]; simp

/-- a digit -/
def isDg (n : Nat) : Prop := 48 ≤ n ∧ n ≤ 57
theorem isDg_no {n : Nat} (h : ¬ isDg n) : n < 48 ∨ 57 < n := by unfold isDg at h; omega

/-- how many digits a text begins with -/
def digs : List UInt8 → Nat
  | [] => 0
  | c :: r => if 48 ≤ c.toNat ∧ c.toNat ≤ 57 then digs r + 1 else 0
theorem digs_le : ∀ l : List UInt8, digs l ≤ l.length
  | [] => Nat.le_refl _
  | c :: r => by have := digs_le r; unfold digs; split <;> simp <;> omega
theorem digs_at : ∀ {l : List UInt8} {k : Nat}, k < digs l → isDg (bAt l k)
  | [], _, h => by simp [digs] at h
  | c :: r, 0, h => by
    unfold digs at h
    split at h
    · assumption
    · omega
  | c :: r, k + 1, h => by
    unfold digs at h
    split at h
    · rw [bAt_succ]; exact digs_at (by omega)
    · omega
theorem digs_stop : ∀ l : List UInt8, ¬ isDg (bAt l (digs l))
  | [] => by simp [digs, bAt, isDg]
  | c :: r => by
    unfold digs
    split
    · rw [bAt_succ]; exact digs_stop r
    · assumption
theorem digs_of : ∀ {l : List UInt8} {n : Nat}, (∀ k, k < n → isDg (bAt l k)) → ¬ isDg (bAt l n) → digs l = n
  | l, n, h, hn => by
    rcases Nat.lt_trichotomy (digs l) n with h1 | h1 | h1
    · exact absurd (h _ h1) (digs_stop l)
    · exact h1
    · exact absurd (digs_at h1) hn

/-- the bytes of a sign -/
def sgn (l : List UInt8) : Nat := if bAt l 0 = 45 then 1 else 0
theorem sgn_le (l : List UInt8) : sgn l ≤ l.length := by
  unfold sgn; split
  · have := bAt_pos (l := l) (i := 0) (by omega); omega
  · omega
/-- the bytes of the whole part; 0: there is none -/
def front (l : List UInt8) : Nat := if bAt l (sgn l) = 48 then sgn l + 1 else if digs (l.drop (sgn l)) = 0 then 0 else sgn l + digs (l.drop (sgn l))
theorem front_le (l : List UInt8) : front l ≤ l.length := by
  have h1 := digs_le (l.drop (sgn l))
  have h2 := sgn_le l
  rw [List.length_drop] at h1
  unfold front; split
  · have := bAt_pos (l := l) (i := sgn l) (by omega); omega
  · split <;> omega
/-- the bytes of ".", digits -/
def frac (l : List UInt8) : Nat := if bAt l 0 = 46 ∧ 0 < digs (l.drop 1) then 1 + digs (l.drop 1) else 0
theorem frac_le (l : List UInt8) : frac l ≤ l.length := by
  have h1 := digs_le (l.drop 1)
  rw [List.length_drop] at h1
  unfold frac; split
  · have := bAt_pos (l := l) (i := 0) (by omega); omega
  · omega
/-- "e", and maybe a sign -/
def exps (l : List UInt8) : Nat := if bAt l 1 = 43 ∨ bAt l 1 = 45 then 2 else 1
/-- the bytes of an exponent -/
def expo (l : List UInt8) : Nat := if (bAt l 0 = 101 ∨ bAt l 0 = 69) ∧ 0 < digs (l.drop (exps l)) then exps l + digs (l.drop (exps l)) else 0
theorem expo_le (l : List UInt8) : expo l ≤ l.length := by
  have h1 := digs_le (l.drop (exps l))
  rw [List.length_drop] at h1
  unfold expo; split
  · omega
  · omega
def two (l : List UInt8) : Nat := front l + frac (l.drop (front l))
theorem two_le (l : List UInt8) : two l ≤ l.length := by
  have h1 := front_le l
  have h2 := frac_le (l.drop (front l))
  rw [List.length_drop] at h2
  unfold two; omega
/-- the bytes of a number's text, if there is one -/
def allOf (l : List UInt8) : Nat := two l + expo (l.drop (two l))
theorem allOf_le (l : List UInt8) : allOf l ≤ l.length := by
  have h1 := two_le l
  have h2 := expo_le (l.drop (two l))
  rw [List.length_drop] at h2
  unfold allOf; omega
theorem front_all (l : List UInt8) : front l ≤ allOf l := by unfold allOf two; omega

/-! ### The value of a whole number's text -/

def stepV (a : Nat) (c : UInt8) : Nat := a * 10 + (c.toNat - 48)
def valFrom (acc : Nat) (l : List UInt8) : Nat := l.foldl stepV acc
theorem valFrom_nil (acc : Nat) : valFrom acc [] = acc := by unfold valFrom; rw [List.foldl_nil]
theorem valFrom_cons (acc : Nat) (c : UInt8) (l : List UInt8) : valFrom acc (c :: l) = valFrom (acc * 10 + (c.toNat - 48)) l := by
  unfold valFrom; rw [List.foldl_cons]; unfold stepV; exact Eq.refl _
theorem valFrom_append (acc : Nat) (l r : List UInt8) : valFrom acc (l ++ r) = valFrom (valFrom acc l) r := by unfold valFrom; rw [List.foldl_append]
theorem valFrom_le : ∀ (l : List UInt8) (acc : Nat), acc ≤ valFrom acc l
  | [], acc => by rw [valFrom_nil]; exact Nat.le_refl _
  | c :: r, acc => by rw [valFrom_cons]; have := valFrom_le r (acc * 10 + (c.toNat - 48)); omega
/-- a text of digits alone -/
def allDg (l : List UInt8) : Prop := ∀ c ∈ l, 48 ≤ c.toNat ∧ c.toNat ≤ 57
theorem allDg_digs {l : List UInt8} (h : allDg l) : digs l = l.length := by
  induction l with
  | nil => rfl
  | cons c r ih =>
    have hc := h c (List.mem_cons_self ..)
    unfold digs
    rw [if_pos hc, ih (fun x hx => h x (List.mem_cons_of_mem _ hx))]
    rfl
theorem allDg_take {l : List UInt8} {n : Nat} (h : n ≤ digs l) : allDg (l.take n) := by
  intro c hc
  obtain ⟨i, hi, rfl⟩ := List.mem_iff_getElem.1 hc
  rw [List.length_take] at hi
  have h1 := digs_at (l := l) (k := i) (by omega)
  rw [bAt_get (by omega)] at h1
  rw [List.getElem_take]
  exact h1
theorem allDg_at {l : List UInt8} {i : Nat} (h : allDg l) (hi : i < l.length) : isDg (bAt l i) := by
  rw [bAt_get hi]; exact h _ (List.getElem_mem hi)

theorem parseUint10_dg (l : List UInt8) : ∀ (acc : Nat), allDg l → acc < 18446744073709551616 → parseUint10 acc l = if valFrom acc l < 18446744073709551616 then .ok (valFrom acc l) else .range := by
  induction l with
  | nil =>
    intro acc _ ha
    rw [valFrom_nil, if_pos ha, parseUint10]
  | cons c r ih =>
    intro acc h ha
    have hc := h c (List.mem_cons_self ..)
    have hr : allDg r := fun x hx => h x (List.mem_cons_of_mem _ hx)
    have hle := valFrom_le r (acc * 10 + (c.toNat - 48))
    rw [valFrom_cons, parseUint10, if_pos hc]
    have ih2 := ih (acc * 10 + (c.toNat - 48)) hr
    clear ih
    generalize valFrom (acc * 10 + (c.toNat - 48)) r = V at *
    split
    · rw [if_neg (by omega)]
    · split
      · rw [if_neg (by omega)]
      · exact ih2 (by omega)
theorem parseMag_dg (l : List UInt8) (h : allDg l) (hn : l ≠ []) : parseMag l = if valFrom 0 l < 18446744073709551616 then .ok (valFrom 0 l) else .range := by
  unfold parseMag
  rw [if_neg hn]
  exact parseUint10_dg l 0 h (by omega)

/-- the value of a whole number's text, if it fits -/
def wholeV (l : List UInt8) : Option Int := match atoiAll l with
  | .ok v => some v
  | _ => none
theorem atoi_neg (l : List UInt8) (h : allDg l) (hn : l ≠ []) : atoiAll (45 :: l) = if valFrom 0 l ≤ 9223372036854775808 then .ok (-(valFrom 0 l : Int)) else .range := by
  rw [atoiAll_minus, parseMag_dg l h hn]
  split
  · simp only [signed]
    split
    · rw [if_neg (by omega)]
    · rw [if_pos (by omega)]
  · simp only [signed]
    rw [if_neg (by omega)]
theorem atoi_pos (l : List UInt8) (h : allDg l) (hn : l ≠ []) : atoiAll l = if valFrom 0 l < 9223372036854775808 then .ok (valFrom 0 l : Int) else .range := by
  cases l with
  | nil => exact absurd rfl hn
  | cons c r =>
    have hc := h c (List.mem_cons_self ..)
    rw [atoiAll_plain c r (by omega) (by omega), parseMag_dg _ h hn]
    split
    · simp only [signless]
      split
      · rw [if_neg (by omega)]
      · rw [if_pos (by omega)]
    · simp only [signless]
      rw [if_neg (by omega)]

/-- what a whole number's text is: maybe "-", digits -/
theorem front_cases {l : List UInt8} (h : front l ≠ 0) : ∃ D, D ≠ [] ∧ allDg D ∧ ((sgn l = 1 ∧ l.take (front l) = 45 :: D) ∨ (sgn l = 0 ∧ l.take (front l) = D)) := by
  have hb : ∃ m, 0 < m ∧ m ≤ digs (l.drop (sgn l)) ∧ front l = sgn l + m := by
    unfold front at h ⊢
    split
    · rename_i h0
      refine ⟨1, by omega, ?_, rfl⟩
      have hd : ¬ digs (l.drop (sgn l)) = 0 := fun e => by
        have := digs_stop (l.drop (sgn l))
        rw [e, bAt_drop, Nat.add_zero, h0] at this
        exact this ⟨by omega, by omega⟩
      omega
    · rename_i h0
      rw [if_neg h0] at h
      split at h
      · exact absurd rfl h
      · rename_i h1
        exact ⟨_, by omega, Nat.le_refl _, by rw [if_neg h1]⟩
  obtain ⟨m, hm, hmd, hf⟩ := hb
  have hdl := digs_le (l.drop (sgn l))
  refine ⟨(l.drop (sgn l)).take m, ?_, allDg_take hmd, ?_⟩
  · intro e
    have := congrArg List.length e
    rw [List.length_take] at this
    simp at this hdl
    omega
  · rcases Nat.eq_zero_or_pos (sgn l) with h0 | h0
    · exact .inr ⟨h0, by rw [hf, h0, Nat.zero_add, List.drop_zero]⟩
    · have h1 : bAt l 0 = 45 := by unfold sgn at h0; split at h0 <;> omega
      have h2 : sgn l = 1 := by unfold sgn; rw [if_pos h1]
      refine .inl ⟨h2, ?_⟩
      rw [hf, h2]
      cases l with
      | nil => simp [bAt] at h1
      | cons c r =>
        rw [bAt_cons] at h1
        have hc : c = 45 := UInt8.toNat_inj.1 (by rw [h1]; rfl)
        subst hc
        rw [Nat.add_comm]
        rfl
theorem wholeV_some {l : List UInt8} {v : Int} (h : wholeV l = some v) : atoiAll l = .ok v := by
  unfold wholeV at h
  cases he : atoiAll l <;> rw [he] at h <;> simp at h
  rw [h]
theorem wholeV_none {l : List UInt8} (hf : front l ≠ 0) (h : wholeV (l.take (front l)) = none) : atoiAll (l.take (front l)) = .range := by
  have hno : ∀ v, atoiAll (l.take (front l)) ≠ .ok v := fun v e => by
    unfold wholeV at h; rw [e] at h; simp at h
  obtain ⟨D, hn, hd, ⟨_, e⟩ | ⟨_, e⟩⟩ := front_cases hf
  · rw [e, atoi_neg D hd hn] at hno ⊢
    by_cases hv : valFrom 0 D ≤ 9223372036854775808
    · exact absurd (if_pos hv) (hno _)
    · rw [if_neg hv]
  · rw [e, atoi_pos D hd hn] at hno ⊢
    by_cases hv : valFrom 0 D < 9223372036854775808
    · exact absurd (if_pos hv) (hno _)
    · rw [if_neg hv]

end Go.Proofs.YtnlpdpbmmpeiaaaDoor.I2
