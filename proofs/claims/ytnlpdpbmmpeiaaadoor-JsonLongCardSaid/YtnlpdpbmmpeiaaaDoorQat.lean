/- A string's pieces at a place of a text; the way through a string: plain mathematics. -/
import Derived.Test.YtnlpdpbmmpeiaaaDoorQpc
namespace Go.Proofs.YtnlpdpbmmpeiaaaDoor
open Go.RowKit

theorem drop_one {s : ByteArray} {a : Nat} (h : a < s.size) : ∃ c t, s.data.toList.drop a = c :: t ∧ byteAt s a = c.toNat ∧ t = s.data.toList.drop (a + 1) := by
  have hl := drop_len (s := s) (a := a) rfl
  rcases hd : s.data.toList.drop a with _ | ⟨c, t⟩
  · rw [hd] at hl; simp at hl; omega
  · exact ⟨c, t, rfl, bAt_head (k := 0) hd rfl, by rw [← List.drop_drop, hd]; rfl⟩

theorem unitL_at (s : ByteArray) (a : Nat) : unitL (s.data.toList.drop a) = if a + 1 < s.size ∧ byteAt s a = 92 ∧ byteAt s (a + 1) = 117 then hexL (s.data.toList.drop (a + 2)) else none := by
  have hl := drop_len (s := s) (a := a) rfl
  rcases hd : s.data.toList.drop a with _ | ⟨c0, _ | ⟨c, t⟩⟩
  · rw [hd] at hl; simp at hl; rw [if_neg (by omega)]; rfl
  · rw [hd] at hl; simp at hl; rw [if_neg (by omega)]; rfl
  · rw [hd] at hl
    simp only [List.length_cons] at hl
    have e0 : byteAt s a = c0.toNat := bAt_head (k := 0) hd rfl
    have e1 : byteAt s (a + 1) = c.toNat := bAt_head (k := 1) hd rfl
    have e2 : s.data.toList.drop (a + 2) = t := by rw [← List.drop_drop, hd]; rfl
    rw [e0, e1, e2]
    show (if c0.toNat = 92 ∧ c.toNat = 117 then hexL t else none) = _
    by_cases h : c0.toNat = 92 ∧ c.toNat = 117
    · rw [if_pos h, if_pos ⟨by omega, h⟩]
    · rw [if_neg h, if_neg (fun x => h x.2)]

theorem piece_end {s : ByteArray} {a : Nat} (h : a + 1 = s.size) (h92 : byteAt s a = 92) : pieceL (s.data.toList.drop a) = none := by
  have hl := drop_len (s := s) (a := a) rfl
  rcases hd : s.data.toList.drop a with _ | ⟨c0, _ | ⟨c, t⟩⟩
  · rfl
  · have e0 : byteAt s a = c0.toNat := bAt_head (k := 0) hd rfl
    unfold pieceL
    simp only []
    rw [if_pos (by omega)]
    rfl
  · rw [hd] at hl; simp at hl; omega
theorem piece_esc {s : ByteArray} {a : Nat} (h : a + 1 < s.size) (h92 : byteAt s a = 92) :
    pieceL (s.data.toList.drop a) = match letterB (byteAt s (a + 1)) with
      | some x => some ([UInt8.ofNat x], 2)
      | none => (codedL (s.data.toList.drop a)).map fun p => (encB p.1, p.2) := by
  have hl := drop_len (s := s) (a := a) rfl
  rcases hd : s.data.toList.drop a with _ | ⟨c0, _ | ⟨c, t⟩⟩
  · rw [hd] at hl; simp at hl; omega
  · rw [hd] at hl; simp at hl; omega
  · have e0 : byteAt s a = c0.toNat := bAt_head (k := 0) hd rfl
    have e1 : byteAt s (a + 1) = c.toNat := bAt_head (k := 1) hd rfl
    rw [e1]
    unfold pieceL
    simp only []
    rw [if_pos (by omega)]
    rfl
theorem piece_plain {s : ByteArray} {a : Nat} (h : a < s.size) (h92 : byteAt s a ≠ 92) :
    pieceL (s.data.toList.drop a) = if (codeD s a).2 = 0 ∨ (codeD s a).1 < 32 then none else some ((s.data.toList.drop a).take (codeD s a).2, (codeD s a).2) := by
  rw [codeD_drop]
  obtain ⟨c, t, hd, e0, _⟩ := drop_one h
  rw [hd]
  unfold pieceL
  simp only []
  rw [if_neg (by omega)]
theorem coded_not {s : ByteArray} {a : Nat} (h : byteAt s (a + 1) ≠ 117) : codedL (s.data.toList.drop a) = none := by
  unfold codedL
  rw [unitL_at, if_neg (fun x => h x.2.2)]

/-! ### the way through a string -/
structure Tk (s : ByteArray) (a i f : Nat) (acc : List UInt8) : Prop where
  eq : takeL (s.data.toList.drop a) = (walkL f (s.data.toList.drop i)).map fun p => (acc ++ p.1, (i - a) + p.2)
  fuel : s.size + 1 ≤ i + f
  pos : a < i

theorem Tk.start {s : ByteArray} {a : Nat} (h : a < s.size) (h34 : byteAt s a = 34) : Tk s a (a + 1) (s.size - a) [] := by
  obtain ⟨c, t, hd, e0, ht⟩ := drop_one h
  have hl := drop_len hd
  simp only [List.length_cons] at hl
  refine ⟨?_, by omega, by omega⟩
  rw [hd]
  unfold takeL
  simp only []
  rw [if_pos (by omega), ht]
  rw [ht] at hl
  rw [hl]
  cases walkL (s.size - a) (s.data.toList.drop (a + 1)) with
  | none => rfl
  | some p =>
    have e1 : a + 1 - a = 1 := by omega
    simp [e1]
    omega
theorem Tk.succ {s : ByteArray} {a i f : Nat} {acc : List UInt8} (h : Tk s a i f acc) (hi : i < s.size) : ∃ g, f = g + 1 := ⟨f - 1, by have := h.fuel; omega⟩
theorem Tk.out {s : ByteArray} {a i f : Nat} {acc : List UInt8} (h : Tk s a i f acc) (hi : ¬ i < s.size) : takeL (s.data.toList.drop a) = none := by
  have hd : s.data.toList.drop i = [] := by rw [List.drop_eq_nil_iff, size_list]; omega
  rw [h.eq, hd]
  cases f <;> rfl
theorem Tk.mark {s : ByteArray} {a i f : Nat} {acc : List UInt8} (h : Tk s a i f acc) (hi : i < s.size) (h34 : byteAt s i = 34) : takeL (s.data.toList.drop a) = some (acc, i + 1 - a) := by
  obtain ⟨g, rfl⟩ := h.succ hi
  obtain ⟨c, t, hd, e0, _⟩ := drop_one hi
  have := h.pos
  rw [h.eq, hd]
  unfold walkL
  simp only []
  rw [if_pos (by omega)]
  simp
  omega
theorem Tk.bad {s : ByteArray} {a i f : Nat} {acc : List UInt8} (h : Tk s a i f acc) (hi : i < s.size) (h34 : byteAt s i ≠ 34) (hp : pieceL (s.data.toList.drop i) = none) : takeL (s.data.toList.drop a) = none := by
  obtain ⟨g, rfl⟩ := h.succ hi
  obtain ⟨c, t, hd, e0, _⟩ := drop_one hi
  rw [hd] at hp
  rw [h.eq, hd]
  unfold walkL
  simp only []
  rw [if_neg (by omega), hp]
  rfl
theorem piece_size {s : ByteArray} {i n : Nat} {x : List UInt8} (hi : i < s.size) (h34 : byteAt s i ≠ 34) (hp : pieceL (s.data.toList.drop i) = some (x, n)) : 1 ≤ n ∧ i + n ≤ s.size ∧ x.length ≤ n := by
  have hl := drop_len (s := s) (a := i) rfl
  obtain ⟨p, t, r, hl2, hP, rfl, rfl⟩ := piece_of hp (fun c t e => by rw [← bAt_head (k := 0) e rfl]; exact h34)
  rw [hl2, List.length_append] at hl
  exact ⟨hP.pos, by omega, hP.le⟩
theorem Tk.step {s : ByteArray} {a i f : Nat} {acc : List UInt8} (h : Tk s a i f acc) (hi : i < s.size) (h34 : byteAt s i ≠ 34) {x : List UInt8} {n : Nat} (hp : pieceL (s.data.toList.drop i) = some (x, n)) :
    Tk s a (i + n) (f - 1) (acc ++ x) := by
  obtain ⟨g, rfl⟩ := h.succ hi
  have hn := (piece_size hi h34 hp).1
  obtain ⟨c, t, hd, e0, _⟩ := drop_one hi
  have hf := h.fuel
  have hpos := h.pos
  refine ⟨?_, by omega, by omega⟩
  rw [h.eq, ← List.drop_drop]
  rw [hd] at hp ⊢
  show (walkL (g + 1) (c :: t)).map _ = _
  rw [show walkL (g + 1) (c :: t) = (walkL g ((c :: t).drop n)).map fun p => (x ++ p.1, n + p.2) by
    conv => lhs; unfold walkL
    simp only []
    rw [if_neg (by omega), hp]]
  rw [Nat.add_sub_cancel]
  cases walkL g ((c :: t).drop n) with
  | none => rfl
  | some p =>
    simp only [Option.map_some, List.append_assoc, Option.some.injEq, Prod.mk.injEq, true_and]
    omega

/-- a text with more behind -/
theorem app_list (s t : ByteArray) : (s ++ t).data.toList = s.data.toList ++ t.data.toList := by rw [ByteArray.data_append, Array.toList_append]
theorem cut_list (s : ByteArray) (a n : Nat) : (s.extract a (a + n)).data.toList = (s.data.toList.drop a).take n := by
  rw [Lib.extract_data]
  congr 1
  omega

/-- a place of a text -/
def restQ (l : List UInt8) (x : Int) : List UInt8 := if 0 ≤ x then l.drop x.toNat else []
theorem restQ_in (l : List UInt8) (a : Nat) : restQ l a = l.drop a := by unfold restQ; rw [if_pos (by omega)]; rfl
theorem restQ_out {s : ByteArray} {x : Int} (h : x < 0 ∨ s.size ≤ x) : restQ s.data.toList x = [] := by
  unfold restQ
  split
  · rw [List.drop_eq_nil_iff, size_list]; omega
  · rfl
theorem takeL_not {s : ByteArray} {a : Nat} (h : a < s.size) (h34 : byteAt s a ≠ 34) : takeL (s.data.toList.drop a) = none := by
  obtain ⟨c, t, hd, e0, _⟩ := drop_one h
  rw [hd]
  unfold takeL
  simp only []
  rw [if_neg (by omega)]

end Go.Proofs.YtnlpdpbmmpeiaaaDoor
