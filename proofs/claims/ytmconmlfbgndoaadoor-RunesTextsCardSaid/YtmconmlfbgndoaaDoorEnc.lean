/- A code point's bytes, read back at their place. -/
import Derived.Test.YtmconmlfbgndoaaDoorCode
namespace Go.Proofs.YtmconmlfbgndoaaDoor
open Go.RowKit

theorem listS_1 (s : ByteArray) (a : Nat) : listS s a 1 = [(byteAt s a : Int)] := rfl
theorem listS_2 (s : ByteArray) (a : Nat) : listS s a 2 = [(byteAt s a : Int), (byteAt s (a + 1) : Int)] := rfl
theorem listS_3 (s : ByteArray) (a : Nat) : listS s a 3 = [(byteAt s a : Int), (byteAt s (a + 1) : Int), (byteAt s (a + 2) : Int)] := rfl
theorem listS_4 (s : ByteArray) (a : Nat) : listS s a 4 = [(byteAt s a : Int), (byteAt s (a + 1) : Int), (byteAt s (a + 2) : Int), (byteAt s (a + 3) : Int)] := rfl

/-- where a code point's bytes stand, they are it -/
theorem cand_of (s : ByteArray) (a : Nat) (r : Int) (hr : isPt r) (h : encZ r = listS s a (encZ r).length) : (cand s a (encZ r).length : Int) = r := by
  have hb : 0 ≤ r ∧ r ≤ 1114111 := by unfold isPt at hr; omega
  unfold encZ at h ⊢
  by_cases h1 : r < 128
  · rw [if_pos h1] at h ⊢
    simp only [List.length_cons, List.length_nil] at h ⊢
    rw [listS_1] at h
    simp only [List.cons.injEq, and_true] at h
    show ((byteAt s a : Nat) : Int) = r
    exact h.symm
  · rw [if_neg h1] at h ⊢
    by_cases h2 : r < 2048
    · rw [if_pos h2] at h ⊢
      simp only [List.length_cons, List.length_nil] at h ⊢
      rw [listS_2] at h
      simp only [List.cons.injEq, and_true] at h
      show ((byteAt s a % 32 * 64 + byteAt s (a + 1) % 64 : Nat) : Int) = r
      omega
    · rw [if_neg h2] at h ⊢
      by_cases h3 : r < 65536
      · rw [if_pos h3] at h ⊢
        simp only [List.length_cons, List.length_nil] at h ⊢
        rw [listS_3] at h
        simp only [List.cons.injEq, and_true] at h
        show (((byteAt s a % 16 * 64 + byteAt s (a + 1) % 64) * 64 + byteAt s (a + 2) % 64 : Nat) : Int) = r
        omega
      · rw [if_neg h3] at h ⊢
        simp only [List.length_cons, List.length_nil] at h ⊢
        rw [listS_4] at h
        simp only [List.cons.injEq, and_true] at h
        show ((((byteAt s a % 8 * 64 + byteAt s (a + 1) % 64) * 64 + byteAt s (a + 2) % 64) * 64 + byteAt s (a + 3) % 64 : Nat) : Int) = r
        omega

theorem encZ_len4 (r : Int) : (encZ r).length ≤ 4 := by
  unfold encZ
  repeat' split
  all_goals simp

theorem decode_of (s : ByteArray) (a : Nat) (r : Int) (hr : isPt r) (hsz : a + (encZ r).length ≤ s.size) (h : encZ r = listS s a (encZ r).length) :
    ((codeD s a).1 : Int) = r ∧ (codeD s a).2 = (encZ r).length := by
  have hc := cand_of s a r hr h
  have h1 := encZ_len r
  have := code_ref s a (by omega) (cand s a (encZ r).length, (encZ r).length) (.inl ⟨(encZ r).length, h1, encZ_len4 r, hsz, ⟨by rw [hc]; exact hr, by rw [hc]; exact h⟩, rfl⟩)
  rw [this]
  exact ⟨hc, rfl⟩

theorem byteAt_nums (xs : List Int) (hb : ∀ y ∈ xs, 0 ≤ y ∧ y < 256) (t : ByteArray) (i : Nat) (hi : i < xs.length) : (byteAt (strOfNums xs ++ t) i : Int) = xs[i] := by
  have hsz : i < (strOfNums xs ++ t).size := by rw [ByteArray.size_append, strOfNums_size]; omega
  unfold byteAt
  rw [dif_pos hsz]
  have e : (strOfNums xs ++ t)[i] = (strOfNums xs)[i]'(by rw [strOfNums_size]; exact hi) := ByteArray.getElem_append_left _
  rw [e]
  have e2 : (strOfNums xs)[i]'(by rw [strOfNums_size]; exact hi) = UInt8.ofNat xs[i].toNat := by
    show (strOfNums xs).data[i]'_ = _
    simp [strOfNums]
  rw [e2]
  have := hb xs[i] (List.getElem_mem hi)
  simp
  omega

theorem listS_nums (xs : List Int) (hb : ∀ y ∈ xs, 0 ≤ y ∧ y < 256) (t : ByteArray) : xs = listS (strOfNums xs ++ t) 0 xs.length := by
  apply List.ext_getElem
  · simp [listS]
  · intro i h1 h2
    have := byteAt_nums xs hb t i h1
    simp [listS]
    exact this.symm

theorem decode_enc (r : Int) (hr : isPt r) (t : ByteArray) : ((codeD (strOfNums (encZ r) ++ t) 0).1 : Int) = r ∧ (codeD (strOfNums (encZ r) ++ t) 0).2 = (encZ r).length :=
  decode_of _ 0 r hr (by rw [ByteArray.size_append, strOfNums_size]; omega) (listS_nums _ (encZ_bd r hr) t)

theorem codeD_good {s : ByteArray} {a k : Nat} (h : (codeD s a).2 = k) (hk : 1 ≤ k) : ¬ ((Utf8.decode s a).1 = 65533 ∧ (Utf8.decode s a).2 = 1) ∧ Utf8.decode s a = codeD s a := by
  unfold codeD at h ⊢
  by_cases hc : (Utf8.decode s a).1 = 65533 ∧ (Utf8.decode s a).2 = 1
  · rw [if_pos hc] at h; simp only at h; omega
  · rw [if_neg hc]; exact ⟨hc, rfl⟩

/-- runes.Decode of a code point's bytes, whatever stands behind -/
theorem dec_enc (r : Int) (t : ByteArray) (w : World) (hT : Lib.Utf8Tabs 13 14 w) (hr : isPt r) (hs : (strOfNums (encZ r) ++ t).size ≤ maxLen) :
    Calls Tryd.prog 8 #[.string (strOfNums (encZ r) ++ t), .int .i64 0] w fun e w' => e = .returned (.tuple #[.int .i64 r, .int .i64 (encZ r).length, .bool true]) ∧ Below w.heap.size w w' := by
  have hd := decode_enc r hr t
  have h1 := encZ_len r
  have hg := codeD_good hd.2 h1
  have := dec_good (strOfNums (encZ r) ++ t) 0 w hT hs (by rw [ByteArray.size_append, strOfNums_size]; omega) hg.1
  rw [hg.2, hd.1, hd.2] at this
  exact this

theorem dec_80 (w : World) (hT : Lib.Utf8Tabs 13 14 w) :
    Calls Tryd.prog 8 #[.string ⟨#[128]⟩, .int .i64 0] w fun e w' => e = .returned (.tuple #[.int .i64 0, .int .i64 0, .bool false]) ∧ Below w.heap.size w w' :=
  dec_bad ⟨#[128]⟩ 0 w hT (by decide) (by decide) (by decide +kernel)

end Go.Proofs.YtmconmlfbgndoaaDoor
