/- The code points of code points' bytes are they: plain mathematics. -/
import Derived.Test.YtmconmlfbgndoaaDoorPtd
import Derived.Test.YtmconmlfbgndoaaDoorText
import Derived.Test.YtmconmlfbgndoaaDoorEnc
namespace Go.Proofs.YtmconmlfbgndoaaDoor

theorem encL_bd {l : List Int} (h : allPt l) : ∀ y ∈ encL l, 0 ≤ y ∧ y < 256 := by
  intro y hy
  unfold encL at hy
  obtain ⟨r, hr, hyr⟩ := List.mem_flatMap.1 hy
  exact encZ_bd r (h r hr) y hyr

theorem byteAt_nums0 (xs : List Int) (hb : ∀ y ∈ xs, 0 ≤ y ∧ y < 256) (i : Nat) (hi : i < xs.length) : (byteAt (strOfNums xs) i : Int) = xs[i] := by
  have hsz : i < (strOfNums xs).size := by rw [strOfNums_size]; omega
  unfold byteAt
  rw [dif_pos hsz]
  have e2 : (strOfNums xs)[i]'hsz = UInt8.ofNat xs[i].toNat := by
    show (strOfNums xs).data[i]'_ = _
    simp [strOfNums]
  rw [e2]
  have := hb xs[i] (List.getElem_mem hi)
  simp
  omega

theorem listS_mid (l1 l2 : List Int) (r : Int) (h : allPt (l1 ++ r :: l2)) : encZ r = listS (strOfNums (encL (l1 ++ r :: l2))) (encL l1).length (encZ r).length := by
  have hb := encL_bd h
  have e : encL (l1 ++ r :: l2) = encL l1 ++ (encZ r ++ encL l2) := by simp [encL]
  apply List.ext_getElem
  · simp [listS]
  · intro i h1 h2
    have hlt : (encL l1).length + i < (encL (l1 ++ r :: l2)).length := by rw [e]; simp; omega
    have := byteAt_nums0 (encL (l1 ++ r :: l2)) hb ((encL l1).length + i) hlt
    simp only [listS, List.getElem_map, List.getElem_range]
    rw [this]
    have : (encL l1 ++ (encZ r ++ encL l2))[(encL l1).length + i]'(by rw [← e]; exact hlt) = (encZ r)[i] := by
      rw [List.getElem_append_right (by omega)]
      rw [List.getElem_append_left (by omega)]
      congr 1
      omega
    rw [← this]
    congr 1
    exact e.symm

theorem pts_mid (l : List Int) (h : allPt l) : ∀ (l2 l1 : List Int) (f : Nat), l = l1 ++ l2 → (encL l2).length ≤ f →
    ptsD (strOfNums (encL l)) f (encL l1).length = l2 ∧ vld (strOfNums (encL l)) f (encL l1).length = true := by
  intro l2
  induction l2 with
  | nil =>
    intro l1 f hl _
    have hend : ¬ (encL l1).length < (strOfNums (encL l)).size := by rw [strOfNums_size, hl]; simp
    exact ⟨ptsD_end _ _ _ hend, vld_end _ _ _ hend⟩
  | cons r l2 ih =>
    intro l1 f hl hf
    have hr : isPt r := h r (by rw [hl]; simp)
    have h1 := encZ_len r
    have hlen : (encL (r :: l2)).length = (encZ r).length + (encL l2).length := by simp [encL]
    have hall : (encL l).length = (encL l1).length + (encZ r).length + (encL l2).length := by rw [hl]; simp [encL]; omega
    obtain ⟨f', rfl⟩ : ∃ f', f = f' + 1 := ⟨f - 1, by omega⟩
    have hlt : (encL l1).length < (strOfNums (encL l)).size := by rw [strOfNums_size]; omega
    have hd := decode_of (strOfNums (encL l)) (encL l1).length r hr (by rw [strOfNums_size]; omega) (by rw [hl]; exact listS_mid l1 l2 r (by rw [← hl]; exact h))
    have hg := codeD_good hd.2 h1
    have ih' := ih (l1 ++ [r]) f' (by rw [hl]; simp) (by omega)
    have e : (encL (l1 ++ [r])).length = (encL l1).length + (encZ r).length := by rw [encL_snoc]; simp
    rw [e] at ih'
    rw [ptsD, vld, if_pos hlt, if_pos hlt, if_neg hg.1, hg.2, hd.1, hd.2]
    exact ⟨by rw [ih'.1], ih'.2⟩

theorem pts_enc (l : List Int) (h : allPt l) : pts (strOfNums (encL l)) = l ∧ vld (strOfNums (encL l)) (strOfNums (encL l)).size 0 = true :=
  pts_mid l h l [] _ rfl (by rw [strOfNums_size]; exact Nat.le_refl _)

theorem strOfNums_append (xs ys : List Int) : strOfNums xs ++ strOfNums ys = strOfNums (xs ++ ys) := by
  apply ByteArray.ext
  simp [strOfNums]

end Go.Proofs.YtmconmlfbgndoaaDoor
