/- Items and components read from a text (package version), in any world. -/
import Derived.Test.YtecgjbddcmpggaaDoorVs
import Derived.Laws.IdiomStrings
import Derived.OwnWalk
import Derived.Laws.OwnMore
import Derived.Lib.Split
namespace Go.Proofs.YtecgjbddcmpggaaDoor
open Go.RowKit Go.Shelf

/-! ### the item ahead -/
def itemR (l : List UInt8) : Option (It × Nat) := if 0 < pre ltB l then some ((0, l.take (pre ltB l)), pre ltB l) else (smallL (l.take (pre dgB l))).map fun n => ((n, []), pre dgB l)
theorem itemR_some {l : List UInt8} {x : It} {k : Nat} (h : itemR l = some (x, k)) : 0 < k ∧ k ≤ l.length := by
  unfold itemR at h
  split at h
  · cases h
    exact ⟨by assumption, pre_le _ _⟩
  · cases hs : smallL (l.take (pre dgB l)) with
    | none => rw [hs] at h; cases h
    | some n =>
      rw [hs] at h
      cases h
      rcases small_cases (l.take (pre dgB l)) with ⟨h0, _⟩ | ⟨_, h2⟩
      · rw [List.length_take] at h0; exact ⟨by omega, pre_le _ _⟩
      · rw [hs] at h2; cases h2
theorem itemsL_item {l : List UInt8} (h : l ≠ []) : itemsL l = (itemR l).bind fun p => (itemsL (l.drop p.2)).map (p.1 :: ·) := by
  cases l with
  | nil => exact absurd rfl h
  | cons c r =>
    unfold itemR
    by_cases hc : ltB c = true
    · have e : pre ltB (c :: r) = pre ltB r + 1 := by rw [pre_cons, if_pos hc]
      rw [if_pos (by omega), e, itemsL_lt r hc, pre_take, pre_drop]
      rfl
    · rw [Bool.not_eq_true] at hc
      have e : pre ltB (c :: r) = 0 := by rw [pre_cons, if_neg (by rw [hc]; simp)]
      rw [if_neg (by omega), itemsL_dg r hc]
      by_cases hd : dgB c = true
      · have e2 : pre dgB (c :: r) = pre dgB r + 1 := by rw [pre_cons, if_pos hd]
        rw [e2, List.take_succ_cons, pre_take, pre_drop]
        cases smallL (c :: r.take (pre dgB r)) <;> rfl
      · rw [Bool.not_eq_true] at hd
        have e2 : pre dgB (c :: r) = 0 := by rw [pre_cons, if_neg (by rw [hd]; simp)]
        have e3 : smallL (c :: r.takeWhile dgB) = none := by
          unfold smallL
          rw [if_neg]
          rintro ⟨_, _, h3⟩
          rw [List.all_cons, hd] at h3
          cases h3
        rw [e2, e3]
        rfl

/-! ### pieces of strings -/
theorem ext_take (s : ByteArray) (n : Nat) : s.extract 0 n = bs (s.data.toList.take n) := by
  apply ByteArray.ext
  apply Array.toList_inj.1
  rw [Lib.extract_from_zero]; rfl
theorem ext_drop (s : ByteArray) (n : Nat) : (s.extract n s.size).data.toList = s.data.toList.drop n := by
  rw [ByteArray.data_extract, Array.toList_extract, List.extract_eq_take_drop]
  apply List.take_of_length_le
  rw [List.length_drop, size_list]
  omega
theorem ext_size (s : ByteArray) (n : Nat) : (s.extract n s.size).size = s.size - n := by
  rw [← size_list, ext_drop, List.length_drop, size_list]
set_option maxHeartbeats 1000000 in
theorem item_yes (s : ByteArray) (w : World) (hs : s.size ≤ 1000000) (h : 0 < pre ltB s.data.toList) :
    Calls Tryd.prog 57 #[.string s] w fun e w' => e = .returned (.tuple #[itv (0, s.data.toList.take (pre ltB s.data.toList)), .int .i64 (pre ltB s.data.toList), .bool true]) ∧ Below w.heap.size w w' := by
  have q := fun w => letters_any s w (by unfold maxLen; omega)
  have hle : pre ltB s.data.toList ≤ s.size := by have := pre_le ltB s.data.toList; rwa [size_list] at this
  have HE := Lib.hid (ext_take s (pre ltB s.data.toList))
  have e : itv (0, s.data.toList.take (pre ltB s.data.toList)) = .agg #[.int .i64 0, .string (s.extract 0 (pre ltB s.data.toList))] := by rw [HE.out]; rfl
  rw [e]
  clear e HE
  generalize pre ltB s.data.toList = n at *
  go_enter Tryd.func57, Tryd.ntmps57
  go_wp2_with (go_at_call 56; refine (q _).mono ?_; rintro e w' ⟨rfl, rfl⟩)
  go_returns
  refine ⟨rfl, ?_⟩
  go_grown
set_option maxHeartbeats 1000000 in
theorem item_no (s : ByteArray) (w : World) (hs : s.size ≤ 1000000) (h : ¬ 0 < pre ltB s.data.toList) {n : Int} {b : Bool} (hn : smallV (s.data.toList.take (pre dgB s.data.toList)) = .tuple #[.int .i64 n, .bool b]) :
    Calls Tryd.prog 57 #[.string s] w fun e w' => e = .returned (.tuple #[itv (n, []), .int .i64 (pre dgB s.data.toList), .bool b]) ∧ Below w.heap.size w w' := by
  have q := fun w => letters_any s w (by unfold maxLen; omega)
  have q2 : ∀ w, Calls Tryd.prog 70 #[.string s, .int .u8 48, .int .u8 57] w fun e w' => e = .returned (.int .i64 (pre dgB s.data.toList)) ∧ w = w' := fun w => run_any dgB 48 57 (fun _ => rfl) s w (by unfold maxLen; omega)
  have hle : pre dgB s.data.toList ≤ s.size := by have := pre_le dgB s.data.toList; rwa [size_list] at this
  have q3 := fun w => number_any (s.extract 0 (pre dgB s.data.toList)) w (by rw [ext_take, bs_size, List.length_take, size_list]; unfold maxLen; omega)
  rw [ext_take, bs_data, hn] at q3
  rw [← ext_take] at q3
  clear hn
  have e : itv (n, []) = .agg #[.int .i64 n, .string ⟨#[]⟩] := rfl
  rw [e]
  clear e
  have h0 : pre ltB s.data.toList = 0 := by omega
  rw [h0] at q
  clear h h0
  generalize pre dgB s.data.toList = m at *
  go_enter Tryd.func57, Tryd.ntmps57
  go_wp2_with (first
    | (go_at_call 56; refine (q _).mono ?_; rintro e w' ⟨rfl, rfl⟩)
    | (go_at_call 70; refine (q2 _).mono ?_; rintro e w' ⟨rfl, rfl⟩)
    | (go_at_call 35; refine (q3 _).mono ?_; rintro e w' ⟨rfl, rfl⟩))
  go_returns
  refine ⟨rfl, ?_⟩
  go_grown
/-- what readItem answers -/
theorem item_any (s : ByteArray) (w : World) (hs : s.size ≤ 1000000) :
    Calls Tryd.prog 57 #[.string s] w fun e w' => (∃ x k b, e = .returned (.tuple #[itv x, .int .i64 (k : Nat), .bool b]) ∧ ((b = true ∧ itemR s.data.toList = some (x, k)) ∨ (b = false ∧ itemR s.data.toList = none))) ∧ Below w.heap.size w w' := by
  by_cases h : 0 < pre ltB s.data.toList
  · refine (item_yes s w hs h).mono ?_
    rintro e w' ⟨rfl, hb⟩
    exact ⟨⟨_, _, _, rfl, .inl ⟨rfl, if_pos h⟩⟩, hb⟩
  · obtain ⟨n, b, hn⟩ := smallV_form (s.data.toList.take (pre dgB s.data.toList))
    refine (item_no s w hs h hn).mono ?_
    rintro e w' ⟨rfl, hb⟩
    refine ⟨⟨_, _, _, rfl, ?_⟩, hb⟩
    unfold smallV at hn
    cases hq : smallL (s.data.toList.take (pre dgB s.data.toList)) with
    | some v =>
      rw [hq] at hn
      simp at hn
      exact .inl ⟨hn.2, by unfold itemR; rw [if_neg h, hq, ← hn.1]; rfl⟩
    | none =>
      rw [hq] at hn
      simp at hn
      exact .inr ⟨hn.2, by unfold itemR; rw [if_neg h, hq]; rfl⟩

end Go.Proofs.YtecgjbddcmpggaaDoor
