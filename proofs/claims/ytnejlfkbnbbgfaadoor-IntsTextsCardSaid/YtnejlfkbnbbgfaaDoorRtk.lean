/- The document's Take; what both answer at a place. -/
import Derived.Test.YtnejlfkbnbbgfaaDoorVal
namespace Go.Proofs.YtnejlfkbnbbgfaaDoor
open Go.RowKit

theorem value_both (T : ByteArray) (w : World) (hs : T.size ≤ 2000) (D : List UInt8) (hn : D ≠ []) (hd : allDg D) (hc : T.data.toList = 45 :: D ∨ T.data.toList = D) :
    Calls Tryd.prog 21 #[.string T] w fun e w' => (match wholeV T.data.toList with
      | some v => e = .returned (.tuple #[.int .i64 v, .bool true])
      | none => e = .returned (.tuple #[.int .i64 0, .bool false])) ∧ w = w' := by
  rcases hc with hc | hc
  · have h0 : 0 < T.size := by rw [← size_list, hc]; simp
    have hD : (T.extract 1 T.size).data.toList = D := by rw [ext_list, hc]; rfl
    have hB : Behind T (T.extract 1 T.size) true := ⟨h0, .inl ⟨rfl, by rw [bAt_in T 0 h0, hc]; rfl, rfl⟩⟩
    have hw : wholeV T.data.toList = if valFrom 0 D ≤ 9223372036854775808 then some (-(valFrom 0 D : Int)) else none := by
      unfold wholeV; rw [hc, atoi_neg D hd hn]
      by_cases h9 : valFrom 0 D ≤ 9223372036854775808
      · rw [if_pos h9, if_pos h9]
      · rw [if_neg h9, if_neg h9]
    rw [hw]
    by_cases hv : valFrom 0 D ≤ 9223372036854775808
    · rw [if_pos hv]
      have h := value_fit T _ true w hs hB (by rw [hD]; exact hd) (by rw [hD]; exact hv)
      rw [hD, valRes_t] at h
      exact h
    · rw [if_neg hv]
      exact value_not T _ true w hs hB (by rw [hD]; exact hd) (by rw [hD]; exact hv)
  · have h0 : 0 < T.size := by
      rw [← size_list, hc]
      exact List.length_pos_iff.2 hn
    have h45 : ¬ T[0].toNat = 45 := by
      have := allDg_at (l := T.data.toList) (i := 0) (by rw [hc]; exact hd) (by rw [size_list]; exact h0)
      rw [← bAt_in T 0 h0] at this
      unfold isDg at this; omega
    have hB : Behind T T false := ⟨h0, .inr ⟨rfl, h45, rfl⟩⟩
    have hw : wholeV T.data.toList = if valFrom 0 D < 9223372036854775808 then some (valFrom 0 D : Int) else none := by
      unfold wholeV; rw [hc, atoi_pos D hd hn]
      by_cases h9 : valFrom 0 D < 9223372036854775808
      · rw [if_pos h9, if_pos h9]
      · rw [if_neg h9, if_neg h9]
    rw [hw]
    by_cases hv : valFrom 0 D ≤ 9223372036854775808
    · have h := value_fit T T false w hs hB (by rw [hc]; exact hd) (by rw [hc]; exact hv)
      rw [hc] at h
      by_cases hm : valFrom 0 D = 9223372036854775808
      · rw [if_neg (by omega)]
        rw [valRes_m hm] at h
        exact h
      · rw [if_pos (by omega)]
        rw [valRes_f hm] at h
        exact h
    · rw [if_neg (by omega)]
      exact value_not T T false w hs hB (by rw [hc]; exact hd) (by rw [hc]; exact hv)

/-- what stands from a place of a text on -/
def restL (l : List UInt8) (x : Int) : List UInt8 := if x < 0 then [] else l.drop x.toNat
theorem restL_out {s : ByteArray} {x : Int} (h : x < 0 ∨ s.size ≤ x) : restL s.data.toList x = [] := by
  unfold restL
  split
  · rfl
  · exact List.drop_eq_nil_of_le (by rw [size_list]; omega)
theorem restL_in {s : ByteArray} {a : Nat} : restL s.data.toList (a : Int) = s.data.toList.drop a := by
  unfold restL; rw [if_neg (by omega), Int.toNat_natCast]

/-- the answer at the head of a text: the number, its size, which error -/
def takeR (l : List UInt8) : Int × Nat × Option Nat :=
  if front l = 0 then (0, 0, some 0) else match (if allOf l = front l then wholeV (l.take (front l)) else none) with
    | some v => (v, front l, none)
    | none => (0, 0, some 3)
theorem takeR_syn {l : List UInt8} (h : front l = 0) : takeR l = (0, 0, some 0) := by unfold takeR; rw [if_pos h]
theorem takeR_part {l : List UInt8} (h : front l ≠ 0) (h2 : allOf l ≠ front l) : takeR l = (0, 0, some 3) := by unfold takeR; rw [if_neg h, if_neg h2]
theorem takeR_none {l : List UInt8} (h : front l ≠ 0) (h3 : wholeV (l.take (front l)) = none) : takeR l = (0, 0, some 3) := by
  unfold takeR; rw [if_neg h, h3]; split <;> rename_i h4 <;> split at h4 <;> simp_all
theorem takeR_ok {l : List UInt8} {v : Int} (h : front l ≠ 0) (h2 : allOf l = front l) (h3 : wholeV (l.take (front l)) = some v) : takeR l = (v, front l, none) := by
  unfold takeR; rw [if_neg h, if_pos h2, h3]

def numOf : Option Nat → Int
  | none => 0
  | some k => k + 1

theorem tup3 {a b c a' b' c' : Int} (h : a = a') (h2 : b = b') (h3 : c = c') : Ending.returned (.tuple #[.int .i64 a, .int .i64 b, .int .i64 c]) = .returned (.tuple #[.int .i64 a', .int .i64 b', .int .i64 c']) := by rw [h, h2, h3]

theorem rtake_syn (s : ByteArray) (x : Int) (w : World)
    (hX : ∀ w, Calls Tryd.prog 14 #[.string s, .int .i64 x] w fun e w' => e = .returned (.tuple #[.int .i64 0, .int .i64 0]) ∧ w = w') :
    Calls Tryd.prog 11 #[.string s, .int .i64 x] w fun e w' => e = .returned (.tuple #[.int .i64 0, .int .i64 0, .int .i64 1]) ∧ w = w' := by
  go_enter Tryd.func11, Tryd.ntmps11
  go_wp2_with (go_at_call 14; refine (hX _).mono ?_; rintro e w' ⟨rfl, rfl⟩)
  go_ret3
  exact ⟨rfl, rfl⟩

set_option maxHeartbeats 400000 in
theorem rtake_part (s : ByteArray) (a : Nat) (w : World) (hs : s.size ≤ 2000) (f n : Nat) (h0 : f ≠ 0) (haf : a + f ≤ s.size) (hn : f < n)
    (hX : ∀ w, Calls Tryd.prog 14 #[.string s, .int .i64 a] w fun e w' => e = .returned (.tuple #[.int .i64 f, .int .i64 n]) ∧ w = w')
    (b : Bool) (v : Int) (hV : ∀ w, Calls Tryd.prog 21 #[.string (s.extract a (a + f))] w fun e w' => e = .returned (.tuple #[.int .i64 v, .bool b]) ∧ w = w') :
    Calls Tryd.prog 11 #[.string s, .int .i64 a] w fun e w' => e = .returned (.tuple #[.int .i64 0, .int .i64 0, .int .i64 4]) ∧ w = w' := by
  have hf : ((f : Int) == 0) = false := by simp; omega
  cases b
  all_goals
    go_enter Tryd.func11, Tryd.ntmps11
    go_wp2_with (first
      | (go_at_call 14; refine (hX _).mono ?_; rintro e w' ⟨rfl, rfl⟩)
      | (go_at_call 21; refine (hV _).mono ?_; rintro e w' ⟨rfl, rfl⟩))
    go_ret3
    exact ⟨rfl, rfl⟩

set_option maxHeartbeats 400000 in
theorem rtake_none (s : ByteArray) (a : Nat) (w : World) (hs : s.size ≤ 2000) (f n : Nat) (h0 : f ≠ 0) (haf : a + f ≤ s.size) (hn : f ≤ n)
    (hX : ∀ w, Calls Tryd.prog 14 #[.string s, .int .i64 a] w fun e w' => e = .returned (.tuple #[.int .i64 f, .int .i64 n]) ∧ w = w')
    (v : Int) (hV : ∀ w, Calls Tryd.prog 21 #[.string (s.extract a (a + f))] w fun e w' => e = .returned (.tuple #[.int .i64 v, .bool false]) ∧ w = w') :
    Calls Tryd.prog 11 #[.string s, .int .i64 a] w fun e w' => e = .returned (.tuple #[.int .i64 0, .int .i64 0, .int .i64 4]) ∧ w = w' := by
  have hf : ((f : Int) == 0) = false := by simp; omega
  go_enter Tryd.func11, Tryd.ntmps11
  go_wp2_with (first
    | (go_at_call 14; refine (hX _).mono ?_; rintro e w' ⟨rfl, rfl⟩)
    | (go_at_call 21; refine (hV _).mono ?_; rintro e w' ⟨rfl, rfl⟩))
  go_ret3
  exact ⟨rfl, rfl⟩

set_option maxHeartbeats 400000 in
theorem rtake_ok (s : ByteArray) (a : Nat) (w : World) (hs : s.size ≤ 2000) (f : Nat) (h0 : f ≠ 0) (haf : a + f ≤ s.size)
    (hX : ∀ w, Calls Tryd.prog 14 #[.string s, .int .i64 a] w fun e w' => e = .returned (.tuple #[.int .i64 f, .int .i64 f]) ∧ w = w')
    (v : Int) (hV : ∀ w, Calls Tryd.prog 21 #[.string (s.extract a (a + f))] w fun e w' => e = .returned (.tuple #[.int .i64 v, .bool true]) ∧ w = w') :
    Calls Tryd.prog 11 #[.string s, .int .i64 a] w fun e w' => e = .returned (.tuple #[.int .i64 v, .int .i64 f, .int .i64 0]) ∧ w = w' := by
  have hf : ((f : Int) == 0) = false := by simp; omega
  go_enter Tryd.func11, Tryd.ntmps11
  go_wp2_with (first
    | (go_at_call 14; refine (hX _).mono ?_; rintro e w' ⟨rfl, rfl⟩)
    | (go_at_call 21; refine (hV _).mono ?_; rintro e w' ⟨rfl, rfl⟩))
  go_ret3
  exact ⟨rfl, rfl⟩

/-- THE DOCUMENT's Take at every place -/
theorem rtake_any (s : ByteArray) (x : Int) (w : World) (hs : s.size ≤ 2000) {v : Int} {z : Nat} {o : Option Nat} (hR : takeR (restL s.data.toList x) = (v, z, o)) :
    Calls Tryd.prog 11 #[.string s, .int .i64 x] w fun e w' => e = .returned (.tuple #[.int .i64 v, .int .i64 z, .int .i64 (numOf o)]) ∧ w = w' := by
  have hsm : s.size ≤ maxLen := by unfold maxLen; omega
  by_cases hx : x < 0 ∨ s.size ≤ x
  · rw [restL_out hx, takeR_syn rfl] at hR
    simp only [Prod.mk.injEq] at hR
    obtain ⟨rfl, rfl, rfl⟩ := hR
    exact rtake_syn s x w (fun w => scan_out s x w hsm hx)
  · obtain ⟨a, rfl⟩ := Int.eq_ofNat_of_zero_le (by omega : 0 ≤ x)
    have ha : a < s.size := by omega
    rw [restL_in] at hR
    by_cases hf : front (s.data.toList.drop a) = 0
    · rw [takeR_syn hf] at hR
      simp only [Prod.mk.injEq] at hR
      obtain ⟨rfl, rfl, rfl⟩ := hR
      exact rtake_syn s a w (fun w => scan_zero s a w hsm ha hf)
    · obtain ⟨D, hn, hd, hc⟩ := front_cases hf
      have hfl := front_le (s.data.toList.drop a)
      rw [List.length_drop, size_list] at hfl
      have hfa := front_all (s.data.toList.drop a)
      have hX := fun w => scan_some s a w hsm ha hf
      have hL : (s.extract a (a + front (s.data.toList.drop a))).data.toList = (s.data.toList.drop a).take (front (s.data.toList.drop a)) := by rw [Lib.extract_data, Nat.add_sub_cancel_left]
      have hV := fun w => value_both (s.extract a (a + front (s.data.toList.drop a))) w (by rw [ByteArray.size_extract]; omega) D hn hd (by rw [hL]; rcases hc with ⟨_, h⟩ | ⟨_, h⟩; exact .inl h; exact .inr h)
      rw [hL] at hV
      cases hw : wholeV ((s.data.toList.drop a).take (front (s.data.toList.drop a))) with
      | none =>
        rw [hw] at hV
        rw [takeR_none hf hw] at hR
        simp only [Prod.mk.injEq] at hR
        obtain ⟨rfl, rfl, rfl⟩ := hR
        exact rtake_none s a w hs _ _ hf (by omega) hfa hX _ hV
      | some u =>
        rw [hw] at hV
        by_cases h2 : allOf (s.data.toList.drop a) = front (s.data.toList.drop a)
        · rw [takeR_ok hf h2 hw] at hR
          simp only [Prod.mk.injEq] at hR
          obtain ⟨rfl, rfl, rfl⟩ := hR
          rw [h2] at hX
          exact rtake_ok s a w hs _ hf (by omega) hX _ hV
        · rw [takeR_part hf h2] at hR
          simp only [Prod.mk.injEq] at hR
          obtain ⟨rfl, rfl, rfl⟩ := hR
          exact rtake_part s a w hs _ _ hf (by omega) (by omega) hX _ _ hV

end Go.Proofs.YtnejlfkbnbbgfaaDoor
