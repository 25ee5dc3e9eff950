/- ints.exponent: how many bytes an exponent at the head of a text has. -/
import Derived.Test.YtnlpdpbmmpeiaaaDoorDigw
import Derived.Lib.Strings
namespace Go.Proofs.YtnlpdpbmmpeiaaaDoor.I2
open Go.RowKit

theorem ne_list {s : ByteArray} (h : 0 < s.size) : ¬ s.toList = [] := by
  intro e
  have h2 : s.data.toList.length = 0 := by rw [← ByteArray.toList_eq, e]; rfl
  rw [size_list] at h2
  omega
theorem ne_listB {s : ByteArray} (h : 0 < s.size) : s.toList.isEmpty = false := by
  have := ne_list h
  cases hl : s.toList with
  | nil => exact absurd hl this
  | cons c r => rfl
theorem nil_list {s : ByteArray} (h : s.size = 0) : s.toList = [] := by
  apply List.eq_nil_of_length_eq_zero
  rw [ByteArray.toList_eq, size_list]; exact h
theorem nil_listB {s : ByteArray} (h : s.size = 0) : s.toList.isEmpty = true := by rw [nil_list h]; rfl

theorem ext_list (s : ByteArray) (a : Nat) : (s.extract a s.size).data.toList = s.data.toList.drop a := by
  rw [Lib.extract_data, List.take_of_length_le]
  rw [List.length_drop, size_list]
  omega
theorem ext_size (s : ByteArray) (a : Nat) (h : a ≤ s.size) : (s.extract a s.size).size = s.size - a := by
  rw [ByteArray.size_extract]; omega

def eIs (n : Nat) : Prop := n = 101 ∨ n = 69

/-- digits behind a place of s -/
theorem digits_ext (s : ByteArray) (a : Nat) (w : World) (hs : s.size ≤ maxLen) :
    Calls Tryd.prog 53 #[.string (s.extract a s.size)] w fun e w' => e = .returned (.int .i64 (digs (s.data.toList.drop a))) ∧ w = w' := by
  have h := digits_any (s.extract a s.size) w (by rw [ByteArray.size_extract]; omega)
  rw [ext_list] at h
  exact h

set_option maxHeartbeats 400000 in
theorem expo_nil (s : ByteArray) (w : World) (h0 : s.size = 0) :
    Calls Tryd.prog 45 #[.string s] w fun e w' => e = .returned (.int .i64 0) ∧ w = w' := by
  have hl := nil_list h0
  have hb := nil_listB h0
  go_enter Tryd.func45, Tryd.ntmps45
  go_wp2
  go_ret
  exact ⟨rfl, rfl⟩

set_option maxHeartbeats 400000 in
theorem expo_not (s : ByteArray) (w : World) (hs : s.size ≤ maxLen) (h0 : 0 < s.size) (h1 : ¬ s[0].toNat = 101) (h2 : ¬ s[0].toNat = 69) :
    Calls Tryd.prog 45 #[.string s] w fun e w' => e = .returned (.int .i64 0) ∧ w = w' := by
  have hl := ne_list h0
  have hb := ne_listB h0
  have h1 : ((s[0].toNat : Int) == 101) = false := by simp; omega
  have h2 : ((s[0].toNat : Int) == 69) = false := by simp; omega
  have h3 : ((s[0].toNat : Int) != 101) = true := by simp; omega
  have h4 : ((s[0].toNat : Int) != 69) = true := by simp; omega
  go_enter Tryd.func45, Tryd.ntmps45
  go_wp2
  go_ret
  exact ⟨rfl, rfl⟩

theorem expo_eq1 {l : List UInt8} (h : bAt l 0 = 101 ∨ bAt l 0 = 69) {f : Nat} (hf : exps l = f) {n : Nat} (hn : digs (l.drop f) = n) (hp : 0 < n) : expo l = f + n := by
  unfold expo; rw [hf, hn, if_pos ⟨h, hp⟩]
theorem expo_eq0 {l : List UInt8} {f : Nat} (hf : exps l = f) {n : Nat} (hn : digs (l.drop f) = n) (hp : ¬ 0 < n) : expo l = 0 := by
  unfold expo; rw [hf, hn, if_neg (fun h => hp h.2)]

set_option maxHeartbeats 1000000 in
theorem expo_e (s : ByteArray) (w : World) (hs : s.size ≤ maxLen) (h0 : 0 < s.size) (he : s[0].toNat = 101 ∨ s[0].toNat = 69) :
    Calls Tryd.prog 45 #[.string s] w fun e w' => e = .returned (.int .i64 (expo s.data.toList)) ∧ w = w' := by
  have heb : bAt s.data.toList 0 = 101 ∨ bAt s.data.toList 0 = 69 := by rw [← bAt_in s 0 h0]; exact he
  have hl := ne_list h0
  have hb := ne_listB h0
  have hs2 := hs
  unfold maxLen at hs2
  by_cases h1 : 1 < s.size
  · by_cases hp : s[1].toNat = 43 ∨ s[1].toNat = 45
    · have hf : exps s.data.toList = 2 := by unfold exps; rw [← bAt_in s 1 h1, if_pos hp]
      have hD := digits_ext s 2
      generalize hn : digs (s.data.toList.drop 2) = n at *
      have hnb : 2 + n ≤ s.size := by rw [← hn]; have := digs_le (s.data.toList.drop 2); rw [List.length_drop, size_list] at this; omega
      by_cases hp0 : 0 < n
      · rw [expo_eq1 heb hf hn hp0]
        clear heb hf hn
        rcases he with he | he <;> rcases hp with hp | hp
        all_goals
          go_enter Tryd.func45, Tryd.ntmps45
          go_wp2_with (go_at_call 53; refine (hD _ hs).mono ?_; rintro e w' ⟨rfl, rfl⟩)
          go_ret
          exact ⟨by first | rfl | simp, rfl⟩
      · rw [expo_eq0 hf hn hp0]
        obtain rfl : n = 0 := by omega
        clear heb hf hn
        rcases he with he | he <;> rcases hp with hp | hp
        all_goals
          go_enter Tryd.func45, Tryd.ntmps45
          go_wp2_with (go_at_call 53; refine (hD _ hs).mono ?_; rintro e w' ⟨rfl, rfl⟩)
          go_ret
          exact ⟨rfl, rfl⟩
    · have hf : exps s.data.toList = 1 := by unfold exps; rw [← bAt_in s 1 h1, if_neg hp]
      have hD := digits_ext s 1
      generalize hn : digs (s.data.toList.drop 1) = n at *
      have hnb : 1 + n ≤ s.size := by rw [← hn]; have := digs_le (s.data.toList.drop 1); rw [List.length_drop, size_list] at this; omega
      have q1 : ((s[1].toNat : Int) == 43) = false := by simp; omega
      have q2 : ((s[1].toNat : Int) == 45) = false := by simp; omega
      by_cases hp0 : 0 < n
      · rw [expo_eq1 heb hf hn hp0]
        clear heb hf hn hp
        rcases he with he | he
        all_goals
          go_enter Tryd.func45, Tryd.ntmps45
          go_wp2_with (go_at_call 53; refine (hD _ hs).mono ?_; rintro e w' ⟨rfl, rfl⟩)
          go_ret
          exact ⟨by first | rfl | simp, rfl⟩
      · rw [expo_eq0 hf hn hp0]
        obtain rfl : n = 0 := by omega
        clear heb hf hn hp
        rcases he with he | he
        all_goals
          go_enter Tryd.func45, Tryd.ntmps45
          go_wp2_with (go_at_call 53; refine (hD _ hs).mono ?_; rintro e w' ⟨rfl, rfl⟩)
          go_ret
          exact ⟨rfl, rfl⟩
  · have hz : bAt s.data.toList 1 = 0 := bAt_out (by rw [size_list]; omega)
    have hf : exps s.data.toList = 1 := by unfold exps; rw [hz, if_neg (by omega)]
    have hn : digs (s.data.toList.drop 1) = 0 := by
      have := digs_le (s.data.toList.drop 1); rw [List.length_drop, size_list] at this; omega
    have hD := digits_ext s 1
    rw [expo_eq0 hf hn (by omega)]
    rw [hn] at hD
    clear heb hf hn hz
    rcases he with he | he
    all_goals
      go_enter Tryd.func45, Tryd.ntmps45
      go_wp2_with (go_at_call 53; refine (hD _ hs).mono ?_; rintro e w' ⟨rfl, rfl⟩)
      go_ret
      exact ⟨rfl, rfl⟩

theorem expo_any (s : ByteArray) (w : World) (hs : s.size ≤ maxLen) :
    Calls Tryd.prog 45 #[.string s] w fun e w' => e = .returned (.int .i64 (expo s.data.toList)) ∧ w = w' := by
  rcases Nat.eq_zero_or_pos s.size with h0 | h0
  · have : expo s.data.toList = 0 := by
      have := expo_le s.data.toList; rw [size_list] at this; omega
    rw [this]
    exact expo_nil s w h0
  · by_cases he : s[0].toNat = 101 ∨ s[0].toNat = 69
    · exact expo_e s w hs h0 he
    · have : expo s.data.toList = 0 := by
        unfold expo
        rw [← bAt_in s 0 h0, if_neg (fun h => he h.1)]
      rw [this]
      exact expo_not s w hs h0 (fun h => he (.inl h)) (fun h => he (.inr h))

end Go.Proofs.YtnlpdpbmmpeiaaaDoor.I2
