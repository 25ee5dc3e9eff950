/- The contract of runes.Decode, out of the library's contract of utf8.DecodeRuneInString. -/
import Derived.Test.YtnlpdpbmmpeiaaaDoorDec
import Derived.Test.YtnlpdpbmmpeiaaaDoorShelf
namespace Go.Proofs.YtnlpdpbmmpeiaaaDoor
open Go.RowKit

theorem byteAt_extract (s : ByteArray) (a i : Nat) : byteAt (s.extract a s.size) i = byteAt s (a + i) := by
  unfold byteAt
  by_cases h : a + i < s.size
  · have h1 : i < (s.extract a s.size).size := by simp [ByteArray.size_extract]; omega
    rw [dif_pos h1, dif_pos h]
    congr 1
    simp [ByteArray.getElem_extract]
  · have h1 : ¬ i < (s.extract a s.size).size := by simp [ByteArray.size_extract]; omega
    rw [dif_neg h1, dif_neg h]

theorem decode_extract (s : ByteArray) (a : Nat) : Utf8.decode (s.extract a s.size) 0 = Utf8.decode s a := by
  rw [Lib.decode_at, Lib.decode_at]
  simp only [byteAt_get, byteAt_extract, Nat.zero_add, Nat.add_zero, Nat.sub_zero]
  have : (s.extract a s.size).size = s.size - a := by simp [ByteArray.size_extract]
  rw [this]

theorem decodeGo_extract (s : ByteArray) (a : Nat) (ha : a < s.size) : Lib.decodeGo (s.extract a s.size) = Utf8.decode s a := by
  unfold Lib.decodeGo
  have : (s.extract a s.size).size = s.size - a := by simp [ByteArray.size_extract]
  rw [if_neg (by omega), decode_extract]

/-- what the model's decode answers fits: a number below 2^21, one to four bytes -/
theorem decode_bd (s : ByteArray) (a : Nat) : (Utf8.decode s a).1 < 2097152 ∧ 1 ≤ (Utf8.decode s a).2 ∧ (Utf8.decode s a).2 ≤ 4 := by
  rw [Lib.decode_at]
  simp only [byteAt_get]
  have hb := byteAt_lt s a
  have hb1 := byteAt_lt s (a + 1)
  have hb2 := byteAt_lt s (a + 2)
  have hb3 := byteAt_lt s (a + 3)
  generalize byteAt s a = b at *
  generalize byteAt s (a + 1) = b1 at *
  generalize byteAt s (a + 2) = b2 at *
  generalize byteAt s (a + 3) = b3 at *
  unfold Lib.decodeN
  repeat' split
  all_goals refine ⟨?_, ?_, ?_⟩ <;> simp only <;> omega

set_option maxHeartbeats 400000 in
theorem dec_out (s : ByteArray) (a : Int) (w : World) (_hs : s.size ≤ maxLen) (ha : a < 0 ∨ s.size ≤ a) :
    Calls Tryd.prog 41 #[.string s, .int .i64 a] w fun e w' => e = .returned (.tuple #[.int .i64 0, .int .i64 0, .bool false]) ∧ w = w' := by
  unfold maxLen at _hs
  by_cases h : a < 0
  · clear ha
    go_enter Tryd.func41, Tryd.ntmps41
    go_wp2
    go_ret3
    exact ⟨rfl, rfl⟩
  · have h2 : (s.size : Int) ≤ a := by omega
    clear ha
    go_enter Tryd.func41, Tryd.ntmps41
    go_wp2
    go_ret3
    exact ⟨rfl, rfl⟩

set_option maxHeartbeats 400000 in
theorem dec_bad (s : ByteArray) (a : Nat) (w : World) (hT : Lib.Utf8Tabs 15 16 w) (_hs : s.size ≤ maxLen) (ha : a < s.size) (hc : (Utf8.decode s a).1 = 65533 ∧ (Utf8.decode s a).2 = 1) :
    Calls Tryd.prog 41 #[.string s, .int .i64 a] w fun e w' => e = .returned (.tuple #[.int .i64 0, .int .i64 0, .bool false]) ∧ Below w.heap.size w w' := by
  unfold maxLen at _hs
  have hD := Tryd.utf8_DecodeRuneInString (s.extract a s.size) w hT
  rw [decodeGo_extract s a ha, hc.1, hc.2] at hD
  clear hT hc
  go_enter Tryd.func41, Tryd.ntmps41
  go_wp2_with fail
  refine hD.mono ?_
  rintro e w' ⟨rfl, hb⟩
  clear hD
  go_wp2_with fail
  go_ret3
  exact ⟨rfl, hb⟩

set_option maxHeartbeats 400000 in
theorem dec_good (s : ByteArray) (a : Nat) (w : World) (hT : Lib.Utf8Tabs 15 16 w) (_hs : s.size ≤ maxLen) (ha : a < s.size) (hc : ¬ ((Utf8.decode s a).1 = 65533 ∧ (Utf8.decode s a).2 = 1)) :
    Calls Tryd.prog 41 #[.string s, .int .i64 a] w fun e w' => e = .returned (.tuple #[.int .i64 (Utf8.decode s a).1, .int .i64 (Utf8.decode s a).2, .bool true]) ∧ Below w.heap.size w w' := by
  unfold maxLen at _hs
  have hD := Tryd.utf8_DecodeRuneInString (s.extract a s.size) w hT
  have hbd := decode_bd s a
  rw [decodeGo_extract s a ha] at hD
  generalize (Utf8.decode s a).1 = c at *
  generalize (Utf8.decode s a).2 = n at *
  obtain ⟨hb1, hb2, hb3⟩ := hbd
  clear hT
  by_cases h1 : c = 65533
  · have h2 : ¬ n = 1 := fun h => hc ⟨h1, h⟩
    have q1 : ((c : Int) == 65533) = true := by rw [beq_iff_eq]; omega
    have q2 : ((n : Int) == 1) = false := by rw [beq_eq_false_iff_ne]; omega
    clear hc h1 h2
    go_enter Tryd.func41, Tryd.ntmps41
    go_wp2_with fail
    refine hD.mono ?_
    rintro e w' ⟨rfl, hb⟩
    clear hD
    go_wp2_with fail
    go_ret3
    exact ⟨rfl, hb⟩
  · have q1 : ((c : Int) == 65533) = false := by rw [beq_eq_false_iff_ne]; omega
    clear hc h1
    go_enter Tryd.func41, Tryd.ntmps41
    go_wp2_with fail
    refine hD.mono ?_
    rintro e w' ⟨rfl, hb⟩
    clear hD
    go_wp2_with fail
    go_ret3
    exact ⟨rfl, hb⟩

end Go.Proofs.YtnlpdpbmmpeiaaaDoor
