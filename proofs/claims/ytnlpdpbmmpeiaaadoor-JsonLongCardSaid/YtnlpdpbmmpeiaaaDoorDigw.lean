/- ints.digits and the document's run: how many digits stand at a place. -/
import Derived.Test.YtnlpdpbmmpeiaaaDoorRows
import Derived.Test.YtnlpdpbmmpeiaaaDoorDig
import Derived.WalkKit
import Derived.WalkSpells
import Derived.WalkLawsBesides
import Derived.Lib.Hide
namespace Go.Proofs.YtnlpdpbmmpeiaaaDoor.I2
open Go.RowKit

theorem ret_bool {a b : Bool} (h : a = b) : Ending.returned (.bool a) = .returned (.bool b) := by rw [h]

theorem size_list (s : ByteArray) : s.data.toList.length = s.size := by simp

set_option maxHeartbeats 400000 in
theorem digits_any (s : ByteArray) (w : World) (hs : s.size ≤ maxLen) :
    Calls Tryd.prog 53 #[.string s] w fun e w' => e = .returned (.int .i64 (digs s.data.toList)) ∧ w = w' := by
  unfold maxLen at hs
  have hle : digs s.data.toList ≤ s.size := by have := digs_le s.data.toList; simpa using this
  have HAT := Lib.hid (fun k => digs_at (l := s.data.toList) (k := k))
  have HST := Lib.hid (digs_stop s.data.toList)
  generalize digs s.data.toList = n at *
  go_enter Tryd.func53, Tryd.ntmps53
  go_wp2
  go_loop [3] (fun i => ∃ k : Nat, k ≤ n ∧ i = .int .i64 k) (fun i => n - (intOf i).toNat)
  case atStart => exact ⟨0, Nat.zero_le _, rfl⟩
  case round =>
    obtain ⟨k, hk, rfl⟩ := hrel
    by_cases hlt : k < n
    · have hks : k < s.size := by omega
      have hd := HAT.out k hlt
      unfold isDg at hd
      rw [← bAt_in s k hks] at hd
      obtain ⟨h1, h2⟩ := hd
      go_wp2
      go_round
      case rel => exact ⟨k + 1, by omega, by go_num⟩
      case measure => simp [intOf]; omega
    · obtain rfl : k = n := by omega
      by_cases hks : k < s.size
      · have hd := isDg_no HST.out
        rw [← bAt_in s k hks] at hd
        rcases hd with h1 | h1
        all_goals
          go_wp2
          go_ret
          exact ⟨rfl, rfl⟩
      · go_wp2
        go_ret
        exact ⟨rfl, rfl⟩






































end Go.Proofs.YtnlpdpbmmpeiaaaDoor.I2
