/- The laws of package glob, walked: each returns true, in any world. -/
import Derived.Test.YtpkhcelakfdjfaaGc
import Derived.Test.YtpkhcelakfdjfaaGd
import Derived.Test.YtpkhcelakfdjfaaGe
namespace Go.Proofs.Ytpkhcelakfdjfaa
open Go.RowKit Go.Shelf

theorem Dr.below {w w' : World} (h : Dr w w') : Below w.heap.size w w' := by
  obtain ⟨n, rfl⟩ := h
  exact ⟨rfl, rfl, rfl, Nat.le_refl _, fun _ _ => rfl⟩
theorem below_dr {w : World} {n : Nat} {B : Nat} : Below B w (w.drewN n) := ⟨rfl, rfl, rfl, Nat.le_refl _, fun _ _ => rfl⟩
theorem match_is (p s : ByteArray) (r : Bool) (h : mB p.data.toList s.data.toList = r) (w : World) (hp : p.size ≤ 100000) (hs : s.size ≤ 100000) :
    Calls Try.prog 14 #[.string p, .string s] w fun e w' => e = .returned (.bool r) ∧ Dr w w' := by
  subst h
  exact match_any p s w hp hs
theorem name_is (s : ByteArray) (r : Bool) (h : okB nameB s = r) (w : World) (hs : s.size ≤ 100000) :
    Calls Try.prog 12 #[.string s] w fun e w' => e = .returned (.bool r) ∧ w = w' := by
  subst h
  exact name_any s w (by omega)
set_option maxHeartbeats 1000000 in
theorem alive_any (w : World) : Calls Try.prog 7 #[] w fun e w' => e = .returned (.bool true) ∧ Dr w w' := by
  have c0 := fun w => match_is ⟨#[112, 121, 51, 42, 95, 48]⟩ ⟨#[112, 121, 51, 55, 104, 95, 48]⟩ true (by decide) w (by decide) (by decide)
  have c1 := fun w => match_is ⟨#[42]⟩ ⟨#[]⟩ true (by decide) w (by decide) (by decide)
  have c2 := fun w => match_is ⟨#[97]⟩ ⟨#[98]⟩ false (by decide) w (by decide) (by decide)
  have c3 := fun w => name_is ⟨#[97, 45, 98]⟩ true (by decide) w (by decide)
  have c4 := fun w => name_is ⟨#[65]⟩ false (by decide) w (by decide)
  go_enter Try.func7, Try.ntmps7
  go_wp2_with fail
  refine (c0 _).mono ?_
  rintro e w' ⟨rfl, n0, rfl⟩
  clear c0
  go_wp2_with fail
  refine (c1 _).mono ?_
  rintro e w' ⟨rfl, n1, rfl⟩
  clear c1
  go_wp2_with fail
  refine (c2 _).mono ?_
  rintro e w' ⟨rfl, n2, rfl⟩
  clear c2
  go_wp2_with fail
  refine (c3 _).mono ?_
  rintro e w' ⟨rfl, rfl⟩
  clear c3
  go_wp2_with fail
  refine (c4 _).mono ?_
  rintro e w' ⟨rfl, rfl⟩
  clear c4
  go_wp2
  go_ret
  exact ⟨rfl, ⟨_, rfl⟩⟩

def Yes (w : World) (e : Ending) (w' : World) : Prop := e = .returned (.bool true) ∧ Below w.heap.size w w'
theorem below_tr {w : World} {n : Nat} {w' : World} (h : Below (w.drewN n).heap.size (w.drewN n) w') : Below w.heap.size w w' := below_dr.trans h

set_option maxHeartbeats 2000000 in
theorem law_words (s : ByteArray) (hs : s.size ≤ maxLen) (w : World) : Calls Try.prog 3 #[.string s] w (Yes w) := by
  unfold maxLen at hs
  by_cases hl : 500 < s.size
  · go_enter Try.func3, Try.ntmps3
    go_wp2_with (go_at_call 7; refine (alive_any _).mono ?_; rintro e w' ⟨rfl, n, rfl⟩)
    go_ret
    exact ⟨rfl, below_dr⟩
  · have a1 := fun w => word_any s w (by omega)
    have a2 := fun w => refWord_any s w (by omega)
    have a3 := fun w => pattern_any s w (by omega)
    have a4 := fun w => refPattern_any s w (by omega)
    have a5 := fun w => name_any s w (by omega)
    have a6 := fun w => refName_any s w (by omega)
    rw [ok_word] at a2
    rw [ok_pat] at a4
    rw [ok_name] at a6
    go_enter Try.func3, Try.ntmps3
    go_wp2_with (go_at_call 7; refine (alive_any _).mono ?_; rintro e w' ⟨rfl, n, rfl⟩)
    go_wp2_with (first
      | (go_at_call 8; refine (a1 _).mono ?_; rintro e w' ⟨rfl, rfl⟩)
      | (go_at_call 9; refine (a2 _).mono ?_; rintro e w' ⟨rfl, rfl⟩)
      | (go_at_call 10; refine (a3 _).mono ?_; rintro e w' ⟨rfl, rfl⟩)
      | (go_at_call 11; refine (a4 _).mono ?_; rintro e w' ⟨rfl, rfl⟩)
      | (go_at_call 12; refine (a5 _).mono ?_; rintro e w' ⟨rfl, rfl⟩)
      | (go_at_call 13; refine (a6 _).mono ?_; rintro e w' ⟨rfl, rfl⟩))
    go_ret
    exact ⟨rfl, below_dr⟩

set_option maxHeartbeats 2000000 in
theorem law_matches (p s : ByteArray) (hp : p.size ≤ maxLen) (hs : s.size ≤ maxLen) (w : World) : Calls Try.prog 4 #[.string p, .string s] w (Yes w) := by
  unfold maxLen at hs hp
  by_cases hl : 200 < p.size
  · go_enter Try.func4, Try.ntmps4
    go_wp2_with (go_at_call 7; refine (alive_any _).mono ?_; rintro e w' ⟨rfl, n, rfl⟩)
    go_ret
    exact ⟨rfl, below_dr⟩
  by_cases hl2 : 200 < s.size
  · go_enter Try.func4, Try.ntmps4
    go_wp2_with (go_at_call 7; refine (alive_any _).mono ?_; rintro e w' ⟨rfl, n, rfl⟩)
    go_ret
    exact ⟨rfl, below_dr⟩
  · have a1 := fun w => match_is p s _ rfl w (by omega) (by omega)
    have a2 := fun w => refMatch_any p s w (by omega) (by omega)
    go_enter Try.func4, Try.ntmps4
    go_wp2_with (go_at_call 7; refine (alive_any _).mono ?_; rintro e w' ⟨rfl, n, rfl⟩)
    go_wp2_with fail
    refine (a1 _).mono ?_
    rintro e w' ⟨rfl, n2, rfl⟩
    go_wp2_with fail
    refine (a2 _).mono ?_
    rintro e w2 ⟨rfl, hb⟩
    go_wp2
    go_ret
    exact ⟨rfl, below_tr hb⟩

end Go.Proofs.Ytpkhcelakfdjfaa
