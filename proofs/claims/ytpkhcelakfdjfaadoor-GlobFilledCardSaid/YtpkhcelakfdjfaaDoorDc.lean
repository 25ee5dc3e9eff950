/- The laws of package glob on its parts and on what is filled in, walked: each returns true, in any world. -/
import Derived.Test.YtpkhcelakfdjfaaDoorDb
import Derived.Lib.AppendStr
import Derived.Lib.Strings
namespace Go.Proofs.YtpkhcelakfdjfaaDoor
open Go.RowKit Go.Shelf

theorem Dr.below {w w' : World} (h : Dr w w') : Below w.heap.size w w' := by
  obtain ⟨n, rfl⟩ := h
  exact ⟨rfl, rfl, rfl, Nat.le_refl _, fun _ _ => rfl⟩
theorem below_dr {w : World} {n : Nat} {B : Nat} : Below B w (w.drewN n) := ⟨rfl, rfl, rfl, Nat.le_refl _, fun _ _ => rfl⟩
theorem match_is (p s : ByteArray) (r : Bool) (h : mB p.data.toList s.data.toList = r) (w : World) (hp : p.size ≤ 100000) (hs : s.size ≤ 100000) :
    Calls Tryd.prog 11 #[.string p, .string s] w fun e w' => e = .returned (.bool r) ∧ Dr w w' := by
  subst h
  exact match_any p s w hp hs
theorem name_is (s : ByteArray) (r : Bool) (h : okB nameB s = r) (w : World) (hs : s.size ≤ 100000) :
    Calls Tryd.prog 12 #[.string s] w fun e w' => e = .returned (.bool r) ∧ w = w' := by
  subst h
  exact name_any s w (by omega)
set_option maxHeartbeats 1000000 in
theorem alive_any (w : World) : Calls Tryd.prog 5 #[] w fun e w' => e = .returned (.bool true) ∧ Dr w w' := by
  have c0 := fun w => match_is ⟨#[112, 121, 51, 42, 95, 48]⟩ ⟨#[112, 121, 51, 55, 104, 95, 48]⟩ true (by decide) w (by decide) (by decide)
  have c1 := fun w => match_is ⟨#[42]⟩ ⟨#[]⟩ true (by decide) w (by decide) (by decide)
  have c2 := fun w => match_is ⟨#[97]⟩ ⟨#[98]⟩ false (by decide) w (by decide) (by decide)
  have c3 := fun w => name_is ⟨#[97, 45, 98]⟩ true (by decide) w (by decide)
  have c4 := fun w => name_is ⟨#[65]⟩ false (by decide) w (by decide)
  go_enter Tryd.func5, Tryd.ntmps5
  go_wp2_with fail
  refine (c0 _).mono ?_
  rintro e w' ⟨rfl, n0, rfl⟩
  clear c0
  go_wp2_with fail
  refine (c1 _).mono ?_
  rintro e w' ⟨rfl, n1, rfl⟩
  clear c1
  go_wp2_with fail
  refine (c2 _).mono ?_
  rintro e w' ⟨rfl, n2, rfl⟩
  clear c2
  go_wp2_with fail
  refine (c3 _).mono ?_
  rintro e w' ⟨rfl, rfl⟩
  clear c3
  go_wp2_with fail
  refine (c4 _).mono ?_
  rintro e w' ⟨rfl, rfl⟩
  clear c4
  go_wp2
  go_ret
  exact ⟨rfl, ⟨_, rfl⟩⟩

def Yes (w : World) (e : Ending) (w' : World) : Prop := e = .returned (.bool true) ∧ Below w.heap.size w w'
theorem below_tr {w : World} {n : Nat} {w' : World} (h : Below (w.drewN n).heap.size (w.drewN n) w') : Below w.heap.size w w' := below_dr.trans h


theorem max_at {w w' : World} {m : Int} (hm : w.cell? ⟨0, 0, none⟩ = some (.int .i64 m)) (hb : Below w.heap.size w w') : w'.cell? ⟨0, 0, none⟩ = some (.int .i64 m) :=
  (hb.cell (World.block_lt_of_cell? w _ hm)).trans hm
theorem filt_eq (s : ByteArray) : ((⟨(s.data.toList.filter (· != 42)).toArray⟩ : ByteArray).toList == s.toList) = allB plainB s := by
  rw [Lib.toList_data, Lib.toList_data, Bool.eq_iff_iff, beq_iff_eq]
  show s.data.toList.filter (· != 42) = s.data.toList ↔ s.data.toList.all plainB = true
  rw [List.filter_eq_self, List.all_eq_true]
  exact ⟨fun h c hc => by simpa [plainB] using h c hc, fun h c hc => by simpa [plainB] using h c hc⟩

set_option maxHeartbeats 2000000 in
theorem law_parts (s : ByteArray) (m : Int) (w : World) (hs : s.size ≤ maxLen) (hm : w.cell? ⟨0, 0, none⟩ = some (.int .i64 m)) : Calls Tryd.prog 3 #[.string s] w (Yes w) := by
  unfold maxLen at hs
  by_cases hl : 500 < s.size
  · clear hm
    go_enter Tryd.func3, Tryd.ntmps3
    go_wp2_with (go_at_call 5; refine (alive_any _).mono ?_; rintro e w' ⟨rfl, n, rfl⟩)
    go_ret
    exact ⟨rfl, below_dr⟩
  · have q1 : ∀ w, Calls Tryd.prog 6 #[.string s, .int .u8 42] w fun e w' => e = .returned (.string ⟨(s.data.toList.filter (· != 42)).toArray⟩) ∧ Below w.heap.size w w' := fun w => without_any s 42 w (by omega)
    have q2 := fun w hm => least_any s m w hm (by omega)
    have q3 := fun w => plain_any s w (by omega)
    have q4 := fun w => lower_any s w (by omega)
    have q5 := fun w => refLower_any s w (by omega)
    have e1 := filt_eq s
    obtain ⟨W, hW⟩ : ∃ W : ByteArray, (⟨(s.data.toList.filter (· != 42)).toArray⟩ : ByteArray) = W := ⟨_, rfl⟩
    obtain ⟨U, hU⟩ : ∃ U : ByteArray, (⟨(s.data.toList.map lowC).toArray⟩ : ByteArray) = U := ⟨_, rfl⟩
    obtain ⟨pl, hpl⟩ : ∃ b, allB plainB s = b := ⟨_, rfl⟩
    rw [hW] at q1 q2 e1
    rw [hU] at q4 q5
    rw [hpl] at q3 e1
    have HM := Lib.hid hm
    clear hW hU hpl hm
    cases pl
    all_goals
      go_enter Tryd.func3, Tryd.ntmps3
      go_wp2_with (go_at_call 5; refine (alive_any _).mono ?_; rintro e w' ⟨rfl, n, rfl⟩)
      have B0 : Hid (Below w.heap.size w (w.drewN n)) := below_dr
      refine (q1 _).mono ?_
      rintro e w1 ⟨rfl, h1⟩
      have B1 := Lib.hid (B0.out.trans h1)
      have M1 := max_at HM.out B1.out
      have HM1 := Lib.hid M1
      clear h1 M1 B0 q1
      go_wp2_with fail
      refine (q2 _ HM1.out).mono ?_
      rintro e w2 ⟨rfl, h2⟩
      have B2 := Lib.hid (B1.out.trans (h2.mono B1.out.size))
      clear h2 B1 HM1 q2
      go_wp2_with fail
      refine (q3 _).mono ?_
      rintro e w2' ⟨rfl, rfl⟩
      clear q3
      go_wp2_with fail
      refine (q4 _).mono ?_
      rintro e w3 ⟨rfl, h3⟩
      have B3 := Lib.hid (B2.out.trans (h3.mono B2.out.size))
      clear h3 B2 q4
      go_wp2_with fail
      refine (q5 _).mono ?_
      rintro e w4 ⟨rfl, h4⟩
      have B4 := Lib.hid (B3.out.trans (h4.mono B3.out.size))
      clear h4 B3 q5
      go_wp2
      go_ret
      exact ⟨rfl, B4.out⟩

end Go.Proofs.YtpkhcelakfdjfaaDoor
