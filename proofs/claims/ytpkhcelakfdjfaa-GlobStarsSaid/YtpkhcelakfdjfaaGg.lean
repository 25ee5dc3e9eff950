/- The laws of package glob on stars and steps, walked: each returns true, in any world. -/
import Derived.Test.YtpkhcelakfdjfaaGf
import Derived.Lib.Strings
namespace Go.Proofs.Ytpkhcelakfdjfaa
open Go.RowKit Go.Shelf

theorem cat_list (a b : ByteArray) : (a ++ b).data.toList = a.data.toList ++ b.data.toList := by simp
theorem cat_size (a b : ByteArray) : (a ++ b).size = a.size + b.size := by simp
theorem z1 : (⟨#[42]⟩ : ByteArray).size = 1 := rfl
theorem z2 : (⟨#[42, 42]⟩ : ByteArray).size = 2 := rfl
theorem toList_eq (a s : ByteArray) : (a.toList == s.toList) = decide (a.data.toList = s.data.toList) := by
  rw [Lib.toList_data, Lib.toList_data, Bool.eq_iff_iff, beq_iff_eq, decide_eq_true_iff]
theorem plain_list {a : ByteArray} (h : allB plainB a = true) : ∀ c ∈ a.data.toList, c ≠ 42 := by
  unfold allB at h
  rw [List.all_eq_true] at h
  intro c hc
  have := h c hc
  simpa [plainB] using this

set_option maxHeartbeats 4000000 in
theorem law_stars (a b s : ByteArray) (ha : a.size ≤ maxLen) (hb : b.size ≤ maxLen) (hs : s.size ≤ maxLen) (w : World) : Calls Try.prog 5 #[.string a, .string b, .string s] w (Yes w) := by
  unfold maxLen at ha hb hs
  by_cases h1 : 60 < a.size
  · go_enter Try.func5, Try.ntmps5
    go_wp2_with (go_at_call 7; refine (alive_any _).mono ?_; rintro e w' ⟨rfl, n, rfl⟩)
    go_ret
    exact ⟨rfl, below_dr⟩
  by_cases h2 : 60 < b.size
  · go_enter Try.func5, Try.ntmps5
    go_wp2_with (go_at_call 7; refine (alive_any _).mono ?_; rintro e w' ⟨rfl, n, rfl⟩)
    go_ret
    exact ⟨rfl, below_dr⟩
  by_cases h3 : 100 < s.size
  · go_enter Try.func5, Try.ntmps5
    go_wp2_with (go_at_call 7; refine (alive_any _).mono ?_; rintro e w' ⟨rfl, n, rfl⟩)
    go_ret
    exact ⟨rfl, below_dr⟩
  have l1 : a.size ≤ 60 := by omega
  have l2 : b.size ≤ 60 := by omega
  have l3 : s.size ≤ 100 := by omega
  clear h1 h2 h3 ha hb hs
  have q1 := plain_any a
  have q2 := fun w => match_is a s _ rfl w (by omega) (by omega)
  obtain ⟨m1, hm1⟩ : ∃ m, mB (a ++ b).data.toList s.data.toList = m := ⟨_, rfl⟩
  obtain ⟨m2, hm2⟩ : ∃ m, mB ((a ++ ⟨#[42]⟩) ++ b).data.toList s.data.toList = m := ⟨_, rfl⟩
  have hm3 : mB ((a ++ ⟨#[42, 42]⟩) ++ b).data.toList s.data.toList = m2 := by
    rw [← hm2, cat_list, cat_list, cat_list, cat_list, List.append_assoc, List.append_assoc]
    exact two_stars_in _ _ _
  have h12 : m1 = true → m2 = true := by
    rintro rfl
    rw [← hm2, cat_list, cat_list, List.append_assoc]
    rw [cat_list] at hm1
    exact star_more hm1
  have c1 := fun w => match_is (a ++ b) s m1 hm1 w (by rw [cat_size]; omega) (by omega)
  have c2 := fun w => match_is ((a ++ ⟨#[42]⟩) ++ b) s m2 hm2 w (by rw [cat_size, cat_size, z1]; omega) (by omega)
  have c3 := fun w => match_is ((a ++ ⟨#[42, 42]⟩) ++ b) s m2 hm3 w (by rw [cat_size, cat_size, z2]; omega) (by omega)
  have H12 := Lib.hid h12
  clear hm1 hm2 hm3 h12
  -- the last sentence: a plain pattern matches itself alone
  obtain ⟨pl, hpl⟩ : ∃ m, allB plainB a = m := ⟨_, rfl⟩
  have q1' := fun w => q1 w (by omega)
  rw [hpl] at q1'
  have HP : Hid (pl = true → mB a.data.toList s.data.toList = (a.toList == s.toList)) := by
    rintro rfl
    rw [toList_eq]
    exact plain_eq (plain_list hpl)
  clear hpl q1
  cases pl with
  | false =>
    clear HP q2
    rcases m1 with _ | _ <;> rcases m2 with _ | _
    · clear H12
      go_enter Try.func5, Try.ntmps5
      go_wp2_with (go_at_call 7; refine (alive_any _).mono ?_; rintro e w' ⟨rfl, n, rfl⟩)
      all_goals (try (exfalso; omega))
      refine (c1 _).mono ?_
      rintro e w' ⟨rfl, n1, rfl⟩
      clear c1
      go_wp2_with fail
      all_goals (try (exfalso; omega))
      refine (c2 _).mono ?_
      rintro e w' ⟨rfl, n3, rfl⟩
      clear c2
      go_wp2_with fail
      all_goals (try (exfalso; omega))
      refine (c3 _).mono ?_
      rintro e w' ⟨rfl, n4, rfl⟩
      clear c3
      go_wp2_with fail
      all_goals (try (exfalso; omega))
      refine (q1' _).mono ?_
      rintro e w' ⟨rfl, rfl⟩
      clear q1'
      go_wp2
      all_goals (try (exfalso; omega))
      go_ret
      exact ⟨rfl, below_dr⟩
    · clear H12
      go_enter Try.func5, Try.ntmps5
      go_wp2_with (go_at_call 7; refine (alive_any _).mono ?_; rintro e w' ⟨rfl, n, rfl⟩)
      all_goals (try (exfalso; omega))
      refine (c1 _).mono ?_
      rintro e w' ⟨rfl, n1, rfl⟩
      clear c1
      go_wp2_with fail
      all_goals (try (exfalso; omega))
      refine (c2 _).mono ?_
      rintro e w' ⟨rfl, n3, rfl⟩
      clear c2
      go_wp2_with fail
      all_goals (try (exfalso; omega))
      refine (c3 _).mono ?_
      rintro e w' ⟨rfl, n4, rfl⟩
      clear c3
      go_wp2_with fail
      all_goals (try (exfalso; omega))
      refine (q1' _).mono ?_
      rintro e w' ⟨rfl, rfl⟩
      clear q1'
      go_wp2
      all_goals (try (exfalso; omega))
      go_ret
      exact ⟨rfl, below_dr⟩
    · exact absurd (H12.out rfl) (by simp)
    · clear H12
      go_enter Try.func5, Try.ntmps5
      go_wp2_with (go_at_call 7; refine (alive_any _).mono ?_; rintro e w' ⟨rfl, n, rfl⟩)
      all_goals (try (exfalso; omega))
      refine (c1 _).mono ?_
      rintro e w' ⟨rfl, n1, rfl⟩
      clear c1
      go_wp2_with fail
      all_goals (try (exfalso; omega))
      refine (c2 _).mono ?_
      rintro e w' ⟨rfl, n2, rfl⟩
      go_wp2_with fail
      all_goals (try (exfalso; omega))
      refine (c2 _).mono ?_
      rintro e w' ⟨rfl, n3, rfl⟩
      clear c2
      go_wp2_with fail
      all_goals (try (exfalso; omega))
      refine (c3 _).mono ?_
      rintro e w' ⟨rfl, n4, rfl⟩
      clear c3
      go_wp2_with fail
      all_goals (try (exfalso; omega))
      refine (q1' _).mono ?_
      rintro e w' ⟨rfl, rfl⟩
      clear q1'
      go_wp2
      all_goals (try (exfalso; omega))
      go_ret
      exact ⟨rfl, below_dr⟩
  | true =>
    rw [HP.out rfl] at q2
    clear HP
    rcases m1 with _ | _ <;> rcases m2 with _ | _
    · clear H12
      go_enter Try.func5, Try.ntmps5
      go_wp2_with (go_at_call 7; refine (alive_any _).mono ?_; rintro e w' ⟨rfl, n, rfl⟩)
      all_goals (try (exfalso; omega))
      refine (c1 _).mono ?_
      rintro e w' ⟨rfl, n1, rfl⟩
      clear c1
      go_wp2_with fail
      all_goals (try (exfalso; omega))
      refine (c2 _).mono ?_
      rintro e w' ⟨rfl, n3, rfl⟩
      clear c2
      go_wp2_with fail
      all_goals (try (exfalso; omega))
      refine (c3 _).mono ?_
      rintro e w' ⟨rfl, n4, rfl⟩
      clear c3
      go_wp2_with fail
      all_goals (try (exfalso; omega))
      refine (q1' _).mono ?_
      rintro e w' ⟨rfl, rfl⟩
      clear q1'
      go_wp2_with fail
      all_goals (try (exfalso; omega))
      refine (q2 _).mono ?_
      rintro e w' ⟨rfl, n5, rfl⟩
      clear q2
      go_wp2
      all_goals (try (exfalso; omega))
      go_ret
      exact ⟨rfl, below_dr⟩
    · clear H12
      go_enter Try.func5, Try.ntmps5
      go_wp2_with (go_at_call 7; refine (alive_any _).mono ?_; rintro e w' ⟨rfl, n, rfl⟩)
      all_goals (try (exfalso; omega))
      refine (c1 _).mono ?_
      rintro e w' ⟨rfl, n1, rfl⟩
      clear c1
      go_wp2_with fail
      all_goals (try (exfalso; omega))
      refine (c2 _).mono ?_
      rintro e w' ⟨rfl, n3, rfl⟩
      clear c2
      go_wp2_with fail
      all_goals (try (exfalso; omega))
      refine (c3 _).mono ?_
      rintro e w' ⟨rfl, n4, rfl⟩
      clear c3
      go_wp2_with fail
      all_goals (try (exfalso; omega))
      refine (q1' _).mono ?_
      rintro e w' ⟨rfl, rfl⟩
      clear q1'
      go_wp2_with fail
      all_goals (try (exfalso; omega))
      refine (q2 _).mono ?_
      rintro e w' ⟨rfl, n5, rfl⟩
      clear q2
      go_wp2
      all_goals (try (exfalso; omega))
      go_ret
      exact ⟨rfl, below_dr⟩
    · exact absurd (H12.out rfl) (by simp)
    · clear H12
      go_enter Try.func5, Try.ntmps5
      go_wp2_with (go_at_call 7; refine (alive_any _).mono ?_; rintro e w' ⟨rfl, n, rfl⟩)
      all_goals (try (exfalso; omega))
      refine (c1 _).mono ?_
      rintro e w' ⟨rfl, n1, rfl⟩
      clear c1
      go_wp2_with fail
      all_goals (try (exfalso; omega))
      refine (c2 _).mono ?_
      rintro e w' ⟨rfl, n2, rfl⟩
      go_wp2_with fail
      all_goals (try (exfalso; omega))
      refine (c2 _).mono ?_
      rintro e w' ⟨rfl, n3, rfl⟩
      clear c2
      go_wp2_with fail
      all_goals (try (exfalso; omega))
      refine (c3 _).mono ?_
      rintro e w' ⟨rfl, n4, rfl⟩
      clear c3
      go_wp2_with fail
      all_goals (try (exfalso; omega))
      refine (q1' _).mono ?_
      rintro e w' ⟨rfl, rfl⟩
      clear q1'
      go_wp2_with fail
      all_goals (try (exfalso; omega))
      refine (q2 _).mono ?_
      rintro e w' ⟨rfl, n5, rfl⟩
      clear q2
      go_wp2
      all_goals (try (exfalso; omega))
      go_ret
      exact ⟨rfl, below_dr⟩

theorem ext1 (s : ByteArray) : (s.extract 1 s.size).data.toList = s.data.toList.drop 1 := by
  simp
  exact List.take_of_length_le (by rw [List.length_tail]; exact Nat.le_refl _)
theorem y1 : (⟨#[120]⟩ : ByteArray).size = 1 := rfl
theorem y2 : (⟨#[121]⟩ : ByteArray).size = 1 := rfl
set_option maxHeartbeats 4000000 in
theorem law_steps (p s : ByteArray) (hp : p.size ≤ maxLen) (hs : s.size ≤ maxLen) (w : World) : Calls Try.prog 6 #[.string p, .string s] w (Yes w) := by
  unfold maxLen at hp hs
  by_cases h1 : 100 < p.size
  · go_enter Try.func6, Try.ntmps6
    go_wp2_with (go_at_call 7; refine (alive_any _).mono ?_; rintro e w' ⟨rfl, n, rfl⟩)
    go_ret
    exact ⟨rfl, below_dr⟩
  by_cases h3 : 100 < s.size
  · go_enter Try.func6, Try.ntmps6
    go_wp2_with (go_at_call 7; refine (alive_any _).mono ?_; rintro e w' ⟨rfl, n, rfl⟩)
    go_ret
    exact ⟨rfl, below_dr⟩
  have l1 : p.size ≤ 100 := by omega
  have l3 : s.size ≤ 100 := by omega
  clear h1 h3 hp hs
  obtain ⟨m, hm⟩ : ∃ m, mB p.data.toList s.data.toList = m := ⟨_, rfl⟩
  obtain ⟨ms, hms⟩ : ∃ m, mB (42 :: p.data.toList) s.data.toList = m := ⟨_, rfl⟩
  have c1 := fun w => match_is (⟨#[42]⟩ ++ p) s ms (by rw [cat_list]; exact hms) w (by rw [cat_size, z1]; omega) (by omega)
  have c2 := fun w => match_is p s m hm w (by omega) (by omega)
  by_cases h0 : s.data.toList = []
  · have e0 : s = ⟨#[]⟩ := by
      have : s.data = #[] := by
        apply Array.toList_inj.1
        rw [h0]
      cases s; simp at this; rw [this]
    subst e0
    have : ms = m := by rw [← hm, ← hms]; exact mB_star_nil _
    subst this
    clear hm hms h0
    go_enter Try.func6, Try.ntmps6
    go_wp2_with (go_at_call 7; refine (alive_any _).mono ?_; rintro e w' ⟨rfl, n, rfl⟩)
    all_goals (try (exfalso; omega))
    refine (c1 _).mono ?_
    rintro e w' ⟨rfl, n1, rfl⟩
    go_wp2_with fail
    refine (c2 _).mono ?_
    rintro e w' ⟨rfl, n2, rfl⟩
    go_wp2
    go_ret
    exact ⟨rfl, below_dr⟩
  · obtain ⟨c, t, hct⟩ : ∃ c t, s.data.toList = c :: t := by
      cases hs : s.data.toList with
      | nil => exact absurd hs h0
      | cons c t => exact ⟨c, t, rfl⟩
    obtain ⟨mt, hmt⟩ : ∃ m, mB (42 :: p.data.toList) t = m := ⟨_, rfl⟩
    have hor : ms = (m || mt) := by rw [← hm, ← hms, ← hmt, hct]; exact mB_star_cons _ _ _
    have hx : (s.extract 1 s.size).data.toList = t := by rw [ext1, hct]; rfl
    have hlen : 1 ≤ s.size := by rw [← size_list, hct]; simp
    have e0 : (s.toList == []) = false := by rw [Lib.toList_data, hct]; rfl
    have e1 : s.toList ≠ [] := by rw [Lib.toList_data, hct]; simp
    have c3 := fun w => match_is (⟨#[42]⟩ ++ p) (s.extract 1 s.size) mt (by rw [cat_list, hx]; exact hmt) w (by rw [cat_size, z1]; omega) (by rw [← size_list, hx]; have := size_list s; rw [hct] at this; simp at this; omega)
    have c4 := fun w => match_is (⟨#[120]⟩ ++ p) (⟨#[120]⟩ ++ s) m (by rw [cat_list, cat_list, ← hm]; show mB (120 :: _) (120 :: _) = _; rw [mB_one (by decide)]; simp) w (by rw [cat_size, y1]; omega) (by rw [cat_size, y1]; omega)
    have c5 := fun w => match_is (⟨#[120]⟩ ++ p) (⟨#[121]⟩ ++ s) false (by rw [cat_list, cat_list]; show mB (120 :: _) (121 :: _) = _; rw [mB_one (by decide)]; rfl) w (by rw [cat_size, y1]; omega) (by rw [cat_size, y2]; omega)
    have HE := Lib.hid e1
    clear hm hms hmt hx h0 hct e1
    cases m with
    | true =>
      obtain rfl : ms = true := by rw [hor]; rfl
      clear hor c3
      go_enter Try.func6, Try.ntmps6
      go_wp2_with (go_at_call 7; refine (alive_any _).mono ?_; rintro e w' ⟨rfl, n, rfl⟩)
      all_goals (try (exfalso; omega))
      refine (c1 _).mono ?_
      rintro e w' ⟨rfl, n1, rfl⟩
      go_wp2_with fail
      all_goals (try (exfalso; omega))
      refine (c2 _).mono ?_
      rintro e w' ⟨rfl, n2, rfl⟩
      go_wp2_with fail
      all_goals (try (exfalso; omega))
      refine (c4 _).mono ?_
      rintro e w' ⟨rfl, n3, rfl⟩
      go_wp2_with fail
      all_goals (try (exfalso; omega))
      refine (c2 _).mono ?_
      rintro e w' ⟨rfl, n4, rfl⟩
      go_wp2_with fail
      all_goals (try (exfalso; omega))
      refine (c5 _).mono ?_
      rintro e w' ⟨rfl, n5, rfl⟩
      go_wp2
      all_goals (try (exfalso; omega))
      go_ret
      exact ⟨rfl, below_dr⟩
    | false =>
      obtain rfl : ms = mt := by rw [hor]; rfl
      clear hor
      cases ms
      all_goals
        go_enter Try.func6, Try.ntmps6
        go_wp2_with (go_at_call 7; refine (alive_any _).mono ?_; rintro e w' ⟨rfl, n, rfl⟩)
        all_goals (try (exfalso; omega))
        refine (c1 _).mono ?_
        rintro e w' ⟨rfl, n1, rfl⟩
        go_wp2_with fail
        all_goals (try (exfalso; omega))
        refine (c2 _).mono ?_
        rintro e w' ⟨rfl, n2, rfl⟩
        go_wp2_with fail
        all_goals (try (exfalso; omega))
        refine (c3 _).mono ?_
        rintro e w' ⟨rfl, n6, rfl⟩
        go_wp2_with fail
        all_goals (try (exfalso; omega))
        refine (c4 _).mono ?_
        rintro e w' ⟨rfl, n3, rfl⟩
        go_wp2_with fail
        all_goals (try (exfalso; omega))
        refine (c2 _).mono ?_
        rintro e w' ⟨rfl, n4, rfl⟩
        go_wp2_with fail
        all_goals (try (exfalso; omega))
        refine (c5 _).mono ?_
        rintro e w' ⟨rfl, n5, rfl⟩
        go_wp2
        all_goals (try (exfalso; omega))
        go_ret
        exact ⟨rfl, below_dr⟩

end Go.Proofs.Ytpkhcelakfdjfaa
