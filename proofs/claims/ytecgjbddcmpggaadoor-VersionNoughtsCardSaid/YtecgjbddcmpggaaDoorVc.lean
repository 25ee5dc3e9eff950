/- Which of two components, rows, versions comes ahead (package version), in any world. -/
import Derived.Test.YtecgjbddcmpggaaDoorVw

import Derived.Shelf.Abstract
namespace Go.Proofs.YtecgjbddcmpggaaDoor
open Go.RowKit Go.Shelf

theorem atC_any (r : Row) (v : Value) (i : Nat) (w : World) (h : RowAt w v r) (_hi : i ≤ 9223372036854775807) : Calls Tryd.prog 28 #[v, .int .i64 i] w fun e w' => ∃ u, e = .returned u ∧ CoAt w u (r.getD i []) ∧ w = w' := by
  obtain ⟨ao, cap, rfl, h1, h2, h3⟩ := h
  unfold maxLen at h2
  by_cases hl : i < r.length
  · rcases h3 with h3 | ⟨b, o, rfl, h4⟩
    · subst h3; simp at hl
    obtain ⟨u, c1, c2⟩ := h4 i hl
    clear h4
    go_enter Tryd.func28, Tryd.ntmps28
    go_wp2
    go_ret
    exact ⟨u, rfl, c2, rfl⟩
  · have e : r.getD i [] = [] := by rw [List.getD_eq_getElem?_getD, List.getElem?_eq_none (by omega)]; rfl
    rw [e]
    clear h3 e
    go_enter Tryd.func28, Tryd.ntmps28
    go_wp2
    go_ret
    exact ⟨_, rfl, CoAt.nil _, rfl⟩

set_option maxHeartbeats 1000000 in
theorem rowsI_any (k : Nat) (f : It → It → Int) (he : ∀ args w, (callFunc k args).run Tryd.prog w = .ok (.enter k args) w)
    (hf : ∀ (x y : It) (w : World), Calls Tryd.prog k #[itv x, itv y] w fun e w' => e = .returned (.int .i64 (f x y)) ∧ Below w.heap.size w w') (a b : Co) (va vb : Value) (w : World) (hA : CoAt w va a) (hB : CoAt w vb b) :
    Calls Tryd.prog 42 #[va, vb, .func (.func k) #[] #[]] w fun e w' => e = .returned (.int .i64 (rowsC zI f a b)) ∧ Below w.heap.size w w' := by
  have HA := Lib.hid hA
  have HB := Lib.hid hB
  obtain ⟨ao, ca, rfl, a1, a2, _⟩ := hA
  obtain ⟨bo, cb, rfl, b1, b2, _⟩ := hB
  unfold maxLen at a2 b2
  have HS := Lib.hid (rowsC_step zI f)
  have HE := Lib.hid (rowsC_end zI f)
  by_cases hc : b.length ≤ a.length
  all_goals
    go_enter Tryd.func42, Tryd.ntmps42
    go_wp2
    all_goals (try (exfalso; omega))
    go_loopw [7, 8, 14] (fun _ _ i wr => ∃ j : Nat, (j ≤ a.length ∨ j ≤ b.length) ∧ i = .int .i64 j ∧ Hid (Below w.heap.size w wr) ∧ Hid (rowsC zI f (a.drop j) (b.drop j) = rowsC zI f a b)) (fun _ _ i _ => a.length + b.length - (intOf i).toNat)
    case atStart => exact ⟨0, .inl (Nat.zero_le _), rfl, Below.refl _ _, rfl⟩
    case round =>
      obtain ⟨j, hj, rfl, HW, HR⟩ := hrel
      by_cases hlt : j < a.length ∨ j < b.length
      · have hst := HS.out j a b hlt
        have qa := fun w' hb => atI_any a _ j w' (HA.out.below (w' := w') hb) (by omega)
        have qb := fun w' hb => atI_any b _ j w' (HB.out.below (w' := w') hb) (by omega)
        have qf := hf (a.getD j zI) (b.getD j zI)
        generalize a.getD j zI = x at hst qa qf
        generalize b.getD j zI = y at hst qb qf
        by_cases hz : f x y = 0
        · rw [if_neg (by rw [hz]; simp)] at hst
          rw [hz] at qf
          have HR2 := Lib.hid (hst.symm.trans HR.out)
          clear hst hz HR
          go_wp2_with fail
          refine (qa _ HW.out).mono ?_
          rintro e w1 ⟨rfl, h1⟩
          have HW1 := Lib.hid (HW.out.trans (h1.mono HW.out.size))
          clear h1 qa
          go_wp2_with fail
          refine (qb _ HW1.out).mono ?_
          rintro e w2 ⟨rfl, h2⟩
          have HW2 := Lib.hid (HW1.out.trans (h2.mono HW1.out.size))
          clear h2 qb
          go_wp2_with (go_at_fn k; refine (qf _).mono ?_; rintro e w3 ⟨rfl, h3⟩)
          have HW3 := Lib.hid (HW2.out.trans (h3.mono HW2.out.size))
          go_roundw
          case rel => exact ⟨j + 1, by omega, by go_num, HW3, HR2⟩
          case measure => simp [intOf]; omega
        · rw [if_pos hz] at hst
          have HR2 := Lib.hid (hst.symm.trans HR.out)
          have hz2 : (f x y != 0) = true := by simpa using hz
          generalize f x y = z at *
          clear hst hz HR
          go_wp2_with fail
          refine (qa _ HW.out).mono ?_
          rintro e w1 ⟨rfl, h1⟩
          have HW1 := Lib.hid (HW.out.trans (h1.mono HW.out.size))
          clear h1 qa
          go_wp2_with fail
          refine (qb _ HW1.out).mono ?_
          rintro e w2 ⟨rfl, h2⟩
          have HW2 := Lib.hid (HW1.out.trans (h2.mono HW1.out.size))
          clear h2 qb
          go_wp2_with (go_at_fn k; refine (qf _).mono ?_; rintro e w3 ⟨rfl, h3⟩)
          have HW3 := Lib.hid (HW2.out.trans (h3.mono HW2.out.size))
          go_ret
          exact ⟨ret_int HR2.out, HW3.out⟩
      · have hen := Lib.hid ((HE.out j a b (by omega) (by omega)).symm.trans HR.out)
        go_wp2
        go_ret
        exact ⟨ret_int hen.out, HW.out⟩

end Go.Proofs.YtecgjbddcmpggaaDoor
