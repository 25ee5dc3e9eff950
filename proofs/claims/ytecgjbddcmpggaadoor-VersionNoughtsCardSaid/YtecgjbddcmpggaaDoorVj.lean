/- Components and rows held against each other (package version), in any world. -/
import Derived.Test.YtecgjbddcmpggaaDoorVi
namespace Go.Proofs.YtecgjbddcmpggaaDoor
open Go.RowKit Go.Shelf

theorem ent29 : ∀ args w, (callFunc 29 args).run Tryd.prog w = .ok (.enter 29 args) w := enters_of Tryd.func29 (by kernel_rfl) rfl
theorem ent24 : ∀ args w, (callFunc 24 args).run Tryd.prog w = .ok (.enter 24 args) w := enters_of Tryd.func24 (by kernel_rfl) rfl
theorem comps_any (a b : Co) (va vb : Value) (w : World) (hA : CoAt w va a) (hB : CoAt w vb b) :
    Calls Tryd.prog 24 #[va, vb] w fun e w' => e = .returned (.int .i64 (compC a b)) ∧ Below w.heap.size w w' := by
  have q := rowsI_any _ itemC ent29 items_any a b va vb w hA hB
  have e : rowsC zI itemC a b = compC a b := rfl
  rw [e] at q
  go_enter Tryd.func24, Tryd.ntmps24
  go_wp2_with fail
  refine q.mono ?_
  rintro e w' ⟨rfl, h⟩
  go_wp2
  go_ret
  exact ⟨rfl, h⟩

set_option maxHeartbeats 1000000 in
theorem rowsC_any (k : Nat) (f : Co → Co → Int) (he : ∀ args w, (callFunc k args).run Tryd.prog w = .ok (.enter k args) w)
    (hf : ∀ (x y : Co) (u v : Value) (w : World), CoAt w u x → CoAt w v y → Calls Tryd.prog k #[u, v] w fun e w' => e = .returned (.int .i64 (f x y)) ∧ Below w.heap.size w w') (a b : Row) (va vb : Value) (w : World) (hA : RowAt w va a) (hB : RowAt w vb b) :
    Calls Tryd.prog 23 #[va, vb, .func (.func k) #[] #[]] w fun e w' => e = .returned (.int .i64 (rowsC [] f a b)) ∧ Below w.heap.size w w' := by
  have HA := Lib.hid hA
  have HB := Lib.hid hB
  obtain ⟨ao, ca, rfl, a1, a2, _⟩ := hA
  obtain ⟨bo, cb, rfl, b1, b2, _⟩ := hB
  unfold maxLen at a2 b2
  have HS := Lib.hid (rowsC_step [] f)
  have HE := Lib.hid (rowsC_end [] f)
  by_cases hc : b.length ≤ a.length
  all_goals
    go_enter Tryd.func23, Tryd.ntmps23
    go_wp2
    all_goals (try (exfalso; omega))
    go_loopw [7, 8, 14] (fun _ _ i wr => ∃ j : Nat, (j ≤ a.length ∨ j ≤ b.length) ∧ i = .int .i64 j ∧ Hid (Below w.heap.size w wr) ∧ Hid (rowsC [] f (a.drop j) (b.drop j) = rowsC [] f a b)) (fun _ _ i _ => a.length + b.length - (intOf i).toNat)
    case atStart => exact ⟨0, .inl (Nat.zero_le _), rfl, Below.refl _ _, rfl⟩
    case round =>
      obtain ⟨j, hj, rfl, HW, HR⟩ := hrel
      by_cases hlt : j < a.length ∨ j < b.length
      · have hst := HS.out j a b hlt
        have qa := atC_any a _ j _ (HA.out.below HW.out) (by omega)
        have qb := atC_any b _ j _ (HB.out.below HW.out) (by omega)
        generalize a.getD j [] = x at hst qa
        generalize b.getD j [] = y at hst qb
        have qf := hf x y
        by_cases hz : f x y = 0
        all_goals
          first | rw [if_neg (by rw [hz]; simp)] at hst | rw [if_pos hz] at hst
          have HR2 := Lib.hid (hst.symm.trans HR.out)
          first | rw [hz] at qf | have hz2 : (f x y != 0) = true := by simpa using hz
          try generalize f x y = z at *
          clear hst hz HR
          go_wp2_with fail
          refine qa.mono ?_
          rintro e _ ⟨u, rfl, hu, rfl⟩
          clear qa
          go_wp2_with fail
          refine qb.mono ?_
          rintro e _ ⟨v, rfl, hv, rfl⟩
          clear qb
          have HU := Lib.hid hu
          have HV := Lib.hid hv
          clear hu hv
          go_wp2_with (go_at_fn k; refine (qf _ _ _ HU.out HV.out).mono ?_; rintro e w3 ⟨rfl, h3⟩)
          have HW3 := Lib.hid (HW.out.trans (h3.mono HW.out.size))
          first
          | (go_roundw
             case rel => exact ⟨j + 1, by omega, by go_num, HW3, HR2⟩
             case measure => simp [intOf]; omega)
          | (go_ret
             exact ⟨ret_int HR2.out, HW3.out⟩)
      · have hen := Lib.hid ((HE.out j a b (by omega) (by omega)).symm.trans HR.out)
        go_wp2
        go_ret
        exact ⟨ret_int hen.out, HW.out⟩

/-! ### heads -/
theorem CoAt.take {w : World} {ao : Option Addr} {cap : Nat} {c : Co} (h : CoAt w (.slice ao c.length cap) c) (n : Nat) (hn : n ≤ c.length) : CoAt w (.slice ao n cap) (c.take n) := by
  obtain ⟨ao', cap', he, h1, h2, h3⟩ := h
  cases he
  refine ⟨ao, cap, by rw [List.length_take, Nat.min_eq_left hn], by rw [List.length_take]; omega, h2, ?_⟩
  rcases h3 with h3 | ⟨b, o, rfl, h4⟩
  · subst h3; exact .inl (by simp)
  · refine .inr ⟨b, o, rfl, fun j hj => ?_⟩
    rw [List.length_take] at hj
    have e : (c.take n).getD j zI = c.getD j zI := by simp [List.getD_eq_getElem?_getD, List.getElem?_take_of_lt (show j < n by omega)]
    rw [e]
    exact h4 j (by omega)
theorem RowAt.take {w : World} {ao : Option Addr} {cap : Nat} {c : Row} (h : RowAt w (.slice ao c.length cap) c) (n : Nat) (hn : n ≤ c.length) : RowAt w (.slice ao n cap) (c.take n) := by
  obtain ⟨ao', cap', he, h1, h2, h3⟩ := h
  cases he
  refine ⟨ao, cap, by rw [List.length_take, Nat.min_eq_left hn], by rw [List.length_take]; omega, h2, ?_⟩
  rcases h3 with h3 | ⟨b, o, rfl, h4⟩
  · subst h3; exact .inl (by simp)
  · refine .inr ⟨b, o, rfl, fun j hj => ?_⟩
    rw [List.length_take] at hj
    have e : (c.take n).getD j [] = c.getD j [] := by simp [List.getD_eq_getElem?_getD, List.getElem?_take_of_lt (show j < n by omega)]
    rw [e]
    exact h4 j (by omega)
end Go.Proofs.YtecgjbddcmpggaaDoor
