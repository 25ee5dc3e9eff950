/- Begins (package version), in any world. -/
import Derived.Test.YtecgjbddcmpggaaDoorVk
import Derived.Deep.RegionHeld3
import Derived.BigRegion
import Derived.BigGuard
import Derived.BigCall
namespace Go.Proofs.YtecgjbddcmpggaaDoor
open Go.RowKit Go.Shelf

/-! ### three cells that stand -/
theorem three_drew {w w' : World} {A B C : Addr} {x y z : Value} (h : w'.cell? A = some x ∧ w'.cell? B = some y ∧ w'.cell? C = some z ∧ Hid (Below w.heap.size w w')) :
    w'.drew.cell? A = some x ∧ w'.drew.cell? B = some y ∧ w'.drew.cell? C = some z ∧ Hid (Below w.heap.size w w'.drew) := ⟨h.1, h.2.1, h.2.2.1, h.2.2.2.out.drew⟩
theorem three_below {w w' w2 : World} {A B C : Addr} {x y z : Value} (h : w'.cell? A = some x ∧ w'.cell? B = some y ∧ w'.cell? C = some z ∧ Hid (Below w.heap.size w w')) (hb : Below w'.heap.size w' w2) :
    w2.cell? A = some x ∧ w2.cell? B = some y ∧ w2.cell? C = some z ∧ Hid (Below w.heap.size w w2) :=
  ⟨(hb.cell (World.block_lt_of_cell? w' _ h.1)).trans h.1, (hb.cell (World.block_lt_of_cell? w' _ h.2.1)).trans h.2.1, (hb.cell (World.block_lt_of_cell? w' _ h.2.2.1)).trans h.2.2.1, h.2.2.2.out.trans (hb.mono h.2.2.2.out.size)⟩
theorem three_b {w w' : World} {A B C : Addr} {x y z : Value} (h : w'.cell? A = some x ∧ w'.cell? B = some y ∧ w'.cell? C = some z ∧ Hid (Below w.heap.size w w')) : Below w.heap.size w w' := h.2.2.2.out
theorem CoAt.drew {w : World} {v : Value} {c : Co} (h : Hid (CoAt w v c)) : CoAt w.drew v c := h.out

set_option maxHeartbeats 2000000 in
theorem begins_any (a b : Ver) (va vb : Value) (w : World) (hA : VerAt w va a) (hB : VerAt w vb b) :
    Calls Tryd.prog 12 #[va, vb] w fun e w' => e = .returned (.bool (begC a b)) ∧ Below w.heap.size w w' := by
  obtain ⟨pa, la, rfl, hpa, hla⟩ := hA
  obtain ⟨pb, lb, rfl, hpb, hlb⟩ := hB
  have HPA := Lib.hid hpa
  have HPB := Lib.hid hpb
  obtain ⟨o1, k1, rfl, _, m1⟩ := hpa.sl
  obtain ⟨o2, k2, rfl, _, m2⟩ := hpb.sl
  obtain ⟨o3, k3, rfl, _, m3⟩ := hla.sl
  obtain ⟨o4, k4, rfl, _, m4⟩ := hlb.sl
  unfold maxLen at m1 m2 m3 m4
  clear hpa hla hlb
  have HV : Hid (begC a b = (decide (b.2.1 ≠ [] ∧ b.2.2 = [] ∧ a.1 = b.1) && headC [] compC (b.2.1.take (b.2.1.length - 1)) a.2.1 && headC zI itemC (b.2.1.getD (b.2.1.length - 1) []) (a.2.1.getD (b.2.1.length - 1) []))) := rfl
  by_cases h0 : b.2.1 ≠ [] ∧ b.2.2 = [] ∧ a.1 = b.1
  · have hp0 : 0 < b.2.1.length := List.length_pos_iff.2 h0.1
    have hl0 : b.2.2.length = 0 := by rw [h0.2.1]; rfl
    obtain ⟨bo, bf, rfl, hcell⟩ : ∃ bo bf, o2 = some ⟨bo, bf, none⟩ ∧ ∃ u, w.cell? ⟨bo, bf + (b.2.1.length - 1), none⟩ = some u ∧ CoAt w u (b.2.1.getD (b.2.1.length - 1) []) := by
      obtain ⟨ao, cap, he, _, _, h3⟩ := hpb
      cases he
      rcases h3 with h3 | ⟨x, y, rfl, h4⟩
      · exact absurd h3 h0.1
      · exact ⟨x, y, rfl, h4 _ (by omega)⟩
    obtain ⟨u, hc, hu⟩ := hcell
    have HU := Lib.hid hu
    have qa := fun W (hb : Below w.heap.size w W) => atC_any a.2.1 _ (b.2.1.length - 1) W (HPA.out.below hb) (by omega)
    have qh := fun W (hb : Below w.heap.size w W) => headsC_any _ _ _ _ W ((HPB.out.below hb).take (b.2.1.length - 1) (by omega)) (HPA.out.below hb)
    have qi := fun W (hb : Below w.heap.size w W) v (hv : CoAt W v (a.2.1.getD (b.2.1.length - 1) [])) => headsI_any _ _ _ _ W (HU.out.below hb) hv
    have hV := HV.out
    rw [decide_eq_true h0, Bool.true_and] at hV
    have h0e := h0.2.2
    clear HV h0 hpb
    generalize headC [] compC (b.2.1.take (b.2.1.length - 1)) a.2.1 = hh at *
    generalize headC zI itemC (b.2.1.getD (b.2.1.length - 1) []) (a.2.1.getD (b.2.1.length - 1) []) = hi at *
    generalize a.2.1.getD (b.2.1.length - 1) [] = ca at *
    generalize b.2.1.getD (b.2.1.length - 1) [] = cb at *
    generalize begC a b = z at *
    obtain ⟨ou, ku, rfl, _⟩ : ∃ ao cap, u = .slice ao cb.length cap ∧ True := by
      obtain ⟨ao, cap, he, _⟩ := hu
      exact ⟨ao, cap, he, trivial⟩
    clear hu HU HPB
    generalize b.2.1.length = n2 at *
    generalize b.2.2.length = n4 at *
    generalize a.2.1.length = n1 at *
    generalize a.2.2.length = n3 at *
    generalize cb.length = nb at *
    generalize a.1 = ea at *
    generalize b.1 = eb at *
    subst hl0
    subst h0e
    obtain ⟨L, rfl⟩ : ∃ L, n2 = L + 1 := ⟨n2 - 1, by omega⟩
    simp only [Nat.add_sub_cancel] at qh qa qi hc
    have g1 : (0 : Int) ≤ (L : Int) := by omega
    have g2 : (L : Int) ≤ (k2 : Int) := by omega
    have g3 : (L : Int) < (L : Int) + 1 := by omega
    have g4 : L ≤ k2 := by omega
    have g5 : ((L + 1 : Nat) : Int) = (L : Int) + 1 := by omega
    have g6 : decide ((L : Int) < 0) = false := decide_eq_false (by omega)
    cases hh
    · rw [Bool.false_and] at hV
      subst hV
      go_enter Tryd.func12, Tryd.ntmps12
      go_wp2
      refine wp_gen (fun w1 => Hid (Below w.heap.size w w1) ∧ Hid (BoxV w1 w.heap.size ea (.slice o1 n1 k1) (.slice o3 n3 k3)) ∧ Hid (BoxV w1 (w.heap.size + 1) ea (.slice (some ⟨bo, bf, none⟩) (L + 1) k2) (.slice o4 0 k4)))
        ⟨(below_alloc _ _).trans ((below_alloc _ _).mono (by simp)), (BoxV.new _ _ _ _).below (below_alloc _ _), Lib.hid (by simpa using BoxV.new (w.alloc (.cells #[.int .i64 ea, .slice o1 n1 k1, .slice o3 n3 k3] 25)) ea (.slice (some ⟨bo, bf, none⟩) (L + 1) k2) (.slice o4 0 k4))⟩ ?_
      intro w1 ⟨HB, HX, HY⟩
      have HCE : Hid (∀ W, Below w.heap.size w W → W.cell? ⟨bo, bf + L, none⟩ = some (.slice ou nb ku)) := fun W hb => (hb.cell (World.block_lt_of_cell? w _ hc)).trans hc
      have hb1 : Below w.heap.size w w1.drew := HB.out.drew
      have x1 := HX.out.c1
      have y1 := HY.out.c1
      have z1 := HCE.out _ HB.out
      clear hc
      clear qa qi
      have hS : w1.cell? ⟨w.heap.size, 1, none⟩ = some (.slice o1 n1 k1) ∧ w1.cell? ⟨w.heap.size + 1, 1, none⟩ = some (.slice (some ⟨bo, bf, none⟩) (L + 1) k2) ∧ w1.cell? ⟨bo, bf + L, none⟩ = some (.slice ou nb ku) ∧ Hid (Below w.heap.size w w1) := ⟨x1, y1, z1, HB⟩
      clear x1 y1 z1 HX HY HB hb1 HCE
      refine wp_region_held_drew (S := (fun w' => w'.cell? ⟨w.heap.size, 1, none⟩ = some (.slice o1 n1 k1) ∧ w'.cell? ⟨w.heap.size + 1, 1, none⟩ = some (.slice (some ⟨bo, bf, none⟩) (L + 1) k2) ∧ w'.cell? ⟨bo, bf + L, none⟩ = some (.slice ou nb ku) ∧ Hid (Below w.heap.size w w'))) (by kernel_rfl) (three_drew hS) (fun hHeld => ?_)
      refine wpAnyH_take (i := 0) (v := ?_) rfl (by kernel_rfl) (by kernel_rfl) (by kernel_rfl) (fun _ _ _ h => h) (Or.inl ⟨by rfl, ?yy⟩) (by assumption) ?_
      case yy =>
        intro w hSw
        (try dsimp only at hSw)
        go_simp
        try with_reducible rfl
      (try simp only [List.getElem_toArray, List.getElem_cons_zero, Act.put, List.setIfInBounds_toArray, List.set_cons_zero, List.set_cons_succ])
      refine wpAnyH_take (i := 1) (v := ?_) rfl (by kernel_rfl) (by kernel_rfl) (by kernel_rfl) (fun _ _ _ h => h) (Or.inl ⟨by rfl, ?yy⟩) (by assumption) ?_
      case yy =>
        intro w hSw
        (try dsimp only at hSw)
        go_simp
        try with_reducible rfl
      (try simp only [List.getElem_toArray, List.getElem_cons_succ, List.getElem_cons_zero, Act.put, List.setIfInBounds_toArray, List.set_cons_zero, List.set_cons_succ])
      refine wpAnyH_take (i := 2) (v := ?_) rfl (by kernel_rfl) (by kernel_rfl) (by kernel_rfl) (fun _ _ _ h => h) (Or.inl ⟨by rfl, ?yy⟩) (by assumption) ?_
      case yy =>
        intro w hSw
        (try dsimp only at hSw)
        go_simp
        try with_reducible rfl
      (try simp only [List.getElem_toArray, List.getElem_cons_succ, List.getElem_cons_zero, Act.put, List.setIfInBounds_toArray, List.set_cons_zero, List.set_cons_succ])
      refine wpAnyH_take (i := 3) (v := ?_) rfl (by kernel_rfl) (by kernel_rfl) (by kernel_rfl) (fun _ _ _ h => h) (Or.inl ⟨by rfl, ?yy⟩) (by assumption) ?_
      case yy =>
        intro w hSw
        (try dsimp only at hSw)
        go_simp
        try with_reducible rfl
      (try simp only [List.getElem_toArray, List.getElem_cons_succ, List.getElem_cons_zero, Act.put, List.setIfInBounds_toArray, List.set_cons_zero, List.set_cons_succ])
      refine wpAnyH_take (i := 4) (v := ?_) rfl (by kernel_rfl) (by kernel_rfl) (by kernel_rfl) (fun _ _ _ h => h) (Or.inl ⟨by rfl, ?yy⟩) (by assumption) ?_
      case yy =>
        intro w hSw
        (try dsimp only at hSw)
        go_simp
        try with_reducible rfl
      (try simp only [List.getElem_toArray, List.getElem_cons_succ, List.getElem_cons_zero, Act.put, List.setIfInBounds_toArray, List.set_cons_zero, List.set_cons_succ])
      refine wpAnyH_take (i := 5) (v := ?_) rfl (by kernel_rfl) (by kernel_rfl) (by kernel_rfl) (fun _ _ _ h => h) (Or.inl ⟨by rfl, ?yy⟩) (by assumption) ?_
      case yy =>
        intro w hSw
        (try dsimp only at hSw)
        go_simp
        try with_reducible rfl
      (try simp only [List.getElem_toArray, List.getElem_cons_succ, List.getElem_cons_zero, Act.put, List.setIfInBounds_toArray, List.set_cons_zero, List.set_cons_succ])
      refine wpAnyH_ready (rs := [6]) (by kernel_rfl) (by simp) ?_
      refine AllReadyH.cons rfl (fun K hK => ?_) AllReadyH.nil
      go_simp
      go_at_call 26
      refine (qh w1.drew (three_b hHeld)).mono ?_
      rintro e w4 ⟨rfl, hb4⟩
      go_wp2
      refine hK.out _ _ (three_below hHeld hb4) (fun hHeld => ?_)
      (try simp only [List.getElem_toArray, List.getElem_cons_succ, List.getElem_cons_zero, Act.put, List.setIfInBounds_toArray, List.set_cons_zero, List.set_cons_succ])
      refine wpAnyH_take (i := 7) (v := ?_) rfl (by kernel_rfl) (by kernel_rfl) (by kernel_rfl) (fun _ _ _ h => h) (Or.inl ⟨by rfl, ?yy⟩) (by assumption) ?_
      case yy =>
        intro w hSw
        (try dsimp only at hSw)
        go_simp
        try with_reducible rfl
      (try simp only [List.getElem_toArray, List.getElem_cons_succ, List.getElem_cons_zero, Act.put, List.setIfInBounds_toArray, List.set_cons_zero, List.set_cons_succ])
      refine wpAnyH_take (i := 8) (v := undef) rfl (by kernel_rfl) (by kernel_rfl) (by kernel_rfl) (fun _ _ _ h => h) (Or.inr ⟨by rfl, rfl⟩) (by assumption) ?_
      (try simp only [List.getElem_toArray, List.getElem_cons_succ, List.getElem_cons_zero, Act.put, List.setIfInBounds_toArray, List.set_cons_zero, List.set_cons_succ])
      refine wpAnyH_take (i := 9) (v := undef) rfl (by kernel_rfl) (by kernel_rfl) (by kernel_rfl) (fun _ _ _ h => h) (Or.inr ⟨by rfl, rfl⟩) (by assumption) ?_
      (try simp only [List.getElem_toArray, List.getElem_cons_succ, List.getElem_cons_zero, Act.put, List.setIfInBounds_toArray, List.set_cons_zero, List.set_cons_succ])
      refine wpAnyH_take (i := 10) (v := undef) rfl (by kernel_rfl) (by kernel_rfl) (by kernel_rfl) (fun _ _ _ h => h) (Or.inr ⟨by rfl, rfl⟩) (by assumption) ?_
      (try simp only [List.getElem_toArray, List.getElem_cons_succ, List.getElem_cons_zero, Act.put, List.setIfInBounds_toArray, List.set_cons_zero, List.set_cons_succ])
      refine wpAnyH_take (i := 11) (v := undef) rfl (by kernel_rfl) (by kernel_rfl) (by kernel_rfl) (fun _ _ _ h => h) (Or.inr ⟨by rfl, rfl⟩) (by assumption) ?_
      (try simp only [List.getElem_toArray, List.getElem_cons_succ, List.getElem_cons_zero, Act.put, List.setIfInBounds_toArray, List.set_cons_zero, List.set_cons_succ])
      refine wpAnyH_take (i := 12) (v := undef) rfl (by kernel_rfl) (by kernel_rfl) (by kernel_rfl) (fun _ _ _ h => h) (Or.inr ⟨by rfl, rfl⟩) (by assumption) ?_
      (try simp only [List.getElem_toArray, List.getElem_cons_succ, List.getElem_cons_zero, Act.put, List.setIfInBounds_toArray, List.set_cons_zero, List.set_cons_succ])
      refine wpAnyH_take (i := 13) (v := undef) rfl (by kernel_rfl) (by kernel_rfl) (by kernel_rfl) (fun _ _ _ h => h) (Or.inr ⟨by rfl, rfl⟩) (by assumption) ?_
      (try simp only [List.getElem_toArray, List.getElem_cons_succ, List.getElem_cons_zero, Act.put, List.setIfInBounds_toArray, List.set_cons_zero, List.set_cons_succ])
      refine wpAnyH_take (i := 14) (v := undef) rfl (by kernel_rfl) (by kernel_rfl) (by kernel_rfl) (fun _ _ _ h => h) (Or.inr ⟨by rfl, rfl⟩) (by assumption) ?_
      (try simp only [List.getElem_toArray, List.getElem_cons_succ, List.getElem_cons_zero, Act.put, List.setIfInBounds_toArray, List.set_cons_zero, List.set_cons_succ])
      refine wpAnyH_take (i := 15) (v := undef) rfl (by kernel_rfl) (by kernel_rfl) (by kernel_rfl) (fun _ _ _ h => h) (Or.inr ⟨by rfl, rfl⟩) (by assumption) ?_
      (try simp only [List.getElem_toArray, List.getElem_cons_succ, List.getElem_cons_zero, Act.put, List.setIfInBounds_toArray, List.set_cons_zero, List.set_cons_succ])
      refine wpAnyH_take (i := 16) (v := undef) rfl (by kernel_rfl) (by kernel_rfl) (by kernel_rfl) (fun _ _ _ h => h) (Or.inr ⟨by rfl, rfl⟩) (by assumption) ?_
      (try simp only [List.getElem_toArray, List.getElem_cons_succ, List.getElem_cons_zero, Act.put, List.setIfInBounds_toArray, List.set_cons_zero, List.set_cons_succ])
      refine wpAnyH_take (i := 17) (v := undef) rfl (by kernel_rfl) (by kernel_rfl) (by kernel_rfl) (fun _ _ _ h => h) (Or.inr ⟨by rfl, rfl⟩) (by assumption) ?_
      (try simp only [List.getElem_toArray, List.getElem_cons_succ, List.getElem_cons_zero, Act.put, List.setIfInBounds_toArray, List.set_cons_zero, List.set_cons_succ])
      refine wpAnyH_take (i := 18) (v := ?_) rfl (by kernel_rfl) (by kernel_rfl) (by kernel_rfl) (fun _ _ _ h => h) (Or.inl ⟨by rfl, ?yy⟩) (by assumption) ?_
      case yy =>
        intro w hSw
        (try dsimp only at hSw)
        go_simp
        try with_reducible rfl
      (try simp only [List.getElem_toArray, List.getElem_cons_succ, List.getElem_cons_zero, Act.put, List.setIfInBounds_toArray, List.set_cons_zero, List.set_cons_succ])
      refine wpAnyH_take (i := 19) (v := ?_) rfl (by kernel_rfl) (by kernel_rfl) (by kernel_rfl) (fun _ _ _ h => h) (Or.inl ⟨by rfl, ?yy⟩) (by assumption) ?_
      case yy =>
        intro w hSw
        (try dsimp only at hSw)
        go_simp
        try with_reducible rfl
      (try simp only [List.getElem_toArray, List.getElem_cons_succ, List.getElem_cons_zero, Act.put, List.setIfInBounds_toArray, List.set_cons_zero, List.set_cons_succ])
      refine wpAnyH_done (by kernel_rfl) ?_ _
      go_wp2
      go_ret
      exact ⟨rfl, three_b (by assumption)⟩
    · rw [Bool.true_and] at hV
      subst hV
      go_enter Tryd.func12, Tryd.ntmps12
      go_wp2
      refine wp_gen (fun w1 => Hid (Below w.heap.size w w1) ∧ Hid (BoxV w1 w.heap.size ea (.slice o1 n1 k1) (.slice o3 n3 k3)) ∧ Hid (BoxV w1 (w.heap.size + 1) ea (.slice (some ⟨bo, bf, none⟩) (L + 1) k2) (.slice o4 0 k4)))
        ⟨(below_alloc _ _).trans ((below_alloc _ _).mono (by simp)), (BoxV.new _ _ _ _).below (below_alloc _ _), Lib.hid (by simpa using BoxV.new (w.alloc (.cells #[.int .i64 ea, .slice o1 n1 k1, .slice o3 n3 k3] 25)) ea (.slice (some ⟨bo, bf, none⟩) (L + 1) k2) (.slice o4 0 k4))⟩ ?_
      intro w1 ⟨HB, HX, HY⟩
      have HCE : Hid (∀ W, Below w.heap.size w W → W.cell? ⟨bo, bf + L, none⟩ = some (.slice ou nb ku)) := fun W hb => (hb.cell (World.block_lt_of_cell? w _ hc)).trans hc
      have hb1 : Below w.heap.size w w1.drew := HB.out.drew
      have x1 := HX.out.c1
      have y1 := HY.out.c1
      have z1 := HCE.out _ HB.out
      clear hc
      have hS : w1.cell? ⟨w.heap.size, 1, none⟩ = some (.slice o1 n1 k1) ∧ w1.cell? ⟨w.heap.size + 1, 1, none⟩ = some (.slice (some ⟨bo, bf, none⟩) (L + 1) k2) ∧ w1.cell? ⟨bo, bf + L, none⟩ = some (.slice ou nb ku) ∧ Hid (Below w.heap.size w w1) := ⟨x1, y1, z1, HB⟩
      clear x1 y1 z1 HX HY HB hb1 HCE
      go_region_held3 (fun w' => w'.cell? ⟨w.heap.size, 1, none⟩ = some (.slice o1 n1 k1) ∧ w'.cell? ⟨w.heap.size + 1, 1, none⟩ = some (.slice (some ⟨bo, bf, none⟩) (L + 1) k2) ∧ w'.cell? ⟨bo, bf + L, none⟩ = some (.slice ou nb ku) ∧ Hid (Below w.heap.size w w')) (with_reducible (first | exact three_drew (by assumption) | exact three_below (by assumption) (by assumption) | assumption))
        (first
          | (go_at_call 26; with_reducible refine (qh _ (by first | exact three_b (by assumption) | exact three_b (three_drew (by assumption)))).mono ?_; rintro e w4 ⟨rfl, hb4⟩)
          | (go_at_call 28; with_reducible refine (qa _ (by first | exact three_b (by assumption) | exact three_b (three_drew (by assumption)))).mono ?_; rintro e _ ⟨v, rfl, hv, rfl⟩; have HV := Lib.hid hv; clear hv)
          | (go_at_call 27; with_reducible refine (qi _ (by first | exact three_b (by assumption) | exact three_b (three_drew (by assumption))) _ (by first | exact HV.out | exact CoAt.drew HV)).mono ?_; rintro e w5 ⟨rfl, hb5⟩))
      all_goals go_wp2
      all_goals go_ret
      all_goals exact ⟨rfl, three_b (by assumption)⟩
  · have hz : begC a b = false := by rw [HV.out, decide_eq_false h0]; rfl
    rw [hz]
    have h1 : b.2.1.length = 0 ∨ 0 < b.2.2.length ∨ a.1 ≠ b.1 := by
      rcases Decidable.em (b.2.1 = []) with h | h
      · exact .inl (by rw [h]; rfl)
      · rcases Decidable.em (b.2.2 = []) with h2 | h2
        · exact .inr (.inr fun h3 => h0 ⟨h, h2, h3⟩)
        · exact .inr (.inl (List.length_pos_iff.2 h2))
    clear HV HPA HPB h0 hz hpb
    generalize b.2.1.length = n2 at *
    generalize b.2.2.length = n4 at *
    generalize a.2.1.length = n1 at *
    generalize a.2.2.length = n3 at *
    generalize a.1 = ea at *
    generalize b.1 = eb at *
    by_cases g1 : n2 = 0
    · subst g1
      clear h1
      go_enter Tryd.func12, Tryd.ntmps12
      go_wp2
      go_ret
      exact ⟨rfl, (below_alloc _ _).trans ((below_alloc _ _).mono (by simp))⟩
    · by_cases g2 : 0 < n4
      · have g3 : decide ((n2 : Int) - 1 < 0) = false := decide_eq_false (by omega)
        clear h1
        go_enter Tryd.func12, Tryd.ntmps12
        go_wp2
        go_ret
        exact ⟨rfl, (below_alloc _ _).trans ((below_alloc _ _).mono (by simp))⟩
      · have g3 : decide ((n2 : Int) - 1 < 0) = false := decide_eq_false (by omega)
        have g4 : (ea != eb) = true := by
          rcases h1 with h | h | h
          · omega
          · omega
          · simpa using h
        obtain rfl : n4 = 0 := by omega
        clear h1 g2
        go_enter Tryd.func12, Tryd.ntmps12
        go_wp2
        go_ret
        exact ⟨rfl, (below_alloc _ _).trans ((below_alloc _ _).mono (by simp))⟩

end Go.Proofs.YtecgjbddcmpggaaDoor
