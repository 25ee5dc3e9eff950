/- Newest (package version), in any world. -/
import Derived.Test.YtecgjbddcmpggaaDoorVl
namespace Go.Proofs.YtecgjbddcmpggaaDoor
open Go.RowKit Go.Shelf

def zV : Ver := (0, [], [])
/-- the place of the first of the first i that none of them comes behind -/
def newAt (l : List Ver) : Nat → Int
  | 0 => -1
  | i + 1 => if newAt l i < 0 then i else if verC (l.getD (newAt l i).toNat zV) (l.getD i zV) < 0 then i else newAt l i
theorem newAt_rng (l : List Ver) : ∀ i, -1 ≤ newAt l i ∧ newAt l i < i
  | 0 => by simp [newAt]
  | i + 1 => by
    have := newAt_rng l i
    unfold newAt
    split
    · omega
    · split <;> omega

/-- a list of versions -/
def VersAt (w : World) (v : Value) (l : List Ver) : Prop :=
  ∃ ao cap, v = .slice ao l.length cap ∧ l.length ≤ cap ∧ cap ≤ maxLen ∧ (l = [] ∨ ∃ b o, ao = some ⟨b, o, none⟩ ∧ ∀ j, j < l.length → ∃ p q, w.cell? ⟨b, o + j * 3, none⟩ = some (.int .i64 (l.getD j zV).1) ∧ w.cell? ⟨b, o + j * 3 + 1, none⟩ = some p ∧ w.cell? ⟨b, o + j * 3 + 2, none⟩ = some q ∧ RowAt w p (l.getD j zV).2.1 ∧ RowAt w q (l.getD j zV).2.2)
theorem VersAt.below {w w' : World} {v : Value} {l : List Ver} (h : VersAt w v l) (hb : Below w.heap.size w w') : VersAt w' v l := by
  obtain ⟨ao, cap, rfl, h1, h2, h3⟩ := h
  refine ⟨ao, cap, rfl, h1, h2, ?_⟩
  rcases h3 with h3 | ⟨b, o, rfl, h4⟩
  · exact .inl h3
  · refine .inr ⟨b, o, rfl, fun j hj => ?_⟩
    obtain ⟨p, q, a1, a2, a3, a4, a5⟩ := h4 j hj
    exact ⟨p, q, (hb.cell (World.block_lt_of_cell? w _ a1)).trans a1, (hb.cell (World.block_lt_of_cell? w _ a2)).trans a2, (hb.cell (World.block_lt_of_cell? w _ a3)).trans a3, a4.below hb, a5.below hb⟩

theorem six_drew {w w' : World} {A B C D E F : Addr} {x y z u v t : Value} (h : w'.cell? A = some x ∧ w'.cell? B = some y ∧ w'.cell? C = some z ∧ w'.cell? D = some u ∧ w'.cell? E = some v ∧ w'.cell? F = some t ∧ Hid (Below w.heap.size w w')) :
    w'.drew.cell? A = some x ∧ w'.drew.cell? B = some y ∧ w'.drew.cell? C = some z ∧ w'.drew.cell? D = some u ∧ w'.drew.cell? E = some v ∧ w'.drew.cell? F = some t ∧ Hid (Below w.heap.size w w'.drew) := ⟨h.1, h.2.1, h.2.2.1, h.2.2.2.1, h.2.2.2.2.1, h.2.2.2.2.2.1, h.2.2.2.2.2.2.out.drew⟩
theorem six_below {w w' w2 : World} {A B C D E F : Addr} {x y z u v t : Value} (h : w'.cell? A = some x ∧ w'.cell? B = some y ∧ w'.cell? C = some z ∧ w'.cell? D = some u ∧ w'.cell? E = some v ∧ w'.cell? F = some t ∧ Hid (Below w.heap.size w w')) (hb : Below w'.heap.size w' w2) :
    w2.cell? A = some x ∧ w2.cell? B = some y ∧ w2.cell? C = some z ∧ w2.cell? D = some u ∧ w2.cell? E = some v ∧ w2.cell? F = some t ∧ Hid (Below w.heap.size w w2) :=
  ⟨(hb.cell (World.block_lt_of_cell? w' _ h.1)).trans h.1, (hb.cell (World.block_lt_of_cell? w' _ h.2.1)).trans h.2.1, (hb.cell (World.block_lt_of_cell? w' _ h.2.2.1)).trans h.2.2.1, (hb.cell (World.block_lt_of_cell? w' _ h.2.2.2.1)).trans h.2.2.2.1, (hb.cell (World.block_lt_of_cell? w' _ h.2.2.2.2.1)).trans h.2.2.2.2.1, (hb.cell (World.block_lt_of_cell? w' _ h.2.2.2.2.2.1)).trans h.2.2.2.2.2.1, h.2.2.2.2.2.2.out.trans (hb.mono h.2.2.2.2.2.2.out.size)⟩
theorem six_b {w w' : World} {A B C D E F : Addr} {x y z u v t : Value} (h : w'.cell? A = some x ∧ w'.cell? B = some y ∧ w'.cell? C = some z ∧ w'.cell? D = some u ∧ w'.cell? E = some v ∧ w'.cell? F = some t ∧ Hid (Below w.heap.size w w')) : Below w.heap.size w w' := h.2.2.2.2.2.2.out

set_option maxHeartbeats 2000000 in
theorem newest_any (l : List Ver) (v : Value) (w : World) (h : VersAt w v l) (_hl : l.length ≤ 1000000) :
    Calls Tryd.prog 15 #[v] w fun e w' => e = .returned (.int .i64 (newAt l l.length)) ∧ Below w.heap.size w w' := by
  obtain ⟨ao, cap, rfl, h1, h2, h3⟩ := h
  unfold maxLen at h2
  have H3 := Lib.hid h3
  clear h3
  go_enter Tryd.func15, Tryd.ntmps15
  go_wp2
  go_loopw [3, 4, 5, 8] (fun a _ _ i wr => ∃ j : Nat, j ≤ l.length ∧ i = .int .i64 j ∧ ∃ z : Int, a = .int .i64 z ∧ Hid (z = newAt l j) ∧ Hid (Below w.heap.size w wr)) (fun _ _ _ i _ => l.length - (intOf i).toNat)
  case atStart => exact ⟨0, Nat.zero_le _, rfl, -1, rfl, rfl, Below.refl _ _⟩
  case round =>
    obtain ⟨j, hj, rfl, z, rfl, HZ, HB⟩ := hrel
    by_cases hlt : j < l.length
    · obtain ⟨b, o, rfl, h4⟩ : ∃ b o, ao = some ⟨b, o, none⟩ ∧ ∀ j, j < l.length → ∃ p q, w.cell? ⟨b, o + j * 3, none⟩ = some (.int .i64 (l.getD j zV).1) ∧ w.cell? ⟨b, o + j * 3 + 1, none⟩ = some p ∧ w.cell? ⟨b, o + j * 3 + 2, none⟩ = some q ∧ RowAt w p (l.getD j zV).2.1 ∧ RowAt w q (l.getD j zV).2.2 := by
        rcases H3.out with h3 | h3
        · rw [h3] at hlt; simp at hlt
        · exact h3
      have hrng := newAt_rng l j
      rw [← HZ.out] at hrng
      have H4 := Lib.hid h4
      obtain ⟨p2, l2, c0, c1, c2, hp2, hl2⟩ := h4 j hlt
      have HP2 := Lib.hid hp2
      have HL2 := Lib.hid hl2
      obtain ⟨op2, kp2, rfl, _, _⟩ := hp2.sl
      obtain ⟨ol2, kl2, rfl, _, _⟩ := hl2.sl
      have b0 := (HB.out.cell (World.block_lt_of_cell? w _ c0)).trans c0
      have b1 := (HB.out.cell (World.block_lt_of_cell? w _ c1)).trans c1
      have b2 := (HB.out.cell (World.block_lt_of_cell? w _ c2)).trans c2
      have d0 := cell_al b0
      have d1 := cell_al b1
      have d2 := cell_al b2
      have hst : newAt l (j + 1) = if newAt l j < 0 then (j : Int) else if verC (l.getD (newAt l j).toNat zV) (l.getD j zV) < 0 then (j : Int) else newAt l j := rfl
      rw [← HZ.out] at hst
      by_cases hneg : z < 0
      · rw [if_pos hneg] at hst
        have HN := Lib.hid hst.symm
        have hd : decide (z < 0) = true := decide_eq_true hneg
        clear h4 hst hp2 hl2 c0 c1 c2 hneg
        generalize (l.getD j zV).2.1.length = n1 at *
        generalize (l.getD j zV).2.2.length = n2 at *
        generalize (l.getD j zV).1 = en at *
        go_wp2
        refine wp_gen (fun w1 => Hid (Below w.heap.size w w1)) (HB.out.trans ((by go_grown : Below wr.heap.size wr _).mono HB.out.size)) ?_
        intro w1 HB1
        go_quiet (fail)
        go_wp2
        go_roundw
        case rel => exact ⟨j + 1, by omega, by go_num, j, rfl, HN, below_dr HB1.out _⟩
        case measure => simp [intOf]; omega
      · obtain ⟨n, rfl⟩ : ∃ n : Nat, z = n := ⟨z.toNat, by omega⟩
        rw [if_neg hneg] at hst
        rw [show ((n : Int)).toNat = n by omega] at hst
        obtain ⟨p1, l1, a0, a1, a2, hp1, hl1⟩ := h4 n (by omega)
        have HP1 := Lib.hid hp1
        have HL1 := Lib.hid hl1
        obtain ⟨op1, kp1, rfl, _, _⟩ := hp1.sl
        obtain ⟨ol1, kl1, rfl, _, _⟩ := hl1.sl
        have qc := fun W (hb : Below w.heap.size w W) => compare_any (l.getD n zV) (l.getD j zV) _ _ W ⟨_, _, rfl, HP1.out.below hb, HL1.out.below hb⟩ ⟨_, _, rfl, HP2.out.below hb, HL2.out.below hb⟩
        have s0 := (HB.out.cell (World.block_lt_of_cell? w _ a0)).trans a0
        have s1 := (HB.out.cell (World.block_lt_of_cell? w _ a1)).trans a1
        have s2 := (HB.out.cell (World.block_lt_of_cell? w _ a2)).trans a2
        have hnl : n < l.length := by omega
        have i1 : (0 : Int) ≤ (n : Int) := by omega
        have i2 : (n : Int) < (l.length : Int) := by omega
        have hd : decide ((n : Int) < 0) = false := decide_eq_false (by omega)
        have HST := Lib.hid hst
        generalize hcv : verC (l.getD n zV) (l.getD j zV) = cv at *
        clear h4 hst hp2 hl2 hp1 hl1 c0 c1 c2 a0 a1 a2 hneg hcv HP1 HL1 HP2 HL2 H4 H3
        generalize (l.getD j zV).2.1.length = n1 at *
        generalize (l.getD j zV).2.2.length = n2 at *
        generalize (l.getD j zV).1 = en at *
        generalize (l.getD n zV).2.1.length = n3 at *
        generalize (l.getD n zV).2.2.length = n4 at *
        generalize (l.getD n zV).1 = em at *
        by_cases hc : cv < 0
        all_goals
          have HN := HST.out
          first | rw [if_pos hc] at HN | rw [if_neg hc] at HN
          have HN2 := Lib.hid HN.symm
          have hd2 : decide (cv < 0) = true ∨ decide (cv < 0) = false := by
            cases decide (cv < 0)
            · exact .inr rfl
            · exact .inl rfl
          have hdd := hc
          first | (have hd3 : decide (cv < 0) = true := decide_eq_true hc) | (have hd3 : decide (cv < 0) = false := decide_eq_false hc)
          clear HN HST hd2 hdd
          go_wp2
          have hS : Hid (Below w.heap.size w (wr.alloc (.cells #[.int .i64 en, .slice op2 n1 kp2, .slice ol2 n2 kl2] 25))) := HB.out.alloc HB.out.size _
          refine wp_gen (fun w1 => (w1.cell? ⟨b, o + n * 3, none⟩ = some (.int .i64 em) ∧ w1.cell? ⟨b, o + n * 3 + 1, none⟩ = some (.slice op1 n3 kp1) ∧ w1.cell? ⟨b, o + n * 3 + 2, none⟩ = some (.slice ol1 n4 kl1) ∧ w1.cell? ⟨wr.heap.size, 0, none⟩ = some (.int .i64 en) ∧ w1.cell? ⟨wr.heap.size, 1, none⟩ = some (.slice op2 n1 kp2) ∧ w1.cell? ⟨wr.heap.size, 2, none⟩ = some (.slice ol2 n2 kl2) ∧ Hid (Below w.heap.size w w1))) ⟨cell_al s0 _, cell_al s1 _, cell_al s2 _, (BoxV.new wr en (.slice op2 n1 kp2) (.slice ol2 n2 kl2)).c0, (BoxV.new wr en (.slice op2 n1 kp2) (.slice ol2 n2 kl2)).c1, (BoxV.new wr en (.slice op2 n1 kp2) (.slice ol2 n2 kl2)).c2, hS⟩ ?_
          intro w1 hS1
          clear hS b0 b1 b2 d0 d1 d2 s0 s1 s2 HB
          first
          | (go_region_held3 (fun w' => (w'.cell? ⟨b, o + n * 3, none⟩ = some (.int .i64 em) ∧ w'.cell? ⟨b, o + n * 3 + 1, none⟩ = some (.slice op1 n3 kp1) ∧ w'.cell? ⟨b, o + n * 3 + 2, none⟩ = some (.slice ol1 n4 kl1) ∧ w'.cell? ⟨wr.heap.size, 0, none⟩ = some (.int .i64 en) ∧ w'.cell? ⟨wr.heap.size, 1, none⟩ = some (.slice op2 n1 kp2) ∧ w'.cell? ⟨wr.heap.size, 2, none⟩ = some (.slice ol2 n2 kl2) ∧ Hid (Below w.heap.size w w'))) (with_reducible (first | exact six_drew (by assumption) | exact six_below (by assumption) (by assumption) | assumption))
              (first
                | (go_at_call 10; with_reducible refine (qc _ (by first | exact six_b (by assumption) | exact six_b (six_drew (by assumption)))).mono ?_; rintro e w4 ⟨rfl, hb4⟩)
                | fail))
          | fail
          go_wp2
          go_roundw
          case rel => exact ⟨j + 1, by omega, by go_num, _, rfl, HN2, six_b (by assumption)⟩
          case measure => simp [intOf]; omega
    · obtain rfl : j = l.length := by omega
      go_wp2
      go_ret
      exact ⟨ret_int HZ.out, HB.out⟩

end Go.Proofs.YtecgjbddcmpggaaDoor
