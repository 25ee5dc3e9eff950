/- VersionOrder, walked: it returns true, in any world. -/
import Derived.Test.YtecgjbddcmpggaaDoorVe
import Derived.Test.YtecgjbddcmpggaaDoorVo
namespace Go.Proofs.YtecgjbddcmpggaaDoor
open Go.RowKit Go.Shelf

def Yes (w : World) (e : Ending) (w' : World) : Prop := e = .returned (.bool true) ∧ Below w.heap.size w w'
/-- what a text's Parse leaves -/
def PR (T : TypeId) (pv : Value) (w : World) (l : List UInt8) (v x : Value) : Prop :=
  (x = .nilIface ∧ ∃ y, parseL l = some y ∧ VerAt w v y) ∨ (x = .iface T pv ∧ parseL l = none)
theorem PR.below {T : TypeId} {pv : Value} {w w' : World} {l : List UInt8} {v x : Value} (h : PR T pv w l v x) (hb : Below w.heap.size w w') : PR T pv w' l v x := by
  rcases h with ⟨h1, y, h2, h3⟩ | h
  · exact .inl ⟨h1, y, h2, h3.below hb⟩
  · exact .inr h
theorem parse_box (s : ByteArray) (m : Int) (T : TypeId) (pv : Value) (w : World) (hs : s.size ≤ maxLen) (hm : w.cell? ⟨1, 0, none⟩ = some (.int .i64 m)) (hE : w.cell? ⟨0, 0, none⟩ = some (.iface T pv)) :
    Calls Tryd.prog 8 #[.string s] w fun e w' => ∃ n p a c q b d x, e = .returned (.tuple #[.agg #[.int .i64 n, .slice p a c, .slice q b d], x]) ∧ PR T pv w' s.data.toList (.agg #[.int .i64 n, .slice p a c, .slice q b d]) x ∧ Below w.heap.size w w' := by
  refine (parse_any s m T pv w hs hm hE).mono ?_
  rintro e w' ⟨⟨v, x, rfl, h⟩, hb⟩
  rcases h with ⟨rfl, y, hy, hv⟩ | ⟨rfl, hy, rfl⟩
  · obtain ⟨vp, vl, rfl, hp, hq⟩ := hv
    have hp2 := hp.row
    have hq2 := hq.row
    obtain ⟨p, c, rfl, _, _⟩ := hp2.sl
    obtain ⟨q, d, rfl, _, _⟩ := hq2.sl
    exact ⟨_, _, _, _, _, _, _, _, rfl, .inl ⟨rfl, y, hy, _, _, rfl, hp2, hq2⟩, hb⟩
  · exact ⟨_, _, _, _, _, _, _, _, rfl, .inr ⟨rfl, hy⟩, hb⟩
theorem errAt {w w' : World} {v : Value} (h : w.cell? ⟨0, 0, none⟩ = some v) (hb : Below w.heap.size w w') : w'.cell? ⟨0, 0, none⟩ = some v :=
  (hb.cell (World.block_lt_of_cell? w _ h)).trans h

theorem nine_drew {w w' : World} {A B C D E F G I J : Addr} {x y z u v t r q p : Value} (h : w'.cell? A = some x ∧ w'.cell? B = some y ∧ w'.cell? C = some z ∧ w'.cell? D = some u ∧ w'.cell? E = some v ∧ w'.cell? F = some t ∧ w'.cell? G = some r ∧ w'.cell? I = some q ∧ w'.cell? J = some p ∧ Hid (Below w.heap.size w w')) :
    w'.drew.cell? A = some x ∧ w'.drew.cell? B = some y ∧ w'.drew.cell? C = some z ∧ w'.drew.cell? D = some u ∧ w'.drew.cell? E = some v ∧ w'.drew.cell? F = some t ∧ w'.drew.cell? G = some r ∧ w'.drew.cell? I = some q ∧ w'.drew.cell? J = some p ∧ Hid (Below w.heap.size w w'.drew) := ⟨h.1, h.2.1, h.2.2.1, h.2.2.2.1, h.2.2.2.2.1, h.2.2.2.2.2.1, h.2.2.2.2.2.2.1, h.2.2.2.2.2.2.2.1, h.2.2.2.2.2.2.2.2.1, h.2.2.2.2.2.2.2.2.2.out.drew⟩
theorem nine_below {w w' w2 : World} {A B C D E F G I J : Addr} {x y z u v t r q p : Value} (h : w'.cell? A = some x ∧ w'.cell? B = some y ∧ w'.cell? C = some z ∧ w'.cell? D = some u ∧ w'.cell? E = some v ∧ w'.cell? F = some t ∧ w'.cell? G = some r ∧ w'.cell? I = some q ∧ w'.cell? J = some p ∧ Hid (Below w.heap.size w w')) (hb : Below w'.heap.size w' w2) :
    w2.cell? A = some x ∧ w2.cell? B = some y ∧ w2.cell? C = some z ∧ w2.cell? D = some u ∧ w2.cell? E = some v ∧ w2.cell? F = some t ∧ w2.cell? G = some r ∧ w2.cell? I = some q ∧ w2.cell? J = some p ∧ Hid (Below w.heap.size w w2) :=
  ⟨(hb.cell (World.block_lt_of_cell? w' _ h.1)).trans h.1, (hb.cell (World.block_lt_of_cell? w' _ h.2.1)).trans h.2.1, (hb.cell (World.block_lt_of_cell? w' _ h.2.2.1)).trans h.2.2.1, (hb.cell (World.block_lt_of_cell? w' _ h.2.2.2.1)).trans h.2.2.2.1, (hb.cell (World.block_lt_of_cell? w' _ h.2.2.2.2.1)).trans h.2.2.2.2.1, (hb.cell (World.block_lt_of_cell? w' _ h.2.2.2.2.2.1)).trans h.2.2.2.2.2.1, (hb.cell (World.block_lt_of_cell? w' _ h.2.2.2.2.2.2.1)).trans h.2.2.2.2.2.2.1, (hb.cell (World.block_lt_of_cell? w' _ h.2.2.2.2.2.2.2.1)).trans h.2.2.2.2.2.2.2.1, (hb.cell (World.block_lt_of_cell? w' _ h.2.2.2.2.2.2.2.2.1)).trans h.2.2.2.2.2.2.2.2.1, h.2.2.2.2.2.2.2.2.2.out.trans (hb.mono h.2.2.2.2.2.2.2.2.2.out.size)⟩
theorem nine_b {w w' : World} {A B C D E F G I J : Addr} {x y z u v t r q p : Value} (h : w'.cell? A = some x ∧ w'.cell? B = some y ∧ w'.cell? C = some z ∧ w'.cell? D = some u ∧ w'.cell? E = some v ∧ w'.cell? F = some t ∧ w'.cell? G = some r ∧ w'.cell? I = some q ∧ w'.cell? J = some p ∧ Hid (Below w.heap.size w w')) : Below w.heap.size w w' := h.2.2.2.2.2.2.2.2.2.out
set_option maxRecDepth 100000 in
set_option maxHeartbeats 4000000 in
theorem law_order (s t u : ByteArray) (m : Int) (T : TypeId) (pv : Value) (w : World) (hs : s.size ≤ maxLen) (ht : t.size ≤ maxLen) (hu : u.size ≤ maxLen) (hm : w.cell? ⟨1, 0, none⟩ = some (.int .i64 m)) (hE : w.cell? ⟨0, 0, none⟩ = some (.iface T pv)) :
    Calls Tryd.prog 5 #[.string s, .string t, .string u] w (Yes w) := by
  have q0 := alive_any m T pv w hm hE
  have HM := Lib.hid hm
  have HE := Lib.hid hE
  clear hm hE
  unfold maxLen at hs ht hu
  by_cases hl : 100 < s.size ∨ 100 < t.size ∨ 100 < u.size
  · by_cases h1 : 100 < s.size
    all_goals (try by_cases h2 : 100 < t.size)
    all_goals (try (have h3 : 100 < u.size := by omega))
    all_goals
      clear hl
      go_enter Tryd.func5, Tryd.ntmps5
      go_wp2_with (go_at_call 7; refine q0.mono ?_; rintro e w1 ⟨rfl, h1⟩)
      go_ret
      exact ⟨rfl, h1⟩
  · have l1 : ¬ 100 < s.size := by omega
    have l2 : ¬ 100 < t.size := by omega
    have l3 : ¬ 100 < u.size := by omega
    clear hl
    go_enter Tryd.func5, Tryd.ntmps5
    go_wp2_with (go_at_call 7; refine q0.mono ?_; rintro e w1 ⟨rfl, h1⟩)
    have HB1 := Lib.hid h1
    clear h1 q0
    refine (parse_box s m T pv _ (by unfold maxLen; omega) (maxAt HM.out HB1.out) (errAt HE.out HB1.out)).mono ?_
    rintro e w2 ⟨n1, p1, a1, c1, q1, b1, d1, x1, rfl, hx1, h2⟩
    have HB2 := Lib.hid (HB1.out.trans (h2.mono HB1.out.size))
    have HX1 := Lib.hid hx1
    clear h2 HB1 hx1
    go_wp2_with fail
    refine calls_gen (fun w3 => Hid (Below w.heap.size w w3) ∧ Hid (BoxV w3 w2.heap.size n1 (.slice p1 a1 c1) (.slice q1 b1 d1)) ∧ Hid (PR T pv w3 s.data.toList (.agg #[.int .i64 n1, .slice p1 a1 c1, .slice q1 b1 d1]) x1)) ⟨HB2.out.alloc HB2.out.size _, BoxV.new _ _ _ _, HX1.out.below (below_alloc _ _)⟩ ?_
    clear HX1 HB2
    intro w3 ⟨HB3, HV1, HX1⟩
    refine (parse_box t m T pv _ (by unfold maxLen; omega) (maxAt HM.out HB3.out) (errAt HE.out HB3.out)).mono ?_
    rintro e w4 ⟨n2, p2, a2, c2, q2, b2, d2, x2, rfl, hx2, h4⟩
    have HB4 := Lib.hid (HB3.out.trans (h4.mono HB3.out.size))
    have HV1' := Lib.hid (HV1.out.below h4)
    have HX1' := Lib.hid (HX1.out.below h4)
    have HX2 := Lib.hid hx2
    clear h4 HB3 HV1 HX1 hx2
    go_wp2_with fail
    refine calls_gen (fun w5 => Hid (Below w.heap.size w w5) ∧ Hid (BoxV w5 w2.heap.size n1 (.slice p1 a1 c1) (.slice q1 b1 d1)) ∧ Hid (BoxV w5 w4.heap.size n2 (.slice p2 a2 c2) (.slice q2 b2 d2)) ∧ Hid (PR T pv w5 s.data.toList (.agg #[.int .i64 n1, .slice p1 a1 c1, .slice q1 b1 d1]) x1) ∧ Hid (PR T pv w5 t.data.toList (.agg #[.int .i64 n2, .slice p2 a2 c2, .slice q2 b2 d2]) x2)) ⟨HB4.out.alloc HB4.out.size _, HV1'.out.below (below_alloc _ _), BoxV.new _ _ _ _, HX1'.out.below (below_alloc _ _), HX2.out.below (below_alloc _ _)⟩ ?_
    clear HX1' HX2 HV1' HB4
    intro w5 ⟨HB5, HV1, HV2, HX1, HX2⟩
    refine (parse_box u m T pv _ (by unfold maxLen; omega) (maxAt HM.out HB5.out) (errAt HE.out HB5.out)).mono ?_
    rintro e w6 ⟨n3, p3, a3, c3, q3, b3, d3, x3, rfl, hx3, h6⟩
    have HB6 := Lib.hid (HB5.out.trans (h6.mono HB5.out.size))
    have HV1' := Lib.hid (HV1.out.below h6)
    have HV2' := Lib.hid (HV2.out.below h6)
    have HX1' := HX1.out.below h6
    have HX2' := HX2.out.below h6
    clear h6 HB5 HV1 HV2 HX1 HX2
    have hlt1 := World.block_lt_of_cell? w6 _ HV1'.out.c0
    have hlt2 := World.block_lt_of_cell? w6 _ HV2'.out.c0
    rcases HX1' with ⟨rfl, y1, hy1, hv1⟩ | ⟨rfl, hy1⟩
    · rcases HX2' with ⟨rfl, y2, hy2, hv2⟩ | ⟨rfl, hy2⟩
      · rcases hx3 with ⟨rfl, y3, hy3, hv3⟩ | ⟨rfl, hy3⟩
        · clear hy1 hy2 hy3
          have HY1 := Lib.hid hv1
          have HY2 := Lib.hid hv2
          have HY3 := Lib.hid hv3
          clear hv1 hv2 hv3
          go_wp2
          refine wp_gen (fun w7 => w7.cell? ⟨w2.heap.size, 0, none⟩ = some (.int .i64 n1) ∧ w7.cell? ⟨w2.heap.size, 1, none⟩ = some (.slice p1 a1 c1) ∧ w7.cell? ⟨w2.heap.size, 2, none⟩ = some (.slice q1 b1 d1) ∧ w7.cell? ⟨w4.heap.size, 0, none⟩ = some (.int .i64 n2) ∧ w7.cell? ⟨w4.heap.size, 1, none⟩ = some (.slice p2 a2 c2) ∧ w7.cell? ⟨w4.heap.size, 2, none⟩ = some (.slice q2 b2 d2) ∧ w7.cell? ⟨w6.heap.size, 0, none⟩ = some (.int .i64 n3) ∧ w7.cell? ⟨w6.heap.size, 1, none⟩ = some (.slice p3 a3 c3) ∧ w7.cell? ⟨w6.heap.size, 2, none⟩ = some (.slice q3 b3 d3) ∧ Hid (Below w6.heap.size w6 w7)) ⟨cell_al HV1'.out.c0 _, cell_al HV1'.out.c1 _, cell_al HV1'.out.c2 _, cell_al HV2'.out.c0 _, cell_al HV2'.out.c1 _, cell_al HV2'.out.c2 _, (BoxV.new _ _ _ _).c0, (BoxV.new _ _ _ _).c1, (BoxV.new _ _ _ _).c2, Lib.hid (below_alloc _ _)⟩ ?_
          intro w7 hS
          have r12 := cmp_ver.rng y1 y2
          have r23 := cmp_ver.rng y2 y3
          have r13 := cmp_ver.rng y1 y3
          have t13 := cmp_ver.tr y1 y2 y3
          have s13 := cmp_ver.ts y1 y2 y3
          have z13 := @Cmp.zero _ _ cmp_ver y1 y2 y3
          have a21 := cmp_ver.anti y1 y2
          have RN : Hid ((verC y1 y2 = -1 ∨ verC y1 y2 = 0 ∨ verC y1 y2 = 1) ∧ (verC y2 y3 = -1 ∨ verC y2 y3 = 0 ∨ verC y2 y3 = 1) ∧ (verC y1 y3 = -1 ∨ verC y1 y3 = 0 ∨ verC y1 y3 = 1) ∧ (verC y1 y2 ≤ 0 → verC y2 y3 ≤ 0 → verC y1 y3 ≤ 0) ∧ (verC y1 y2 ≤ 0 → verC y2 y3 ≤ 0 → (verC y1 y2 < 0 ∨ verC y2 y3 < 0) → verC y1 y3 < 0)) := ⟨r12, r23, r13, t13, s13⟩
          have c12 := fun W (hb : Below w6.heap.size w6 W) => compare_any y1 y2 _ _ W (HY1.out.below hb) (HY2.out.below hb)
          have c23 := fun W (hb : Below w6.heap.size w6 W) => compare_any y2 y3 _ _ W (HY2.out.below hb) (HY3.out.below hb)
          have c13 := fun W (hb : Below w6.heap.size w6 W) => compare_any y1 y3 _ _ W (HY1.out.below hb) (HY3.out.below hb)
          have c21 := fun W (hb : Below w6.heap.size w6 W) => compare_any y2 y1 _ _ W (HY2.out.below hb) (HY1.out.below hb)
          rw [a21] at c21
          clear r12 r23 r13 t13 s13 z13 a21 HY1 HY2 HY3 HV1' HV2'
          generalize verC y1 y2 = X at *
          generalize verC y2 y3 = Y at *
          generalize verC y1 y3 = Z at *
          go_cut [13, 14, 15] (fun a b c wx => a = .int .i64 X ∧ b = .int .i64 Y ∧ c = .int .i64 Z ∧ (wx.cell? ⟨w2.heap.size, 0, none⟩ = some (.int .i64 n1) ∧ wx.cell? ⟨w2.heap.size, 1, none⟩ = some (.slice p1 a1 c1) ∧ wx.cell? ⟨w2.heap.size, 2, none⟩ = some (.slice q1 b1 d1) ∧ wx.cell? ⟨w4.heap.size, 0, none⟩ = some (.int .i64 n2) ∧ wx.cell? ⟨w4.heap.size, 1, none⟩ = some (.slice p2 a2 c2) ∧ wx.cell? ⟨w4.heap.size, 2, none⟩ = some (.slice q2 b2 d2) ∧ wx.cell? ⟨w6.heap.size, 0, none⟩ = some (.int .i64 n3) ∧ wx.cell? ⟨w6.heap.size, 1, none⟩ = some (.slice p3 a3 c3) ∧ wx.cell? ⟨w6.heap.size, 2, none⟩ = some (.slice q3 b3 d3) ∧ Hid (Below w6.heap.size w6 wx)))
          case first =>
            first
            | (go_region_held3 (fun w' => w'.cell? ⟨w2.heap.size, 0, none⟩ = some (.int .i64 n1) ∧ w'.cell? ⟨w2.heap.size, 1, none⟩ = some (.slice p1 a1 c1) ∧ w'.cell? ⟨w2.heap.size, 2, none⟩ = some (.slice q1 b1 d1) ∧ w'.cell? ⟨w4.heap.size, 0, none⟩ = some (.int .i64 n2) ∧ w'.cell? ⟨w4.heap.size, 1, none⟩ = some (.slice p2 a2 c2) ∧ w'.cell? ⟨w4.heap.size, 2, none⟩ = some (.slice q2 b2 d2) ∧ w'.cell? ⟨w6.heap.size, 0, none⟩ = some (.int .i64 n3) ∧ w'.cell? ⟨w6.heap.size, 1, none⟩ = some (.slice p3 a3 c3) ∧ w'.cell? ⟨w6.heap.size, 2, none⟩ = some (.slice q3 b3 d3) ∧ Hid (Below w6.heap.size w6 w')) (with_reducible (first | exact nine_drew (by assumption) | exact nine_below (by assumption) (by assumption) | assumption))
                (first
                  | (go_at_call 10; with_reducible refine (c12 _ (by first | exact nine_b (by assumption) | exact nine_b (nine_drew (by assumption)))).mono ?_; rintro e w8 ⟨rfl, hb8⟩)
                  | (go_at_call 10; with_reducible refine (c23 _ (by first | exact nine_b (by assumption) | exact nine_b (nine_drew (by assumption)))).mono ?_; rintro e w8 ⟨rfl, hb8⟩)
                  | (go_at_call 10; with_reducible refine (c13 _ (by first | exact nine_b (by assumption) | exact nine_b (nine_drew (by assumption)))).mono ?_; rintro e w8 ⟨rfl, hb8⟩)))
            | fail
            all_goals
              go_wp2
              go_meet
              exact ⟨rfl, rfl, rfl, by assumption⟩
          case rest =>
          obtain ⟨rfl, rfl, rfl, hS9⟩ := hcut
          clear hS c12 c23 c13
          obtain ⟨rx, ry, rz, r4, r5⟩ := RN.out
          have d0 := hS9.1
          have d1 := hS9.2.1
          have d2 := hS9.2.2.1
          have e0 := hS9.2.2.2.1
          have e1 := hS9.2.2.2.2.1
          have e2 := hS9.2.2.2.2.2.1
          have HBZ := Lib.hid (nine_b hS9)
          have qz := c21 _ HBZ.out
          clear hS9 RN c21
          rcases rx with rfl | rfl | rfl
          all_goals (rcases ry with rfl | rfl | rfl)
          all_goals (rcases rz with rfl | rfl | rfl)
          all_goals (try (exfalso; omega))
          all_goals
            clear r4 r5
            go_wp2_with (go_at_call 10; refine qz.mono ?_; rintro e w9 ⟨rfl, h9⟩)
            go_ret
            exact ⟨rfl, HB6.out.trans ((HBZ.out.trans (h9.mono HBZ.out.size)).mono HB6.out.size)⟩
        · clear hv1 hv2
          go_wp2
          go_ret
          exact ⟨rfl, HB6.out.alloc HB6.out.size _⟩
      · clear hv1 hx3
        go_wp2
        go_ret
        exact ⟨rfl, HB6.out.alloc HB6.out.size _⟩
    · clear HX2' hx3
      go_wp2
      go_ret
      exact ⟨rfl, HB6.out.alloc HB6.out.size _⟩

end Go.Proofs.YtecgjbddcmpggaaDoor
