/- Parse (package version), in any world. -/
import Derived.Test.YtecgjbddcmpggaaDoorVu
import Derived.BigRegion
namespace Go.Proofs.YtecgjbddcmpggaaDoor
open Go.RowKit Go.Shelf

theorem low_size (s : ByteArray) : (⟨(s.data.toList.map lowC).toArray⟩ : ByteArray).size = s.size := by
  show (s.data.toList.map lowC).length = _
  rw [List.length_map, size_list]
set_option maxRecDepth 100000 in
set_option maxHeartbeats 2000000 in
theorem parse_any (s : ByteArray) (m : Int) (T : TypeId) (pv : Value) (w : World) (hs : s.size ≤ maxLen) (hm : w.cell? ⟨1, 0, none⟩ = some (.int .i64 m)) (hE : w.cell? ⟨0, 0, none⟩ = some (.iface T pv)) :
    Calls Tryd.prog 8 #[.string s] w (ParsePost (.iface T pv) w (parseL s.data.toList)) := by
  unfold maxLen at hs
  have HE := Lib.hid hE
  have HM := Lib.hid hm
  obtain ⟨X, HX⟩ : ∃ X, Hid (parseL s.data.toList = X) := ⟨_, rfl⟩
  rw [HX.out]
  have HP : Hid (∀ e w', (∃ v x, e = .returned (.tuple #[v, x]) ∧ ((x = .nilIface ∧ ∃ y, X = some y ∧ VerB w' v y) ∨ (x = .iface T pv ∧ X = none ∧ v = zeroV))) ∧ Below w.heap.size w w' → ParsePost (.iface T pv) w X e w') := fun e w' h => h
  by_cases hl : 40 < s.size
  · have HN : Hid (X = none) := by show _ = _; rw [← HX.out]; unfold parseL; rw [if_neg (by rw [size_list]; omega)]
    clear HX HM hm
    go_enter Tryd.func8, Tryd.ntmps8
    go_wp2
    refine wp_gen (fun w1 => Hid (Below w.heap.size w w1) ∧ Hid (BlkV w1 w.heap.size 0 (.slice none 0 0) (.slice none 0 0)) ∧ w1.cell? ⟨0, 0, none⟩ = some (.iface T pv)) ⟨below_alloc _ _, BlkV.new _ _ _ _, cell_al hE _⟩ ?_
    intro w1 ⟨HB, HR, hE1⟩
    have r0 := HR.out.cell 0
    have r1 := HR.out.cell 1
    have r2 := HR.out.cell 2
    have fr := HR.out.fz
    have HG : ∀ j v, (w1.setCell ⟨w.heap.size, j, none⟩ v).cell? ⟨0, 0, none⟩ = some (.iface T pv) := fun j v => by
      have hb := World.block_lt_of_cell? w _ HE.out
      have h2 : (⟨0, 0, none⟩ : Addr).block < w.heap.size := hb
      exact (((Below.refl w1.heap.size w1).mono HB.out.size).setCell (Nat.le_refl _) v).cell h2 |>.trans hE1
    simp only [List.getElem?_toArray, List.getElem?_cons_zero, List.getElem?_cons_succ] at r0 r1 r2
    go_region
    all_goals
      go_wp2
      refine bp_gen (fun w9 => Hid (BlkV w9 w.heap.size 0 (.slice none 0 0) (.slice none 0 0)) ∧ Hid (Below w.heap.size w w9)) ⟨(((HR.out.set0 0).set1 _).set2 _), ((((HB.out.setCell (by simp) _).setCell (by simp) _).setCell (by simp) _).drew)⟩ ?_
      intro w9 ⟨HR9, HB9⟩
      have y0 := HR9.out.cell 0
      have y1 := HR9.out.cell 1
      have y2 := HR9.out.cell 2
      simp only [List.getElem?_toArray, List.getElem?_cons_zero, List.getElem?_cons_succ] at y0 y1 y2
      (try simp only [Exit.inBlock, Exit.then])
      refine bodyPost_ret (v := .tuple #[.agg #[.int .i64 0, .slice none 0 0, .slice none 0 0], .iface T pv]) ?_ rfl ?_
      · simp [results, Tryd.results8, go_sem, y0, y1, y2]
        try rfl
      · exact HP.out _ _ ⟨⟨_, _, rfl, .inr ⟨rfl, HN.out, rfl⟩⟩, HB9.out⟩
  · have HXX : Hid (verL (s.data.toList.map lowC) = X) := by show _ = _; rw [← HX.out]; unfold parseL; rw [if_pos (by rw [size_list]; omega)]
    have ql := fun w => lower_any s w (by omega)
    have hsz := low_size s
    have hle : (⟨(s.data.toList.map lowC).toArray⟩ : ByteArray).size ≤ 50000 := by rw [hsz]; omega
    have qr := fun w hm => read_any (⟨(s.data.toList.map lowC).toArray⟩ : ByteArray) m w hle hm
    have e1 : verL (⟨(s.data.toList.map lowC).toArray⟩ : ByteArray).data.toList = verL (s.data.toList.map lowC) := rfl
    rw [e1, HXX.out] at qr
    generalize (⟨(s.data.toList.map lowC).toArray⟩ : ByteArray) = L at *
    clear HX HXX e1 hsz hle
    go_enter Tryd.func8, Tryd.ntmps8
    go_wp2_with fail
    refine calls_gen (fun w1 => Hid (Below w.heap.size w w1) ∧ Hid (BlkV w1 w.heap.size 0 (.slice none 0 0) (.slice none 0 0))) ⟨below_alloc _ _, BlkV.new _ _ _ _⟩ ?_
    intro w1 ⟨HB, HR⟩
    refine (ql _).mono ?_
    rintro e w2 ⟨rfl, h2⟩
    have HB2 := Lib.hid (HB.out.trans (h2.mono HB.out.size))
    have HR2 := Lib.hid (HR.out.below h2)
    have HM2 := Lib.hid (maxAt HM.out HB2.out)
    clear h2 ql HB HR
    go_wp2_with fail
    refine (qr _ HM2.out).mono ?_
    rintro e w3 ⟨⟨v, b, rfl, hx⟩, h3⟩
    have HB3 := Lib.hid (HB2.out.trans (h3.mono HB2.out.size))
    have HR3 := Lib.hid (HR2.out.below h3)
    have hE3 := (HB3.out.cell (World.block_lt_of_cell? w _ HE.out)).trans HE.out
    clear h3 qr HB2 HR2 HM2
    rcases hx with ⟨rfl, x, hx, hv⟩ | ⟨rfl, hx, rfl⟩
    · have HXY := Lib.hid hx
      obtain ⟨vp, vl, rfl, hp, hq⟩ := hv
      obtain ⟨o1, k1, rfl, _, _⟩ := hp.row.sl
      obtain ⟨o2, k2, rfl, _, _⟩ := hq.row.sl
      have HPP := Lib.hid hp
      have HQQ := Lib.hid hq
      clear hx hp hq
      obtain ⟨e0, r1, r2⟩ := x
      simp only [] at HPP HQQ ⊢
      generalize r1.length = n1 at *
      generalize r2.length = n2 at *
      have x0 := HR3.out.cell 0
      have x1 := HR3.out.cell 1
      have x2 := HR3.out.cell 2
      have fx := HR3.out.fz
      have hlt := HR3.out.lt
      simp only [List.getElem?_toArray, List.getElem?_cons_zero, List.getElem?_cons_succ] at x0 x1 x2
      have HA := Lib.hid (BlkV.new w3 e0 (.slice o1 n1 k1) (.slice o2 n2 k2))
      have HRA := Lib.hid (HR3.out.below (below_alloc w3 (.cells #[.int .i64 e0, .slice o1 n1 k1, .slice o2 n2 k2] 25)))
      have z0 := HRA.out.cell 0
      have z1 := HRA.out.cell 1
      have z2 := HRA.out.cell 2
      have fz := HRA.out.fz
      have y0 := HA.out.cell 0
      have y1 := HA.out.cell 1
      have y2 := HA.out.cell 2
      simp only [List.getElem?_toArray, List.getElem?_cons_zero, List.getElem?_cons_succ] at y0 y1 y2 z0 z1 z2
      go_wp2
      refine bp_gen (fun w9 => Hid (BlkV w9 w.heap.size e0 (.slice o1 n1 k1) (.slice o2 n2 k2)) ∧ Hid (VerB w9 (.agg #[.int .i64 e0, .slice o1 n1 k1, .slice o2 n2 k2]) (e0, r1, r2)) ∧ Hid (Below w.heap.size w w9))
        ⟨(((HR3.out.set0 e0).set1 _).set2 _).below (below_alloc _ _), ⟨_, _, rfl, (((HPP.out.set HR3.out _).set (HR3.out.set0 e0) _).set ((HR3.out.set0 e0).set1 _) _).below (below_alloc _ _), (((HQQ.out.set HR3.out _).set (HR3.out.set0 e0) _).set ((HR3.out.set0 e0).set1 _) _).below (below_alloc _ _)⟩, (((HB3.out.setCell (by simp) _).setCell (by simp) _).setCell (by simp) _).alloc (by have := HB3.out.size; simp [World.setCell]; try omega) _⟩ ?_
      intro w9 ⟨HR9, HX9, HB9⟩
      have y0 := HR9.out.cell 0
      have y1 := HR9.out.cell 1
      have y2 := HR9.out.cell 2
      simp only [List.getElem?_toArray, List.getElem?_cons_zero, List.getElem?_cons_succ] at y0 y1 y2
      (try simp only [Exit.inBlock, Exit.then])
      refine bodyPost_ret (v := .tuple #[.agg #[.int .i64 e0, .slice o1 n1 k1, .slice o2 n2 k2], .nilIface]) ?_ rfl ?_
      · simp [results, Tryd.results8, go_sem, y0, y1, y2]
        try rfl
      · exact HP.out _ _ ⟨⟨_, _, rfl, .inl ⟨rfl, _, HXY.out, HX9.out⟩⟩, HB9.out⟩
    · have HN := Lib.hid hx
      clear hx
      unfold zeroV
      go_wp2
      refine wp_gen (fun w1 => Hid (Below w.heap.size w w1) ∧ Hid (BlkV w1 w.heap.size 0 (.slice none 0 0) (.slice none 0 0)) ∧ w1.cell? ⟨0, 0, none⟩ = some (.iface T pv)) ⟨HB3.out.alloc HB3.out.size _, HR3.out.below (below_alloc _ _), cell_al hE3 _⟩ ?_
      intro w1 ⟨HB, HR, hE1⟩
      clear hE3 hE hm HM HB3 HR3
      have r0 := HR.out.cell 0
      have r1 := HR.out.cell 1
      have r2 := HR.out.cell 2
      have fr := HR.out.fz
      have HG : ∀ j v, (w1.setCell ⟨w.heap.size, j, none⟩ v).cell? ⟨0, 0, none⟩ = some (.iface T pv) := fun j v => by
        have hb := World.block_lt_of_cell? w _ HE.out
        have h2 : (⟨0, 0, none⟩ : Addr).block < w.heap.size := hb
        exact (((Below.refl w1.heap.size w1).mono HB.out.size).setCell (Nat.le_refl _) v).cell h2 |>.trans hE1
      simp only [List.getElem?_toArray, List.getElem?_cons_zero, List.getElem?_cons_succ] at r0 r1 r2
      go_region
      all_goals
        go_wp2
        refine bp_gen (fun w9 => Hid (BlkV w9 w.heap.size 0 (.slice none 0 0) (.slice none 0 0)) ∧ Hid (Below w.heap.size w w9)) ⟨(((HR.out.set0 0).set1 _).set2 _), ((((HB.out.setCell (by simp) _).setCell (by simp) _).setCell (by simp) _).drew)⟩ ?_
        intro w9 ⟨HR9, HB9⟩
        have y0 := HR9.out.cell 0
        have y1 := HR9.out.cell 1
        have y2 := HR9.out.cell 2
        simp only [List.getElem?_toArray, List.getElem?_cons_zero, List.getElem?_cons_succ] at y0 y1 y2
        (try simp only [Exit.inBlock, Exit.then])
        refine bodyPost_ret (v := .tuple #[.agg #[.int .i64 0, .slice none 0 0, .slice none 0 0], .iface T pv]) ?_ rfl ?_
        · simp [results, Tryd.results8, go_sem, y0, y1, y2]
          try rfl
        · exact HP.out _ _ ⟨⟨_, _, rfl, .inr ⟨rfl, HN.out, rfl⟩⟩, HB9.out⟩

end Go.Proofs.YtecgjbddcmpggaaDoor
