/- Heads of rows, Compare, Begins, Newest (package version), in any world. -/
import Derived.Test.YtecgjbddcmpggaaDoorVj
namespace Go.Proofs.YtecgjbddcmpggaaDoor
open Go.RowKit Go.Shelf

theorem zero_eq (z : Int) : (z == 0) = decide (z = 0) := rfl
set_option maxHeartbeats 1000000 in
theorem headsI_any (a b : Co) (va vb : Value) (w : World) (hA : CoAt w va a) (hB : CoAt w vb b) :
    Calls Tryd.prog 27 #[va, vb, .func (.func 29) #[] #[]] w fun e w' => e = .returned (.bool (headC zI itemC a b)) ∧ Below w.heap.size w w' := by
  have HA := Lib.hid hA
  have HB := Lib.hid hB
  obtain ⟨ao, ca, rfl, a1, a2, _⟩ := hA
  obtain ⟨bo, cb, rfl, b1, b2, _⟩ := hB
  unfold maxLen at a2 b2
  have ht := HB.out.take (min b.length a.length) (Nat.min_le_left _ _)
  have q := rowsI_any _ itemC ent29 items_any a _ _ _ w HA.out ht
  have hr : headC zI itemC a b = decide (rowsC zI itemC a (b.take (min b.length a.length)) = 0) := rfl
  rw [hr]
  generalize rowsC zI itemC a (b.take (min b.length a.length)) = z at *
  clear hr ht
  rw [← show (min (b.length : Int) (a.length : Int)).toNat = min b.length a.length by omega] at q
  go_enter Tryd.func27, Tryd.ntmps27
  go_wp2_with fail
  refine q.mono ?_
  rintro e w' ⟨rfl, h⟩
  go_wp2
  go_ret
  exact ⟨rfl, h⟩
set_option maxHeartbeats 1000000 in
theorem headsC_any (a b : Row) (va vb : Value) (w : World) (hA : RowAt w va a) (hB : RowAt w vb b) :
    Calls Tryd.prog 26 #[va, vb, .func (.func 24) #[] #[]] w fun e w' => e = .returned (.bool (headC [] compC a b)) ∧ Below w.heap.size w w' := by
  have HA := Lib.hid hA
  have HB := Lib.hid hB
  obtain ⟨ao, ca, rfl, a1, a2, _⟩ := hA
  obtain ⟨bo, cb, rfl, b1, b2, _⟩ := hB
  unfold maxLen at a2 b2
  have ht := HB.out.take (min b.length a.length) (Nat.min_le_left _ _)
  have q := rowsC_any _ compC ent24 (fun x y u v w h1 h2 => comps_any x y u v w h1 h2) a _ _ _ w HA.out ht
  have hr : headC [] compC a b = decide (rowsC [] compC a (b.take (min b.length a.length)) = 0) := rfl
  rw [hr]
  generalize rowsC [] compC a (b.take (min b.length a.length)) = z at *
  clear hr ht
  rw [← show (min (b.length : Int) (a.length : Int)).toNat = min b.length a.length by omega] at q
  go_enter Tryd.func26, Tryd.ntmps26
  go_wp2_with fail
  refine q.mono ?_
  rintro e w' ⟨rfl, h⟩
  go_wp2
  go_ret
  exact ⟨rfl, h⟩

/-! ### versions -/
theorem calls_gen {P : Program} {f : FuncId} {args : Array Value} {Q : Ending → World → Prop} {w : World} (p : World → Prop) (hp : p w) (h : ∀ w3, p w3 → Calls P f args w3 Q) : Calls P f args w Q := h w hp
/-- a version in a variable -/
structure BoxV (w : World) (b : Nat) (n : Int) (p l : Value) : Prop where
  c0 : w.cell? ⟨b, 0, none⟩ = some (.int .i64 n)
  c1 : w.cell? ⟨b, 1, none⟩ = some p
  c2 : w.cell? ⟨b, 2, none⟩ = some l
theorem BoxV.below {w w' : World} {b : Nat} {n : Int} {p l : Value} (h : BoxV w b n p l) (hb : Below w.heap.size w w') : BoxV w' b n p l :=
  ⟨(hb.cell (World.block_lt_of_cell? w _ h.c0)).trans h.c0, (hb.cell (World.block_lt_of_cell? w _ h.c1)).trans h.c1, (hb.cell (World.block_lt_of_cell? w _ h.c2)).trans h.c2⟩
theorem BoxV.new (w : World) (n : Int) (p l : Value) : BoxV (w.alloc (.cells #[.int .i64 n, p, l] 25)) w.heap.size n p l :=
  ⟨by rw [cell_of_row _ _ 0 _ _ _ (heap_alloc_new w _)]; rfl, by rw [cell_of_row _ _ 1 _ _ _ (heap_alloc_new w _)]; rfl, by rw [cell_of_row _ _ 2 _ _ _ (heap_alloc_new w _)]; rfl⟩
/-- a value of one cell: a row's -/
theorem RowAt.sl {w : World} {v : Value} {r : Row} (h : RowAt w v r) : ∃ ao cap, v = .slice ao r.length cap ∧ r.length ≤ cap ∧ cap ≤ maxLen := by
  obtain ⟨ao, cap, rfl, h1, h2, _⟩ := h
  exact ⟨ao, cap, rfl, h1, h2⟩

set_option maxHeartbeats 1000000 in
theorem compare_any (a b : Ver) (va vb : Value) (w : World) (hA : VerAt w va a) (hB : VerAt w vb b) :
    Calls Tryd.prog 10 #[va, vb] w fun e w' => e = .returned (.int .i64 (verC a b)) ∧ Below w.heap.size w w' := by
  obtain ⟨pa, la, rfl, hpa, hla⟩ := hA
  obtain ⟨pb, lb, rfl, hpb, hlb⟩ := hB
  have HPA := Lib.hid hpa
  have HPB := Lib.hid hpb
  have HLA := Lib.hid hla
  have HLB := Lib.hid hlb
  obtain ⟨o1, k1, rfl, _, _⟩ := hpa.sl
  obtain ⟨o2, k2, rfl, _, _⟩ := hpb.sl
  obtain ⟨o3, k3, rfl, _, _⟩ := hla.sl
  obtain ⟨o4, k4, rfl, _, _⟩ := hlb.sl
  clear hpa hpb hla hlb
  have qe := Tryd.cmp_Compare_int a.1 b.1
  have qp := fun W (hb : Below w.heap.size w W) => rowsC_any _ compC ent24 comps_any _ _ _ _ W (HPA.out.below hb) (HPB.out.below hb)
  have ql := fun W (hb : Below w.heap.size w W) => rowsC_any _ compC ent24 comps_any _ _ _ _ W (HLA.out.below hb) (HLB.out.below hb)
  have HV : Hid (verC a b = if Lib.compareInt a.1 b.1 ≠ 0 then Lib.compareInt a.1 b.1 else if rowsC [] compC a.2.1 b.2.1 ≠ 0 then rowsC [] compC a.2.1 b.2.1 else rowsC [] compC a.2.2 b.2.2) := rfl
  generalize verC a b = z at *
  generalize Lib.compareInt a.1 b.1 = ce at *
  generalize rowsC [] compC a.2.1 b.2.1 = cp at *
  generalize rowsC [] compC a.2.2 b.2.2 = cl at *
  generalize a.2.1.length = n1 at *
  generalize b.2.1.length = n2 at *
  generalize a.2.2.length = n3 at *
  generalize b.2.2.length = n4 at *
  generalize a.1 = ea at *
  generalize b.1 = eb at *
  go_enter Tryd.func10, Tryd.ntmps10
  go_wp2_with fail
  refine calls_gen (fun w1 => Hid (Below w.heap.size w w1) ∧ Hid (BoxV w1 w.heap.size ea (.slice o1 n1 k1) (.slice o3 n3 k3)) ∧ Hid (BoxV w1 (w.heap.size + 1) eb (.slice o2 n2 k2) (.slice o4 n4 k4)))
    ⟨(below_alloc _ _).trans ((below_alloc _ _).mono (by simp)), (BoxV.new _ _ _ _).below (below_alloc _ _), Lib.hid (by simpa using BoxV.new (w.alloc (.cells #[.int .i64 ea, .slice o1 n1 k1, .slice o3 n3 k3] 25)) eb (.slice o2 n2 k2) (.slice o4 n4 k4))⟩ ?_
  intro w1 ⟨HB, HX, HY⟩
  refine (qe _).mono ?_
  rintro e _ ⟨rfl, rfl⟩
  have x1 := HX.out.c1
  have x2 := HX.out.c2
  have y1 := HY.out.c1
  have y2 := HY.out.c2
  by_cases h1 : ce = 0
  · subst h1
    have q1 := qp _ HB.out
    by_cases h2 : cp = 0
    · subst h2
      have HZ : Hid (cl = z) := by
        have := HV.out
        rw [if_neg (by simp), if_neg (by simp)] at this
        exact this.symm
      clear HV qp
      go_wp2_with fail
      refine q1.mono ?_
      rintro e w2 ⟨rfl, h2⟩
      clear q1
      have x3 := (HX.out.below h2).c2
      have y3 := (HY.out.below h2).c2
      have HB2 := Lib.hid (HB.out.trans (h2.mono HB.out.size))
      clear h2 x1 x2 y1 y2
      have q2 := ql _ HB2.out
      clear ql
      go_wp2_with fail
      refine q2.mono ?_
      rintro e w3 ⟨rfl, h3⟩
      go_wp2
      go_ret
      exact ⟨ret_int HZ.out, HB2.out.trans (h3.mono HB2.out.size)⟩
    · have HZ : Hid (cp = z) := by
        have := HV.out
        rw [if_neg (by simp), if_pos h2] at this
        exact this.symm
      have h3 : (cp != 0) = true := by simpa using h2
      clear HV qp ql h2
      go_wp2_with fail
      refine q1.mono ?_
      rintro e w2 ⟨rfl, h2⟩
      go_wp2
      go_ret
      exact ⟨ret_int HZ.out, HB.out.trans (h2.mono HB.out.size)⟩
  · have HZ : Hid (ce = z) := by
      have := HV.out
      rw [if_pos h1] at this
      exact this.symm
    have h2 : (ce != 0) = true := by simpa using h1
    clear HV qp ql h1
    go_wp2
    go_ret
    exact ⟨ret_int HZ.out, HB.out⟩

end Go.Proofs.YtecgjbddcmpggaaDoor
