/- Items, components, rows, versions held against each other (package version), in any world. -/
import Derived.Test.YtecgjbddcmpggaaDoorVc
import Derived.Test.YtecgjbddcmpggaaDoorShelf
import Derived.BigQuiet
import Derived.Deep.DeepCutAuto
namespace Go.Proofs.YtecgjbddcmpggaaDoor
open Go.RowKit Go.Shelf

theorem wp_gen {P : Program} {c : Code} {Q : Exit → Act → World → Prop} {a : Act} {w : World} (p : World → Prop) (hp : p w) (h : ∀ w3, p w3 → Code.wp P c Q a w3) : Code.wp P c Q a w := h w hp
theorem bp_gen {P : Program} {f : Func} {Q : Ending → World → Prop} {e : Exit} {a : Act} {w : World} (p : World → Prop) (hp : p w) (h : ∀ w3, p w3 → bodyPost P f Q e a w3) : bodyPost P f Q e a w := h w hp
theorem below_dr {w w' : World} {B : Nat} (h : Below B w w') (n : Nat) : Below B w (w'.drewN n) := ⟨h.os, h.tape, h.output, h.size, h.block⟩
theorem below_d1 {w w' : World} (h : Below w.drew.heap.size w.drew w') : Below w.heap.size w w' := ⟨h.os, h.tape, h.output, h.size, h.block⟩
theorem below_dn {w w' : World} {n : Nat} (h : Below (w.drewN n).heap.size (w.drewN n) w') : Below w.heap.size w w' := ⟨h.os, h.tape, h.output, h.size, h.block⟩
/-- an item in a variable -/
structure BoxI (w : World) (b : Nat) (x : It) : Prop where
  c0 : w.cell? ⟨b, 0, none⟩ = some (.int .i64 x.1)
  c1 : w.cell? ⟨b, 1, none⟩ = some (.string (bs x.2))
theorem BoxI.below {w w' : World} {b : Nat} {x : It} (h : BoxI w b x) (hb : Below w.heap.size w w') : BoxI w' b x :=
  ⟨(hb.cell (World.block_lt_of_cell? w _ h.c0)).trans h.c0, (hb.cell (World.block_lt_of_cell? w _ h.c1)).trans h.c1⟩
theorem BoxI.new (w : World) (x : It) : BoxI (w.alloc (.cells #[.int .i64 x.1, .string (bs x.2)] 57)) w.heap.size x :=
  ⟨by rw [cell_of_row _ _ 0 _ _ _ (heap_alloc_new w _)]; rfl, by rw [cell_of_row _ _ 1 _ _ _ (heap_alloc_new w _)]; rfl⟩
theorem BoxI.drew {w : World} {b : Nat} {x : It} (h : BoxI w b x) (n : Nat) : BoxI (w.drewN n) b x := ⟨h.c0, h.c1⟩

set_option maxHeartbeats 2000000 in
theorem items_any (x y : It) (w : World) : Calls Tryd.prog 29 #[itv x, itv y] w fun e w' => e = .returned (.int .i64 (itemC x y)) ∧ Below w.heap.size w w' := by
  have qx := kind_any x
  have qy := kind_any y
  have qs := Tryd.strings_Compare (bs x.2) (bs y.2)
  have qn := Tryd.cmp_Compare_int x.1 y.1
  have qk := Tryd.cmp_Compare_int (kindI x) (kindI y)
  rw [bs_data, bs_data] at qs
  have hC : itemC x y = if Lib.compareInt (kindI x) (kindI y) ≠ 0 then Lib.compareInt (kindI x) (kindI y) else if kindI x = 2 then Lib.compareInt x.1 y.1 else Lib.compareBytes x.2 y.2 := rfl
  generalize itemC x y = z at *
  generalize kindI x = kx at *
  generalize kindI y = ky at *
  generalize Lib.compareInt kx ky = c at *
  generalize Lib.compareInt x.1 y.1 = cn at *
  generalize Lib.compareBytes x.2 y.2 = cs at *
  unfold itv at *
  have HC := Lib.hid hC
  clear hC
  go_enter Tryd.func29, Tryd.ntmps29
  go_wp2
  refine wp_gen (fun w1 => Hid (Below w.heap.size w w1) ∧ Hid (BoxI w1 w.heap.size x) ∧ Hid (BoxI w1 (w.heap.size + 1) y)) ⟨(below_alloc _ _).trans ((below_alloc _ _).mono (by simp)), (BoxI.new _ _).below (below_alloc _ _), Lib.hid (by simpa using BoxI.new (w.alloc (.cells #[.int .i64 x.1, .string (bs x.2)] 57)) y)⟩ ?_
  intro w1 ⟨HB, HX, HY⟩
  go_cut [5] (fun v wx => v = .int .i64 c ∧ Hid (Below w.heap.size w wx) ∧ Hid (BoxI wx w.heap.size x) ∧ Hid (BoxI wx (w.heap.size + 1) y))
  case first =>
    have x0 := HX.out.c0
    have x1 := HX.out.c1
    have y0 := HY.out.c0
    have y1 := HY.out.c1
    go_region_with (first
      | (go_at_call 43; with_reducible refine (qx w1.drew).mono ?_; rintro e w2 ⟨rfl, h2⟩; have HB2 := Lib.hid (HB.out.trans ((below_d1 h2).mono HB.out.size)); have HX2 := Lib.hid (HX.out.below (below_d1 h2)); have HY2 := Lib.hid (HY.out.below (below_d1 h2)); have u0 := HX2.out.c0; have u1 := HX2.out.c1; have v0 := HY2.out.c0; have v1 := HY2.out.c1; clear h2)
      | (go_at_call 43; with_reducible refine (qy _).mono ?_; rintro e w3 ⟨rfl, h3⟩; have HB3 := Lib.hid (HB2.out.trans (h3.mono HB2.out.size)); have HX3 := Lib.hid (HX2.out.below h3); have HY3 := Lib.hid (HY2.out.below h3); clear h3)
      | (go_at_call 22; with_reducible refine (qk _).mono ?_; rintro e w4 ⟨rfl, rfl⟩))
    all_goals
      go_wp2
      go_meet
      exact ⟨rfl, HB3, HX3, HY3⟩
  case rest =>
    obtain ⟨rfl, HB3, HX3, HY3⟩ := hcut
    clear HB HX HY qk qy
    have x0 := HX3.out.c0
    have x1 := HX3.out.c1
    have y0 := HY3.out.c0
    have y1 := HY3.out.c1
    by_cases h1 : c = 0
    · subst h1
      have qxx := fun (W : World) (hb : Below wc.heap.size wc W) => HX3.out.below hb
      have qyy := fun (W : World) (hb : Below wc.heap.size wc W) => HY3.out.below hb
      have QX := Lib.hid qxx
      have QY := Lib.hid qyy
      clear qxx qyy
      by_cases h2 : kx = 2
      · subst h2
        have HZ : Hid (cn = z) := by
          have := HC.out
          rw [if_neg (by simp), if_pos rfl] at this
          exact this.symm
        clear HC
        go_wp2_with fail
        refine (qx _).mono ?_
        rintro e w2 ⟨rfl, h2⟩
        have u0 := (QX.out _ h2).c0
        have v0 := (QY.out _ h2).c0
        have HB4 := Lib.hid (HB3.out.trans (h2.mono HB3.out.size))
        clear h2 qx x0 x1 y0 y1
        go_wp2_with (go_at_call 22; refine (qn _).mono ?_; rintro e w4 ⟨rfl, rfl⟩)
        go_ret
        exact ⟨ret_int HZ.out, HB4.out⟩
      · have HZ : Hid (cs = z) := by
          have := HC.out
          rw [if_neg (by simp), if_neg h2] at this
          exact this.symm
        have h3 : (kx == 2) = false := by simpa using h2
        clear HC h2
        go_wp2_with fail
        refine (qx _).mono ?_
        rintro e w2 ⟨rfl, h2⟩
        have u1 := (QX.out _ h2).c1
        have v1 := (QY.out _ h2).c1
        have HB4 := Lib.hid (HB3.out.trans (h2.mono HB3.out.size))
        clear h2 qx x0 x1 y0 y1
        go_wp2_with (go_at_call 44; refine (qs _).mono ?_; rintro e w4 ⟨rfl, rfl⟩)
        go_ret
        exact ⟨ret_int HZ.out, HB4.out⟩
    · have HZ : Hid (c = z) := by
        have := HC.out
        rw [if_pos h1] at this
        exact this.symm
      have h2 : (c != 0) = true := by simpa using h1
      clear HC h1
      go_wp2
      go_ret
      exact ⟨ret_int HZ.out, HB3.out⟩

end Go.Proofs.YtecgjbddcmpggaaDoor
