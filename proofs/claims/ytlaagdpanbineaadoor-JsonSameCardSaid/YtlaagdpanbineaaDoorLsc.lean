/- JsonSame's walk, whatever the calls' contracts. -/
import Derived.Test.YtlaagdpanbineaaDoorJa
import Derived.Deep.RegionHeld3
namespace Go.Proofs.YtlaagdpanbineaaDoor
open Go.RowKit

theorem al2c (w : World) (o o' : Obj) : Below w.heap.size w ((w.alloc o).alloc o') := ((Below.refl _ _).alloc (Nat.le_refl _) o).alloc (((Below.refl _ _).alloc (Nat.le_refl _) o).size) o'
theorem dr_belowS {B : Nat} {w wx : World} (h : Below B w wx) : Below B w wx.drew := ⟨h.os, h.tape, h.output, h.size, h.block⟩
theorem box_b {w wx : World} {v0 v1 v2 v3 v4 u0 u1 u2 u3 u4 : Value} (h : wx.cell? ⟨w.heap.size, 0, none⟩ = some v0 ∧ wx.cell? ⟨w.heap.size, 1, none⟩ = some v1 ∧ wx.cell? ⟨w.heap.size, 2, none⟩ = some v2 ∧ wx.cell? ⟨w.heap.size, 3, none⟩ = some v3 ∧ wx.cell? ⟨w.heap.size, 4, none⟩ = some v4 ∧ wx.cell? ⟨w.heap.size + 1, 0, none⟩ = some u0 ∧ wx.cell? ⟨w.heap.size + 1, 1, none⟩ = some u1 ∧ wx.cell? ⟨w.heap.size + 1, 2, none⟩ = some u2 ∧ wx.cell? ⟨w.heap.size + 1, 3, none⟩ = some u3 ∧ wx.cell? ⟨w.heap.size + 1, 4, none⟩ = some u4 ∧ Hid (Below w.heap.size w wx) ∧ w.heap.size + 2 ≤ wx.heap.size) : Below w.heap.size w wx := h.2.2.2.2.2.2.2.2.2.2.1.out
theorem box_below {w wx wy : World} {v0 v1 v2 v3 v4 u0 u1 u2 u3 u4 : Value} (h : wx.cell? ⟨w.heap.size, 0, none⟩ = some v0 ∧ wx.cell? ⟨w.heap.size, 1, none⟩ = some v1 ∧ wx.cell? ⟨w.heap.size, 2, none⟩ = some v2 ∧ wx.cell? ⟨w.heap.size, 3, none⟩ = some v3 ∧ wx.cell? ⟨w.heap.size, 4, none⟩ = some v4 ∧ wx.cell? ⟨w.heap.size + 1, 0, none⟩ = some u0 ∧ wx.cell? ⟨w.heap.size + 1, 1, none⟩ = some u1 ∧ wx.cell? ⟨w.heap.size + 1, 2, none⟩ = some u2 ∧ wx.cell? ⟨w.heap.size + 1, 3, none⟩ = some u3 ∧ wx.cell? ⟨w.heap.size + 1, 4, none⟩ = some u4 ∧ Hid (Below w.heap.size w wx) ∧ w.heap.size + 2 ≤ wx.heap.size) (hb : Below wx.heap.size wx wy) : wy.cell? ⟨w.heap.size, 0, none⟩ = some v0 ∧ wy.cell? ⟨w.heap.size, 1, none⟩ = some v1 ∧ wy.cell? ⟨w.heap.size, 2, none⟩ = some v2 ∧ wy.cell? ⟨w.heap.size, 3, none⟩ = some v3 ∧ wy.cell? ⟨w.heap.size, 4, none⟩ = some v4 ∧ wy.cell? ⟨w.heap.size + 1, 0, none⟩ = some u0 ∧ wy.cell? ⟨w.heap.size + 1, 1, none⟩ = some u1 ∧ wy.cell? ⟨w.heap.size + 1, 2, none⟩ = some u2 ∧ wy.cell? ⟨w.heap.size + 1, 3, none⟩ = some u3 ∧ wy.cell? ⟨w.heap.size + 1, 4, none⟩ = some u4 ∧ Hid (Below w.heap.size w wy) ∧ w.heap.size + 2 ≤ wy.heap.size := by
  obtain ⟨a0, a1, a2, a3, a4, e0, e1, e2, e3, e4, HB, hs⟩ := h
  have h0 : w.heap.size < wx.heap.size := by omega
  have h1 : w.heap.size + 1 < wx.heap.size := by omega
  exact ⟨(hb.cell (p := ⟨w.heap.size, 0, none⟩) h0).trans a0, (hb.cell (p := ⟨w.heap.size, 1, none⟩) h0).trans a1, (hb.cell (p := ⟨w.heap.size, 2, none⟩) h0).trans a2, (hb.cell (p := ⟨w.heap.size, 3, none⟩) h0).trans a3, (hb.cell (p := ⟨w.heap.size, 4, none⟩) h0).trans a4,
    (hb.cell (p := ⟨w.heap.size + 1, 0, none⟩) h1).trans e0, (hb.cell (p := ⟨w.heap.size + 1, 1, none⟩) h1).trans e1, (hb.cell (p := ⟨w.heap.size + 1, 2, none⟩) h1).trans e2, (hb.cell (p := ⟨w.heap.size + 1, 3, none⟩) h1).trans e3, (hb.cell (p := ⟨w.heap.size + 1, 4, none⟩) h1).trans e4, HB.out.trans (hb.mono HB.out.size), Nat.le_trans hs hb.size⟩
theorem box_below2 {w wx wy : World} {v0 v1 v2 v3 v4 u0 u1 u2 u3 u4 : Value} (hb : Below wx.heap.size wx wy) (h : wx.cell? ⟨w.heap.size, 0, none⟩ = some v0 ∧ wx.cell? ⟨w.heap.size, 1, none⟩ = some v1 ∧ wx.cell? ⟨w.heap.size, 2, none⟩ = some v2 ∧ wx.cell? ⟨w.heap.size, 3, none⟩ = some v3 ∧ wx.cell? ⟨w.heap.size, 4, none⟩ = some v4 ∧ wx.cell? ⟨w.heap.size + 1, 0, none⟩ = some u0 ∧ wx.cell? ⟨w.heap.size + 1, 1, none⟩ = some u1 ∧ wx.cell? ⟨w.heap.size + 1, 2, none⟩ = some u2 ∧ wx.cell? ⟨w.heap.size + 1, 3, none⟩ = some u3 ∧ wx.cell? ⟨w.heap.size + 1, 4, none⟩ = some u4 ∧ Hid (Below w.heap.size w wx) ∧ w.heap.size + 2 ≤ wx.heap.size) : wy.cell? ⟨w.heap.size, 0, none⟩ = some v0 ∧ wy.cell? ⟨w.heap.size, 1, none⟩ = some v1 ∧ wy.cell? ⟨w.heap.size, 2, none⟩ = some v2 ∧ wy.cell? ⟨w.heap.size, 3, none⟩ = some v3 ∧ wy.cell? ⟨w.heap.size, 4, none⟩ = some v4 ∧ wy.cell? ⟨w.heap.size + 1, 0, none⟩ = some u0 ∧ wy.cell? ⟨w.heap.size + 1, 1, none⟩ = some u1 ∧ wy.cell? ⟨w.heap.size + 1, 2, none⟩ = some u2 ∧ wy.cell? ⟨w.heap.size + 1, 3, none⟩ = some u3 ∧ wy.cell? ⟨w.heap.size + 1, 4, none⟩ = some u4 ∧ Hid (Below w.heap.size w wy) ∧ w.heap.size + 2 ≤ wy.heap.size := box_below h hb
theorem box_drew {w wx : World} {v0 v1 v2 v3 v4 u0 u1 u2 u3 u4 : Value} (h : wx.cell? ⟨w.heap.size, 0, none⟩ = some v0 ∧ wx.cell? ⟨w.heap.size, 1, none⟩ = some v1 ∧ wx.cell? ⟨w.heap.size, 2, none⟩ = some v2 ∧ wx.cell? ⟨w.heap.size, 3, none⟩ = some v3 ∧ wx.cell? ⟨w.heap.size, 4, none⟩ = some v4 ∧ wx.cell? ⟨w.heap.size + 1, 0, none⟩ = some u0 ∧ wx.cell? ⟨w.heap.size + 1, 1, none⟩ = some u1 ∧ wx.cell? ⟨w.heap.size + 1, 2, none⟩ = some u2 ∧ wx.cell? ⟨w.heap.size + 1, 3, none⟩ = some u3 ∧ wx.cell? ⟨w.heap.size + 1, 4, none⟩ = some u4 ∧ Hid (Below w.heap.size w wx) ∧ w.heap.size + 2 ≤ wx.heap.size) : wx.drew.cell? ⟨w.heap.size, 0, none⟩ = some v0 ∧ wx.drew.cell? ⟨w.heap.size, 1, none⟩ = some v1 ∧ wx.drew.cell? ⟨w.heap.size, 2, none⟩ = some v2 ∧ wx.drew.cell? ⟨w.heap.size, 3, none⟩ = some v3 ∧ wx.drew.cell? ⟨w.heap.size, 4, none⟩ = some v4 ∧ wx.drew.cell? ⟨w.heap.size + 1, 0, none⟩ = some u0 ∧ wx.drew.cell? ⟨w.heap.size + 1, 1, none⟩ = some u1 ∧ wx.drew.cell? ⟨w.heap.size + 1, 2, none⟩ = some u2 ∧ wx.drew.cell? ⟨w.heap.size + 1, 3, none⟩ = some u3 ∧ wx.drew.cell? ⟨w.heap.size + 1, 4, none⟩ = some u4 ∧ Hid (Below w.heap.size w wx.drew) ∧ w.heap.size + 2 ≤ wx.drew.heap.size :=
  box_below h (dr_belowS (Below.refl _ _))

set_option maxRecDepth 100000 in
set_option maxHeartbeats 40000000 in
theorem same_core (w : World) (b : Bool) (k1 n1 k2 n2 : Int) (X1 X2 : ByteArray) (A1 B1 A2 B2 : Option Addr) (l1 c1 m1 d1 l2 c2 m2 d2 : Nat)
    (hL : ∀ w', Below w.heap.size w w' → Calls Tryd.prog 8 #[] w' fun e w'' => e = .returned (.bool true) ∧ Below w'.heap.size w' w'')
    (hZ1 : ∀ w', Below w.heap.size w w' → Calls Tryd.prog 9 #[.agg #[.int .i64 k1, .int .i64 n1, .string X1, .slice A1 l1 c1, .slice B1 m1 d1], .int .i64 2000, .int .i64 0] w' fun e w'' => (∃ z : Int, e = .returned (.int .i64 z)) ∧ Below w'.heap.size w' w'')
    (hZ2 : ∀ w', Below w.heap.size w w' → Calls Tryd.prog 9 #[.agg #[.int .i64 k2, .int .i64 n2, .string X2, .slice A2 l2 c2, .slice B2 m2 d2], .int .i64 2000, .int .i64 0] w' fun e w'' => (∃ z : Int, e = .returned (.int .i64 z)) ∧ Below w'.heap.size w' w'')
    (hS : ∀ w', Below w.heap.size w w' → Calls Tryd.prog 10 #[.agg #[.int .i64 k1, .int .i64 n1, .string X1, .slice A1 l1 c1, .slice B1 m1 d1], .agg #[.int .i64 k2, .int .i64 n2, .string X2, .slice A2 l2 c2, .slice B2 m2 d2]] w' fun e w'' => e = .returned (.bool b) ∧ Below w'.heap.size w' w'')
    (hR : ∀ w', Below w.heap.size w w' → Calls Tryd.prog 11 #[.agg #[.int .i64 k1, .int .i64 n1, .string X1, .slice A1 l1 c1, .slice B1 m1 d1], .agg #[.int .i64 k2, .int .i64 n2, .string X2, .slice A2 l2 c2, .slice B2 m2 d2]] w' fun e w'' => e = .returned (.bool b) ∧ Below w'.heap.size w' w'')
    (hI : ∀ w', Below w.heap.size w w' → Calls Tryd.prog 10 #[.agg #[.int .i64 k1, .int .i64 n1, .string X1, .slice A1 l1 c1, .slice B1 m1 d1], .agg #[.int .i64 k1, .int .i64 n1, .string X1, .slice A1 l1 c1, .slice B1 m1 d1]] w' fun e w'' => e = .returned (.bool true) ∧ Below w'.heap.size w' w'') :
    Calls Tryd.prog 3 #[.agg #[.int .i64 k1, .int .i64 n1, .string X1, .slice A1 l1 c1, .slice B1 m1 d1], .agg #[.int .i64 k2, .int .i64 n2, .string X2, .slice A2 l2 c2, .slice B2 m2 d2]] w fun e w' => e = .returned (.bool true) ∧ Below w.heap.size w w' := by
  have HZ1 := Lib.hid hZ1
  have HZ2 := Lib.hid hZ2
  have HS := Lib.hid hS
  have HR := Lib.hid hR
  have HI := Lib.hid hI
  clear hZ1 hZ2 hS hR hI
  go_enter Tryd.func3, Tryd.ntmps3
  go_wp2_with fail
  refine (hL _ (al2c w _ _)).mono ?_
  rintro e w1 ⟨rfl, hb1⟩
  have HB1 : Hid (Below w.heap.size w w1) := (al2c w _ _).trans (hb1.mono (al2c w _ _).size)
  have hs1 : w.heap.size + 2 ≤ w1.heap.size := by have := hb1.size; simp at this; omega
  have hc1 : ∀ {j : Nat} {v : Value}, (#[Value.int .i64 k1, .int .i64 n1, .string X1, .slice A1 l1 c1, .slice B1 m1 d1] : Array Value)[j]? = some v → w1.cell? ⟨w.heap.size, j, none⟩ = some v := fun {j v} hv => by
    simp only [World.cell?]
    rw [(hb1.block w.heap.size (by simp; omega)).trans ((Below.heap_alloc _ _ _ (by simp)).trans (heap_alloc_new w _))]; exact hv
  have hc2 : ∀ {j : Nat} {v : Value}, (#[Value.int .i64 k2, .int .i64 n2, .string X2, .slice A2 l2 c2, .slice B2 m2 d2] : Array Value)[j]? = some v → w1.cell? ⟨w.heap.size + 1, j, none⟩ = some v := fun {j v} hv => by
    simp only [World.cell?]
    rw [(hb1.block (w.heap.size + 1) (by simp)).trans (heap_alloc_new2 w _ _)]; exact hv
  have a0 := hc1 (j := 0) rfl
  have a1 := hc1 (j := 1) rfl
  have a2 := hc1 (j := 2) rfl
  have a3 := hc1 (j := 3) rfl
  have a4 := hc1 (j := 4) rfl
  have e0 := hc2 (j := 0) rfl
  have e1 := hc2 (j := 1) rfl
  have e2 := hc2 (j := 2) rfl
  have e3 := hc2 (j := 3) rfl
  have e4 := hc2 (j := 4) rfl
  have hz := HZ1.out w1 HB1.out
  clear hL hb1 hc1 hc2
  go_wp2_with fail
  refine hz.mono ?_
  rintro e w2 ⟨⟨z1, rfl⟩, hb2⟩
  have HB2 : Hid (Below w.heap.size w w2) := HB1.out.trans (hb2.mono HB1.out.size)
  have hlt0 : w.heap.size < w1.heap.size := by omega
  have hlt1 : w.heap.size + 1 < w1.heap.size := by omega
  have f0 := (hb2.cell (p := ⟨w.heap.size, 0, none⟩) hlt0).trans a0
  have f1 := (hb2.cell (p := ⟨w.heap.size, 1, none⟩) hlt0).trans a1
  have f2 := (hb2.cell (p := ⟨w.heap.size, 2, none⟩) hlt0).trans a2
  have f3 := (hb2.cell (p := ⟨w.heap.size, 3, none⟩) hlt0).trans a3
  have f4 := (hb2.cell (p := ⟨w.heap.size, 4, none⟩) hlt0).trans a4
  have j0 := (hb2.cell (p := ⟨w.heap.size + 1, 0, none⟩) hlt1).trans e0
  have j1 := (hb2.cell (p := ⟨w.heap.size + 1, 1, none⟩) hlt1).trans e1
  have j2 := (hb2.cell (p := ⟨w.heap.size + 1, 2, none⟩) hlt1).trans e2
  have j3 := (hb2.cell (p := ⟨w.heap.size + 1, 3, none⟩) hlt1).trans e3
  have j4 := (hb2.cell (p := ⟨w.heap.size + 1, 4, none⟩) hlt1).trans e4
  have hs2 := hb2.size
  clear hz hb2 a0 a1 a2 a3 a4 e0 e1 e2 e3 e4
  by_cases hq1 : 2000 < z1
  · have q : decide (2000 < z1) = true := decide_eq_true hq1
    go_wp2
    go_ret
    exact ⟨rfl, HB2.out⟩
  have q : decide (2000 < z1) = false := decide_eq_false hq1
  have hz := HZ2.out w2 HB2.out
  go_wp2_with fail
  refine hz.mono ?_
  rintro e w3 ⟨⟨z2, rfl⟩, hb3⟩
  have HB3 : Hid (Below w.heap.size w w3) := HB2.out.trans (hb3.mono HB2.out.size)
  have hlt2 : w.heap.size < w2.heap.size := by omega
  have hlt3 : w.heap.size + 1 < w2.heap.size := by omega
  have a0 := (hb3.cell (p := ⟨w.heap.size, 0, none⟩) hlt2).trans f0
  have a1 := (hb3.cell (p := ⟨w.heap.size, 1, none⟩) hlt2).trans f1
  have a2 := (hb3.cell (p := ⟨w.heap.size, 2, none⟩) hlt2).trans f2
  have a3 := (hb3.cell (p := ⟨w.heap.size, 3, none⟩) hlt2).trans f3
  have a4 := (hb3.cell (p := ⟨w.heap.size, 4, none⟩) hlt2).trans f4
  have e0 := (hb3.cell (p := ⟨w.heap.size + 1, 0, none⟩) hlt3).trans j0
  have e1 := (hb3.cell (p := ⟨w.heap.size + 1, 1, none⟩) hlt3).trans j1
  have e2 := (hb3.cell (p := ⟨w.heap.size + 1, 2, none⟩) hlt3).trans j2
  have e3 := (hb3.cell (p := ⟨w.heap.size + 1, 3, none⟩) hlt3).trans j3
  have e4 := (hb3.cell (p := ⟨w.heap.size + 1, 4, none⟩) hlt3).trans j4
  have hs3 := hb3.size
  clear hz hb3 f0 f1 f2 f3 f4 j0 j1 j2 j3 j4
  by_cases hq2 : 2000 < z2
  · have q2 : decide (2000 < z2) = true := decide_eq_true hq2
    go_wp2
    go_ret
    exact ⟨rfl, HB3.out⟩
  have q2 : decide (2000 < z2) = false := decide_eq_false hq2
  have hsz : w.heap.size + 2 ≤ w3.heap.size := by omega
  cases b
  · go_wp2_with fail
    have hB0 : w3.cell? ⟨w.heap.size, 0, none⟩ = some (.int .i64 k1) ∧ w3.cell? ⟨w.heap.size, 1, none⟩ = some (.int .i64 n1) ∧ w3.cell? ⟨w.heap.size, 2, none⟩ = some (.string X1) ∧ w3.cell? ⟨w.heap.size, 3, none⟩ = some (.slice A1 l1 c1) ∧ w3.cell? ⟨w.heap.size, 4, none⟩ = some (.slice B1 m1 d1) ∧ w3.cell? ⟨w.heap.size + 1, 0, none⟩ = some (.int .i64 k2) ∧ w3.cell? ⟨w.heap.size + 1, 1, none⟩ = some (.int .i64 n2) ∧ w3.cell? ⟨w.heap.size + 1, 2, none⟩ = some (.string X2) ∧ w3.cell? ⟨w.heap.size + 1, 3, none⟩ = some (.slice A2 l2 c2) ∧ w3.cell? ⟨w.heap.size + 1, 4, none⟩ = some (.slice B2 m2 d2) ∧ Hid (Below w.heap.size w w3) ∧ w.heap.size + 2 ≤ w3.heap.size := ⟨a0, a1, a2, a3, a4, e0, e1, e2, e3, e4, HB3, hsz⟩
    clear a0 a1 a2 a3 a4 e0 e1 e2 e3 e4 hs1 hs2 hs3 hlt0 hlt1 hlt2 hlt3 HZ1 HZ2 q q2 hq1 hq2
    go_region_held3 (fun w' => w'.cell? ⟨w.heap.size, 0, none⟩ = some (.int .i64 k1) ∧ w'.cell? ⟨w.heap.size, 1, none⟩ = some (.int .i64 n1) ∧ w'.cell? ⟨w.heap.size, 2, none⟩ = some (.string X1) ∧ w'.cell? ⟨w.heap.size, 3, none⟩ = some (.slice A1 l1 c1) ∧ w'.cell? ⟨w.heap.size, 4, none⟩ = some (.slice B1 m1 d1) ∧ w'.cell? ⟨w.heap.size + 1, 0, none⟩ = some (.int .i64 k2) ∧ w'.cell? ⟨w.heap.size + 1, 1, none⟩ = some (.int .i64 n2) ∧ w'.cell? ⟨w.heap.size + 1, 2, none⟩ = some (.string X2) ∧ w'.cell? ⟨w.heap.size + 1, 3, none⟩ = some (.slice A2 l2 c2) ∧ w'.cell? ⟨w.heap.size + 1, 4, none⟩ = some (.slice B2 m2 d2) ∧ Hid (Below w.heap.size w w') ∧ w.heap.size + 2 ≤ w'.heap.size) (with_reducible (first | exact box_drew (by assumption) | exact box_below2 (by assumption) (by assumption) | assumption))
      (first
        | (go_at_call 11; with_reducible refine (HR.out _ (by first | exact box_b (by assumption) | exact dr_belowS (box_b (by assumption)))).mono ?_; rintro e w4 ⟨rfl, hb4⟩)
        | (go_at_call 10; with_reducible refine (HS.out _ (by first | exact box_b (by assumption) | exact dr_belowS (box_b (by assumption)))).mono ?_; rintro e w4 ⟨rfl, hb4⟩)
        | (go_at_call 10; with_reducible refine (HI.out _ (by first | exact box_b (by assumption) | exact dr_belowS (box_b (by assumption)))).mono ?_; rintro e w4 ⟨rfl, hb4⟩))
    all_goals go_wp2
    all_goals go_ret
    all_goals exact ⟨rfl, box_b (by assumption)⟩
  · go_wp2_with fail
    have hB0 : w3.cell? ⟨w.heap.size, 0, none⟩ = some (.int .i64 k1) ∧ w3.cell? ⟨w.heap.size, 1, none⟩ = some (.int .i64 n1) ∧ w3.cell? ⟨w.heap.size, 2, none⟩ = some (.string X1) ∧ w3.cell? ⟨w.heap.size, 3, none⟩ = some (.slice A1 l1 c1) ∧ w3.cell? ⟨w.heap.size, 4, none⟩ = some (.slice B1 m1 d1) ∧ w3.cell? ⟨w.heap.size + 1, 0, none⟩ = some (.int .i64 k2) ∧ w3.cell? ⟨w.heap.size + 1, 1, none⟩ = some (.int .i64 n2) ∧ w3.cell? ⟨w.heap.size + 1, 2, none⟩ = some (.string X2) ∧ w3.cell? ⟨w.heap.size + 1, 3, none⟩ = some (.slice A2 l2 c2) ∧ w3.cell? ⟨w.heap.size + 1, 4, none⟩ = some (.slice B2 m2 d2) ∧ Hid (Below w.heap.size w w3) ∧ w.heap.size + 2 ≤ w3.heap.size := ⟨a0, a1, a2, a3, a4, e0, e1, e2, e3, e4, HB3, hsz⟩
    clear a0 a1 a2 a3 a4 e0 e1 e2 e3 e4 hs1 hs2 hs3 hlt0 hlt1 hlt2 hlt3 HZ1 HZ2 q q2 hq1 hq2
    go_region_held3 (fun w' => w'.cell? ⟨w.heap.size, 0, none⟩ = some (.int .i64 k1) ∧ w'.cell? ⟨w.heap.size, 1, none⟩ = some (.int .i64 n1) ∧ w'.cell? ⟨w.heap.size, 2, none⟩ = some (.string X1) ∧ w'.cell? ⟨w.heap.size, 3, none⟩ = some (.slice A1 l1 c1) ∧ w'.cell? ⟨w.heap.size, 4, none⟩ = some (.slice B1 m1 d1) ∧ w'.cell? ⟨w.heap.size + 1, 0, none⟩ = some (.int .i64 k2) ∧ w'.cell? ⟨w.heap.size + 1, 1, none⟩ = some (.int .i64 n2) ∧ w'.cell? ⟨w.heap.size + 1, 2, none⟩ = some (.string X2) ∧ w'.cell? ⟨w.heap.size + 1, 3, none⟩ = some (.slice A2 l2 c2) ∧ w'.cell? ⟨w.heap.size + 1, 4, none⟩ = some (.slice B2 m2 d2) ∧ Hid (Below w.heap.size w w') ∧ w.heap.size + 2 ≤ w'.heap.size) (with_reducible (first | exact box_drew (by assumption) | exact box_below2 (by assumption) (by assumption) | assumption))
      (first
        | (go_at_call 11; with_reducible refine (HR.out _ (by first | exact box_b (by assumption) | exact dr_belowS (box_b (by assumption)))).mono ?_; rintro e w4 ⟨rfl, hb4⟩)
        | (go_at_call 10; with_reducible refine (HS.out _ (by first | exact box_b (by assumption) | exact dr_belowS (box_b (by assumption)))).mono ?_; rintro e w4 ⟨rfl, hb4⟩)
        | (go_at_call 10; with_reducible refine (HI.out _ (by first | exact box_b (by assumption) | exact dr_belowS (box_b (by assumption)))).mono ?_; rintro e w4 ⟨rfl, hb4⟩))
    all_goals go_wp2
    all_goals go_ret
    all_goals exact ⟨rfl, box_b (by assumption)⟩
end Go.Proofs.YtlaagdpanbineaaDoor

