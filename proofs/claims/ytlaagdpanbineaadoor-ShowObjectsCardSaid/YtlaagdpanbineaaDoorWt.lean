/- show.Text of a value in memory. -/
import Derived.Test.YtlaagdpanbineaaDoorWr
namespace Go.Proofs.YtlaagdpanbineaaDoor
open Go.RowKit

theorem wis_new (w : World) : WIs w.heap.size w.heap.size (Lib.byteCells []) (w.alloc (.cells #[.pointer none, .slice none 0 0] 65)) :=
  .inl ⟨Nat.le_refl _, .slice none 0 0, heap_alloc_new w _, World.ownsRowF_nil _ _ _ _, by simp [Value.ownBlock]⟩

set_option maxRecDepth 100000 in
set_option maxHeartbeats 2000000 in
theorem Text_yes (h : Nat) (ok : Nat → Prop) (t : NT) (v : Value) (w : World) (hN : NIs ok h w t v) (hr : rgt 0 t) (hc : cnt t ≤ 20000) (hs : szT t ≤ 200000) (hi : okInt t) (hC : CondE w) :
    Calls Tryd.prog 19 #[v] w fun e w' => e = .returned (.tuple #[.string ⟨(showT t).toArray⟩, .nilIface]) ∧ Below w.heap.size w w' := by
  have hR := fun W (hb : Below w.heap.size w W) => Right_any h ok t v W (hN.below hb) (by omega) hi (hC.below hb).tabs
  have hV := fun w1 (hb : Below w.heap.size w w1) => value_w h ok t v 0 w1.heap.size [] w1 (w1.alloc (.cells #[.pointer none, .slice none 0 0] 65)) (hN.below hb) hr hs (hC.below hb) (al0 w1 _) (wis_new w1) (by simp; omega)
  have hne : showT t ≠ [] := by
    obtain ⟨x, u, hx, _⟩ := showT_head hr
    rw [hx]; simp
  obtain ⟨k1, n1, x1, A1, l1, c1, B1, m1, d1, rfl⟩ := hN.nd
  obtain ⟨Y, hY⟩ : ∃ Y, (⟨x1.toArray⟩ : ByteArray) = Y := ⟨_, rfl⟩
  rw [hY] at hR hV ⊢
  have HR := Lib.hid hR
  have HV := Lib.hid hV
  have HRC := Lib.hid (And.intro hr hc)
  have HNE := Lib.hid hne
  have hT := fun W b (hw : WIs W.heap.size b (Lib.byteCells ([] ++ showT t)) W) => (show ([] ++ showT t) = showT t from rfl)
  clear hR hV hN hr hc hs hi hC hY hne hT
  go_enter Tryd.func19, Tryd.ntmps19
  have hR1 := HR.out (w.alloc (.cells #[.int .i64 k1, .int .i64 n1, .string Y, .slice A1 l1 c1, .slice B1 m1 d1] 25)) (al0 w _)
  go_wp2_with fail
  refine hR1.mono ?_
  rintro e w1 ⟨⟨b, rfl, hb⟩, hb1⟩
  obtain rfl : b = true := hb.2 HRC.out
  have HB1 : Hid (Below w.heap.size w w1) := (al0 w _).trans (hb1.mono (by simp))
  have HX1 : Hid (Blk w1 w.heap.size (.int .i64 k1) (.int .i64 n1) (.string Y) (.slice A1 l1 c1) (.slice B1 m1 d1)) := (hb1.block _ (by simp)).trans (heap_alloc_new w _)
  have hxl := HX1.out.lt
  have HX2 : Hid (∀ o, Blk (w1.alloc o) w.heap.size (.int .i64 k1) (.int .i64 n1) (.string Y) (.slice A1 l1 c1) (.slice B1 m1 d1)) := fun o => ((al0 w1 o).block _ hxl).trans HX1.out
  clear hR1 hb hb1 HX1
  have hc := HV.out w1 HB1.out
  have x0 := fun o => (HX2.out o).cell 0 (by omega)
  have x1' := fun o => (HX2.out o).cell 1 (by omega)
  have x2 := fun o => (HX2.out o).cell 2 (by omega)
  have x3 := fun o => (HX2.out o).cell 3 (by omega)
  have x4 := fun o => (HX2.out o).cell 4 (by omega)
  go_wp2_with fail
  refine hc.mono ?_
  rintro e w2 ⟨rfl, hW2, hb2⟩
  have HB2 : Hid (Below w.heap.size w w2) := HB1.out.trans (((al0 w1 _).trans hb2).mono HB1.out.size)
  have hS := wtext w1.heap.size w1.heap.size (showT t) w2 hW2 HNE.out
  clear hc hW2 x0 x1' x2 x3 x4
  go_wp2_with fail
  refine hS.mono ?_
  rintro e w3 ⟨rfl, hb3⟩
  go_wp2
  go_ret2
  exact ⟨rfl, HB2.out.trans (hb3.mono HB1.out.size)⟩

set_option maxRecDepth 100000 in
set_option maxHeartbeats 2000000 in
theorem Text_no (h : Nat) (ok : Nat → Prop) (t : NT) (v : Value) (w : World) (a : Addr) (hN : NIs ok h w t v) (hr : ¬ (rgt 0 t ∧ cnt t ≤ 20000)) (hs : szT t ≤ 200000) (hi : okInt t) (hC : CondE w) (hE : w.cell? ⟨5, 0, none⟩ = some (.iface 164 (.pointer (some a)))) :
    Calls Tryd.prog 19 #[v] w fun e w' => e = .returned (.tuple #[.string ⟨#[]⟩, .iface 164 (.pointer (some a))]) ∧ Below w.heap.size w w' := by
  have hR := fun W (hb : Below w.heap.size w W) => Right_any h ok t v W (hN.below hb) (by omega) hi (hC.below hb).tabs
  have hel := World.block_lt_of_cell? w _ hE
  have hE2 := fun W (hb : Below w.heap.size w W) => (hb.cell (p := ⟨5, 0, none⟩) hel).trans hE
  obtain ⟨k1, n1, x1, A1, l1, c1, B1, m1, d1, rfl⟩ := hN.nd
  obtain ⟨Y, hY⟩ : ∃ Y, (⟨x1.toArray⟩ : ByteArray) = Y := ⟨_, rfl⟩
  rw [hY] at hR ⊢
  have HR := Lib.hid hR
  have HE := Lib.hid hE2
  have HRC := Lib.hid hr
  clear hR hN hr hs hi hC hY hE hE2 hel
  go_enter Tryd.func19, Tryd.ntmps19
  have hR1 := HR.out (w.alloc (.cells #[.int .i64 k1, .int .i64 n1, .string Y, .slice A1 l1 c1, .slice B1 m1 d1] 25)) (al0 w _)
  go_wp2_with fail
  refine hR1.mono ?_
  rintro e w1 ⟨⟨b, rfl, hb⟩, hb1⟩
  have hbf : b = false := by
    cases b with
    | false => rfl
    | true => exact absurd (hb.1 rfl) HRC.out
  subst hbf
  have HB1 : Hid (Below w.heap.size w w1) := (al0 w _).trans (hb1.mono (by simp))
  have ce := HE.out w1 HB1.out
  clear hR1 hb hb1
  go_wp2
  go_quiet (fail)
  go_wp2
  go_ret2
  exact ⟨rfl, below_drewN HB1.out _⟩

end Go.Proofs.YtlaagdpanbineaaDoor

