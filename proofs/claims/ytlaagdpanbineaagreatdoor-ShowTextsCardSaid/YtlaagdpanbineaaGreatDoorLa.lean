/- The laws of JSON: their first lines: the chapter's examples. -/
import Derived.Test.YtlaagdpanbineaaGreatDoorGh
namespace Go.Proofs.YtlaagdpanbineaaGreatDoor
open Go.RowKit
open I2 (errVal errVal_some errVal_none)

def exA : ByteArray := ⟨#[91, 49, 44, 32, 123, 34, 97, 34, 58, 32, 110, 117, 108, 108, 125, 93]⟩
def exB : ByteArray := ⟨#[123, 34, 97, 34, 58, 49, 44, 34, 97, 34, 58, 50, 125]⟩
theorem exA_eq : pText exA.data.toList = .ok (.mk 6 0 [] [] [.mk 4 1 [] [] [], .mk 7 0 [] [[97]] [.mk 1 0 [] [] []]]) := by kernel_rfl
theorem exB_eq : pText exB.data.toList = .bad 5 := by kernel_rfl

theorem exA_parse (w : World) (A : Nat → Addr) (hC : Cond w A) : Calls Tryz.prog 6 #[.string exA] w fun e w' => ∃ A1 c0 b off c1 A2 c2, e = .returned (.tuple #[.agg #[.int .i64 6, .int .i64 0, .string ⟨#[]⟩, .slice A1 0 c0, .slice (some ⟨b, off, none⟩) 2 c1], .nilIface]) ∧
    w'.cell? ⟨b, off + 1, none⟩ = some (.int .i64 1) ∧ w'.cell? ⟨b, off + 8, none⟩ = some (.slice A2 1 c2) ∧ b < w'.heap.size ∧ Below w.heap.size w w' := by
  refine (parse_any exA w A hC (by decide)).mono ?_
  intro e w' h
  unfold ParsePost at h
  rw [exA_eq] at h
  obtain ⟨L, rfl, hN, hb⟩ := h
  obtain ⟨kv, S, c1, hL, ⟨A1, c0, rfl, _⟩, hk⟩ := hN
  rcases hk with hk | ⟨b, off, rfl, _, hbl, hc⟩
  · cases hk
  obtain ⟨x0, x1, x2, x3, x4, e0, e1, e2, e3, e4, hN0⟩ := hc 0 (by simp)
  obtain ⟨y0, y1, y2, y3, y4, g0, g1, g2, g3, g4, hN1⟩ := hc 1 (by simp)
  obtain ⟨kv0, S0, d0, hx, _⟩ := hN0
  obtain ⟨kv1, S1, d1, hy, ⟨A2, c2, hkv, _⟩, _⟩ := hN1
  simp only [litV, Value.agg.injEq, Array.mk.injEq, List.cons.injEq, and_true] at hx hy
  refine ⟨A1, c0, b, off, c1, A2, c2, ?_, ?_, ?_, hbl, hb⟩
  · rw [hL]; rfl
  · rw [show off + 5 * 0 + 1 = off + 1 from rfl, hx.2.1] at e1
    exact e1
  · rw [show off + 5 * 1 + 3 = off + 8 from rfl, hy.2.2.2.1, hkv] at g3
    exact g3
theorem exB_parse (w : World) (A : Nat → Addr) (hC : Cond w A) : Calls Tryz.prog 6 #[.string exB] w fun e w' => e = .returned (.tuple #[.agg #[.int .i64 0, .int .i64 0, .string ⟨#[]⟩, .slice none 0 0, .slice none 0 0], .iface 172 (.pointer (some (A 4)))]) ∧ Below w.heap.size w w' := by
  refine (parse_any exB w A hC (by decide)).mono ?_
  intro e w' h
  unfold ParsePost at h
  rw [exB_eq] at h
  exact ⟨h.2.1, h.2.2⟩

set_option maxRecDepth 100000 in
set_option maxHeartbeats 2000000 in
theorem alive_any (w : World) (A : Nat → Addr) (hCN : CondN w A) :
    Calls Tryz.prog 5 #[] w fun e w' => e = .returned (.bool true) ∧ Below w.heap.size w w' := by
  have hC := hCN.c
  have HE := Lib.hid hCN.e
  clear hCN
  have hP := exA_parse w A hC
  have HC := Lib.hid hC
  have hnl := fun (w : World) => @run_eql_nil_nil_at Tryz.prog w 28 (by kernel_rfl)
  unfold exA at hP
  clear hC
  go_enter Tryz.func5, Tryz.ntmps5
  go_wp2_with fail
  refine hP.mono ?_
  rintro e w1 ⟨A1, d0, b, off, d1, A2, d2, rfl, hc1, hc8, hbl, hb1⟩
  have HB1 := Lib.hid hb1
  have hC1 := HC.out.below hb1
  clear hP hb1
  go_upto_region 2 with fail
  refine wp_gen (fun w2 => Hid (Below w.heap.size w w2) ∧ Hid (Cond w2 A) ∧ Hid (Blk w2 w1.heap.size (.int .i64 6) (.int .i64 0) (.string ⟨#[]⟩) (.slice A1 0 d0) (.slice (some ⟨b, off, none⟩) 2 d1)) ∧ w2.cell? ⟨b, off + 1, none⟩ = some (.int .i64 1) ∧ w2.cell? ⟨b, off + 8, none⟩ = some (.slice A2 1 d2) ∧ b < w2.heap.size) ?_ ?_
  · have hba : ∀ o, Below w1.heap.size w1 (w1.alloc o) := fun o => (Below.refl _ _).alloc (Nat.le_refl _) _
    refine ⟨HB1.out.trans ((hba _).mono HB1.out.size), hC1.below (hba _), heap_alloc_new w1 _, ((hba _).cell (p := ⟨b, off + 1, none⟩) hbl).trans hc1, ((hba _).cell (p := ⟨b, off + 8, none⟩) hbl).trans hc8, by simp; omega⟩
  clear hc1 hc8 hbl hC1
  rintro w2 ⟨HB2, HC2, HX2, hc1, hc8, hbl⟩
  have hQ := exB_parse w2 A HC2.out
  unfold exB at hQ
  go_wp2_with fail
  refine hQ.mono ?_
  rintro e w3 ⟨rfl, hb3⟩
  have HB3 := Lib.hid hb3
  have hxl := HX2.out.lt
  go_upto_region 3 with fail
  refine wp_gen (fun w4 => Hid (Below w.heap.size w w4) ∧ Hid (Cond w4 A) ∧ Hid (Blk w4 w1.heap.size (.int .i64 6) (.int .i64 0) (.string ⟨#[]⟩) (.slice A1 0 d0) (.slice (some ⟨b, off, none⟩) 2 d1)) ∧ w4.cell? ⟨b, off + 1, none⟩ = some (.int .i64 1) ∧ w4.cell? ⟨b, off + 8, none⟩ = some (.slice A2 1 d2)) ?_ ?_
  · have hba : ∀ o, Below w2.heap.size w2 (w3.alloc o) := fun o => HB3.out.alloc (HB3.out.size) _
    refine ⟨HB2.out.trans ((hba _).mono HB2.out.size), HC2.out.below (hba _), ((hba _).block _ hxl).trans HX2.out, ((hba _).cell (p := ⟨b, off + 1, none⟩) hbl).trans hc1, ((hba _).cell (p := ⟨b, off + 8, none⟩) hbl).trans hc8⟩
  clear hc1 hc8 hbl hQ hb3
  rintro w4 ⟨HB4, HC4, HX4, hc1, hc8⟩
  have hN := num_any A w4 (HE.out.below HB4.out) 4 (by omega)
  have x0 := HX4.out.cell 0 (by omega)
  have x4 := HX4.out.cell 4 (by omega)
  go_wp2_with fail
  refine hN.mono ?_
  rintro e w5 ⟨rfl, hb5⟩
  go_wp2
  go_ret
  exact ⟨rfl, HB4.out.trans (hb5.mono HB4.out.size)⟩

end Go.Proofs.YtlaagdpanbineaaGreatDoor

/- json.Parse's answer, its shape written out. -/
namespace Go.Proofs.YtlaagdpanbineaaGreatDoor
open Go.RowKit
open I2 (errVal errVal_some errVal_none)

theorem ba_app (a b : ByteArray) : (a ++ b).data.toList = a.data.toList ++ b.data.toList := by simp

/-- a parse that answers a value, its shape written out -/
theorem parse_ok (s : ByteArray) (w : World) (A : Nat → Addr) (hC : Cond w A) (hs : s.size ≤ 200000) {t : NT} (hp : pText s.data.toList = .ok t) :
    Calls Tryz.prog 6 #[.string s] w fun e w' => ∃ (k n : Int) (x : List UInt8) (A1 : Option Addr) (l1 c1 : Nat) (A2 : Option Addr) (l2 c2 : Nat), e = .returned (.tuple #[.agg #[.int .i64 k, .int .i64 n, .string ⟨x.toArray⟩, .slice A1 l1 c1, .slice A2 l2 c2], .nilIface]) ∧
      Hid (NIs (fun b => w.heap.size ≤ b) 33 w' t (.agg #[.int .i64 k, .int .i64 n, .string ⟨x.toArray⟩, .slice A1 l1 c1, .slice A2 l2 c2])) ∧ Hid (Below w.heap.size w w') := by
  refine (parse_any s w A hC hs).mono ?_
  intro e w' h
  unfold ParsePost at h
  rw [hp] at h
  obtain ⟨L, rfl, hN, hb⟩ := h
  obtain ⟨k, n, x, A1, l1, c1, A2, l2, c2, hv⟩ := hN.nd
  rw [hv] at hN ⊢
  exact ⟨k, n, x, A1, l1, c1, A2, l2, c2, rfl, hN, hb⟩
theorem parse_bad (s : ByteArray) (w : World) (A : Nat → Addr) (hC : Cond w A) (hs : s.size ≤ 200000) {e0 : Nat} (hp : pText s.data.toList = .bad e0) :
    Calls Tryz.prog 6 #[.string s] w fun e w' => e = .returned (.tuple #[.agg #[.int .i64 0, .int .i64 0, .string ⟨#[]⟩, .slice none 0 0, .slice none 0 0], .iface 172 (.pointer (some (A (e0 - 1))))]) ∧ Hid (Below w.heap.size w w') := by
  refine (parse_any s w A hC hs).mono ?_
  intro e w' h
  unfold ParsePost at h
  rw [hp] at h
  exact ⟨h.2.1, h.2.2⟩

end Go.Proofs.YtlaagdpanbineaaGreatDoor

