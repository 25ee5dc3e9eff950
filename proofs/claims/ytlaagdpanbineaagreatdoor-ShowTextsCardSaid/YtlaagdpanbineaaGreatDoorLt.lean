/- ShowTexts' walk. -/
import Derived.Test.YtlaagdpanbineaaGreatDoorWa
import Derived.Test.YtlaagdpanbineaaGreatDoorLa
import Derived.Test.YtlaagdpanbineaaGreatDoorRr
import Derived.Test.YtlaagdpanbineaaGreatDoorRt
import Derived.Test.YtlaagdpanbineaaGreatDoorPz
namespace Go.Proofs.YtlaagdpanbineaaGreatDoor
open Go.RowKit
open I2 (errVal errVal_some errVal_none)

mutual
theorem cnt_sz : ∀ t : NT, cnt t ≤ szT t
  | .mk k n tx ks kids => by
    have := cnt_szL2 kids
    simp only [cnt, szT]; omega
termination_by t => SizeOf.sizeOf t
theorem cnt_szL2 : ∀ l : List NT, cntL l ≤ szL l
  | [] => by simp [cntL, szL]
  | a :: l => by
    have h1 := cnt_sz a
    have h2 := cnt_szL2 l
    simp only [cntL, szL]; omega
termination_by l => SizeOf.sizeOf l
end
/-- what the row lists, at a world -/
structure CondT (w : World) (A : Nat → Addr) : Prop where
  n : CondN w A
  e : CondE w
theorem CondT.below {w w' : World} {A : Nat → Addr} (h : CondT w A) (hb : Below w.heap.size w w') : CondT w' A := ⟨h.n.below hb, h.e.below hb⟩

set_option maxRecDepth 100000 in
set_option maxHeartbeats 8000000 in
theorem law_texts (w : World) (A : Nat → Addr) (hC : CondT w A) (g : Nat) (t : NT) (kd nn : Int) (Y : ByteArray) (S1 : Option Addr) (l1 c1 : Nat) (S2 : Option Addr) (l2 c2 : Nat)
    (hN : NIs (fun _ => True) g w t (.agg #[.int .i64 kd, .int .i64 nn, .string Y, .slice S1 l1 c1, .slice S2 l2 c2])) (hcap : KCap w.heap.size g w t (.agg #[.int .i64 kd, .int .i64 nn, .string Y, .slice S1 l1 c1, .slice S2 l2 c2])) (ho : okLen t) (hi : okInt t) :
    Calls Tryz.prog 4 #[.agg #[.int .i64 kd, .int .i64 nn, .string Y, .slice S1 l1 c1, .slice S2 l2 c2]] w fun e w' => e = .returned (.bool true) ∧ Below w.heap.size w w' := by
  have hN2 : NIs (fun b => b < w.heap.size) g w t (.agg #[.int .i64 kd, .int .i64 nn, .string Y, .slice S1 l1 c1, .slice S2 l2 c2]) := hN.kept (Nat.le_refl _) (fun b _ hlt => ⟨hlt, rfl⟩)
  have HC := Lib.hid hC
  have HN := Lib.hid hN2
  have HK := Lib.hid hcap
  have HO := Lib.hid ho
  have HI := Lib.hid hi
  clear hC hN hN2 hcap ho hi
  have hnl := fun (w : World) => @run_neq_nil_nil_at Tryz.prog w 28 (by kernel_rfl)
  have hne := fun (w : World) => @run_eql_nil_nil_at Tryz.prog w 28 (by kernel_rfl)
  go_enter Tryz.func4, Tryz.ntmps4
  go_upto_region 1 with fail
  refine wp_gen (fun w1 => Hid (Below w.heap.size w w1) ∧ Hid (Blk w1 w.heap.size (.int .i64 kd) (.int .i64 nn) (.string Y) (.slice S1 l1 c1) (.slice S2 l2 c2))) ⟨al0 w _, heap_alloc_new w _⟩ ?_
  intro w1 ⟨HB1, HX1⟩
  have hl0 := alive5_any w1 (HC.out.below HB1.out).e
  go_wp2_with fail
  refine hl0.mono ?_
  rintro e w2 ⟨rfl, hb2⟩
  have HB2 : Hid (Below w.heap.size w w2) := HB1.out.trans (hb2.mono HB1.out.size)
  have HX2 := Lib.hid (HX1.out.at hb2)
  clear hl0 hb2 HB1 HX1
  have u0 := HX2.out.cell 0 (by omega)
  have u1 := HX2.out.cell 1 (by omega)
  have u2 := HX2.out.cell 2 (by omega)
  have u3 := HX2.out.cell 3 (by omega)
  have u4 := HX2.out.cell 4 (by omega)
  have hz := size2_any g _ t _ w2 2000 0 (HN.out.below HB2.out) HO.out (by omega) (by omega)
  go_wp2_with fail
  refine hz.mono ?_
  rintro e w3 ⟨⟨z, rfl, z0, z1, hzt⟩, hb3⟩
  have HB3 : Hid (Below w.heap.size w w3) := HB2.out.trans (hb3.mono HB2.out.size)
  have HX3 := Lib.hid (HX2.out.at hb3)
  clear hz hb3 u0 u1 u2 u3 u4 HB2 HX2
  by_cases hz3 : 2000 < z
  · have q : decide (2000 < z) = true := decide_eq_true hz3
    go_wp2
    go_ret
    exact ⟨rfl, HB3.out⟩
  have q : decide (2000 < z) = false := decide_eq_false hz3
  have hsz : szT t ≤ 2000 := by have := hzt (by omega); omega
  have hcn := cnt_sz t
  clear hzt hz3
  have u0 := HX3.out.cell 0 (by omega)
  have u1 := HX3.out.cell 1 (by omega)
  have u2 := HX3.out.cell 2 (by omega)
  have u3 := HX3.out.cell 3 (by omega)
  have u4 := HX3.out.cell 4 (by omega)
  by_cases hr : rgt 0 t
  · -- a right value
    have hsl := show_len 0 t hr
    have hst := show_text hr (by omega) (by omega)
    obtain ⟨Z, hZ⟩ : ∃ Z : ByteArray, (⟨(showT t).toArray⟩ : ByteArray) = Z := ⟨_, rfl⟩
    have hZl : Z.data.toList = showT t := by rw [← hZ]
    have hZs : Z.size ≤ 200000 := by rw [← size_list, hZl]; omega
    have t1 := Text_yes g _ t _ w3 (HN.out.below HB3.out) hr (by omega) (by omega) HI.out (HC.out.below HB3.out).e
    rw [hZ] at t1
    have HZ := Lib.hid hZ
    have HZL := Lib.hid hZl
    have HST := Lib.hid hst
    have HR := Lib.hid hr
    clear hZ hZl hst hsl hr
    go_wp2_with fail
    refine t1.mono ?_
    rintro e w4 ⟨rfl, hb4⟩
    have HB4 : Hid (Below w.heap.size w w4) := HB3.out.trans (hb4.mono HB3.out.size)
    have HX4 := Lib.hid (HX3.out.at hb4)
    clear t1 hb4 u0 u1 u2 u3 u4 HB3 HX3
    have u0 := HX4.out.cell 0 (by omega)
    have u1 := HX4.out.cell 1 (by omega)
    have u2 := HX4.out.cell 2 (by omega)
    have u3 := HX4.out.cell 3 (by omega)
    have u4 := HX4.out.cell 4 (by omega)
    have t2 := rright_any w.heap.size g t _ 0 w4 (HN.out.below HB4.out) (HK.out.at (Nat.le_refl _) HB4.out) HB4.out.size (by omega) HI.out (by omega)
    go_wp2_with fail
    refine t2.mono ?_
    rintro e w5 ⟨⟨b, rfl, hb⟩, hb5⟩
    obtain rfl : b = true := hb.2 HR.out
    have HB5 : Hid (Below w.heap.size w w5) := HB4.out.trans (hb5.mono HB4.out.size)
    have HX5 := Lib.hid (HX4.out.at hb5)
    clear t2 hb hb5 u0 u1 u2 u3 u4 HB4 HX4
    have u0 := HX5.out.cell 0 (by omega)
    have u1 := HX5.out.cell 1 (by omega)
    have u2 := HX5.out.cell 2 (by omega)
    have u3 := HX5.out.cell 3 (by omega)
    have u4 := HX5.out.cell 4 (by omega)
    have t3 := rtext5_any g _ t _ 0 w5 (HN.out.below HB5.out) HR.out (by omega)
    rw [HZ.out] at t3
    go_wp2_with fail
    refine t3.mono ?_
    rintro e w6 ⟨rfl, hb6⟩
    have HB6 : Hid (Below w.heap.size w w6) := HB5.out.trans (hb6.mono HB5.out.size)
    have HX6 := Lib.hid (HX5.out.at hb6)
    clear t3 hb6 u0 u1 u2 u3 u4 HB5 HX5
    have p2 := parse_ok Z w6 A (HC.out.below HB6.out).n.c hZs (by rw [HZL.out]; exact HST.out)
    go_wp2_with fail
    refine p2.mono ?_
    rintro e w7 ⟨k2, n2, x2, A2, m2, d2, B2, m3, d3, rfl, HM7, HB7⟩
    clear p2
    have HB7' : Hid (Below w.heap.size w w7) := HB6.out.trans (HB7.out.mono HB6.out.size)
    have HX7 := Lib.hid (HX6.out.at HB7.out)
    clear HB6 HX6 HB7
    go_upto_region 11 with fail
    refine wp_gen (fun w8 => Hid (Below w.heap.size w w8) ∧ Hid (Blk w8 w.heap.size (.int .i64 kd) (.int .i64 nn) (.string Y) (.slice S1 l1 c1) (.slice S2 l2 c2)) ∧ Hid (Blk w8 w7.heap.size (.int .i64 k2) (.int .i64 n2) (.string ⟨x2.toArray⟩) (.slice A2 m2 d2) (.slice B2 m3 d3)) ∧ Hid (NIs (fun b => w6.heap.size ≤ b) 33 w8 t (.agg #[.int .i64 k2, .int .i64 n2, .string ⟨x2.toArray⟩, .slice A2 m2 d2, .slice B2 m3 d3]))) ⟨HB7'.out.alloc HB7'.out.size _, ?_, heap_alloc_new w7 _, HM7.out.below (al0 w7 _)⟩ ?_
    · exact (Below.heap_alloc w7 _ _ HX7.out.lt).trans HX7.out
    rintro w8 ⟨HB8, HX8, HV8, HM8⟩
    clear HX7 HM7 HB7'
    have u0 := HX8.out.cell 0 (by omega)
    have u1 := HX8.out.cell 1 (by omega)
    have u2 := HX8.out.cell 2 (by omega)
    have u3 := HX8.out.cell 3 (by omega)
    have u4 := HX8.out.cell 4 (by omega)
    have v0 := HV8.out.cell 0 (by omega)
    have v1 := HV8.out.cell 1 (by omega)
    have v2 := HV8.out.cell 2 (by omega)
    have v3 := HV8.out.cell 3 (by omega)
    have v4 := HV8.out.cell 4 (by omega)
    have ps := ref_any (max 33 g) _ _ t t _ _ w8 (HM8.out.mono (Nat.le_max_left _ _)) ((HN.out.below HB8.out).mono (Nat.le_max_right _ _)) HO.out HO.out
    rw [eqT_self] at ps
    go_wp2_with fail
    refine ps.mono ?_
    rintro e w9 ⟨rfl, hb9⟩
    go_wp2
    go_ret
    exact ⟨rfl, HB8.out.trans (hb9.mono HB8.out.size)⟩
  · -- of another one: no text
    have hE := (HC.out.below HB3.out).n.e.cell 5 (by omega)
    have t1 := Text_no g _ t _ w3 (A 5) (HN.out.below HB3.out) (fun h => hr h.1) (by omega) HI.out (HC.out.below HB3.out).e hE
    have HR := Lib.hid hr
    clear hr hE
    go_wp2_with fail
    refine t1.mono ?_
    rintro e w4 ⟨rfl, hb4⟩
    have HB4 : Hid (Below w.heap.size w w4) := HB3.out.trans (hb4.mono HB3.out.size)
    have HX4 := Lib.hid (HX3.out.at hb4)
    clear t1 hb4 u0 u1 u2 u3 u4 HB3 HX3
    have u0 := HX4.out.cell 0 (by omega)
    have u1 := HX4.out.cell 1 (by omega)
    have u2 := HX4.out.cell 2 (by omega)
    have u3 := HX4.out.cell 3 (by omega)
    have u4 := HX4.out.cell 4 (by omega)
    have t2 := rright_any w.heap.size g t _ 0 w4 (HN.out.below HB4.out) (HK.out.at (Nat.le_refl _) HB4.out) HB4.out.size (by omega) HI.out (by omega)
    go_wp2_with fail
    refine t2.mono ?_
    rintro e w5 ⟨⟨b, rfl, hb⟩, hb5⟩
    obtain rfl : b = false := by
      cases b with
      | false => rfl
      | true => exact absurd (hb.1 rfl) HR.out
    have HB5 : Hid (Below w.heap.size w w5) := HB4.out.trans (hb5.mono HB4.out.size)
    clear t2 hb hb5 u0 u1 u2 u3 u4 HB4 HX4
    have t3 := num_any A w5 (HC.out.below HB5.out).n.e 5 (by omega)
    go_wp2_with fail
    refine t3.mono ?_
    rintro e w6 ⟨rfl, hb6⟩
    go_wp2
    go_ret
    exact ⟨rfl, HB5.out.trans (hb6.mono HB5.out.size)⟩

end Go.Proofs.YtlaagdpanbineaaGreatDoor
