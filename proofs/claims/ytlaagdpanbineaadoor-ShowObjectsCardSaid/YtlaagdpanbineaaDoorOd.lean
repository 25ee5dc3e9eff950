/- show: Object (its three ways), and package haversacknum's Long. -/
import Derived.Test.YtlaagdpanbineaaDoorOc
import Derived.Test.YtlaagdpanbineaaDoorNb
import Derived.Test.YtlaagdpanbineaaDoorPz
import Derived.Deep.RegionLaw
namespace Go.Proofs.YtlaagdpanbineaaDoor
open Go.RowKit

def LongP (ks : List (List UInt8)) (e : Ending) : Prop := ∃ b, e = .returned (.bool b) ∧ (b = false → kySum ks ≤ 2000)
theorem LongP.yes (ks : List (List UInt8)) : LongP ks (.returned (.bool true)) := ⟨true, rfl, fun h => by cases h⟩
theorem LongP.no {ks : List (List UInt8)} (h : kySum ks ≤ 2000) : LongP ks (.returned (.bool false)) := ⟨false, rfl, fun _ => h⟩

set_option maxRecDepth 100000 in
set_option maxHeartbeats 2000000 in
theorem long_any (ok : Nat → Prop) (S1 : Option Addr) (ks : List (List UInt8)) (c : Nat) (w : World) (hK : StrAt ok w (.slice S1 ks.length c) ks) (hl : ks.length ≤ 1000000) :
    Calls Tryd.prog 16 #[.slice S1 ks.length c, .int .i64 2000] w fun e w' => LongP ks e ∧ w = w' := by
  obtain ⟨A, c0, he, hs⟩ := hK
  obtain ⟨rfl, rfl⟩ : S1 = A ∧ c = c0 := by simpa using he
  have HS := Lib.hid hs
  clear hs he
  go_enter Tryd.func16, Tryd.ntmps16
  go_wp2
  go_loopw [5, 7, 10] (fun c _ i wr => ∃ (k : Nat) (z : Int), k ≤ ks.length ∧ i = .int .i64 k ∧ c = .int .i64 z ∧ Hid (z = kySum (ks.take k)) ∧ 0 ≤ z ∧ z ≤ 2000 ∧ w = wr) (fun _ _ i _ => ks.length - (intOf i).toNat)
  case atStart => exact ⟨0, 0, Nat.zero_le _, rfl, rfl, by simp [Hid, kySum], by omega, by omega, rfl⟩
  case round =>
    obtain ⟨k, z, hkl, rfl, rfl, HZ, hz0, hz1, hw⟩ := hrel
    subst hw
    by_cases hlt : k < ks.length
    · obtain ⟨b, f, rfl, d1⟩ : ∃ b off, S1 = some ⟨b, off, none⟩ ∧ w.cell? ⟨b, off + k, none⟩ = some (.string ⟨(ks.getD k []).toArray⟩) := by
        rcases HS.out with e | ⟨b, off, e, _, hbl, h2⟩
        · rw [e] at hlt; simp at hlt
        · exact ⟨b, off, e, h2 k hlt⟩
      rw [List.getD_eq_getElem?_getD, List.getElem?_eq_getElem hlt, Option.getD_some] at d1
      have hsn := kySum_snoc hlt
      obtain ⟨Y, hY⟩ : ∃ Y, (⟨(ks[k]).toArray⟩ : ByteArray) = Y := ⟨_, rfl⟩
      have hYs : Y.size = ks[k].length := by rw [← hY]; show ks[k].toArray.size = _; simp
      rw [hY] at d1
      rw [← hYs] at hsn
      have HSN := Lib.hid hsn
      clear hY hYs hsn
      by_cases hq1 : 2000 < (Y.size : Int)
      · have q : decide (2000 < (Y.size : Int)) = true := decide_eq_true hq1
        go_wp2
        go_ret
        exact ⟨LongP.yes ks, rfl⟩
      · have q : decide (2000 < (Y.size : Int)) = false := decide_eq_false hq1
        have hw1 : IntKind.i64.wrap (1 + (Y.size : Int)) = 1 + (Y.size : Int) := by rw [IntKind.wrap_i64]; omega
        have hw2 : IntKind.i64.wrap (z + (1 + (Y.size : Int))) = z + (1 + (Y.size : Int)) := by rw [IntKind.wrap_i64]; omega
        by_cases hq2 : 2000 < z + (1 + (Y.size : Int))
        · have q2 : decide (2000 < z + (1 + (Y.size : Int))) = true := decide_eq_true hq2
          go_wp2
          go_ret
          exact ⟨LongP.yes ks, rfl⟩
        · have q2 : decide (2000 < z + (1 + (Y.size : Int))) = false := decide_eq_false hq2
          have HZ2 : Hid (z + (1 + (Y.size : Int)) = kySum (ks.take (k + 1))) := by show _ = _; have := HZ.out; rw [HSN.out]; omega
          go_wp2
          go_roundw
          case rel => exact ⟨k + 1, _, by omega, by go_num, rfl, HZ2, by omega, by omega, trivial⟩
          case measure => simp [intOf]; omega
    · obtain rfl : k = ks.length := by omega
      have HB : Hid (kySum ks ≤ 2000) := by
        have := HZ.out
        rw [List.take_length] at this
        show _ ≤ _
        omega
      go_wp2
      go_ret
      exact ⟨LongP.no HB.out, rfl⟩

def zeroAgg : Value := .agg #[.int .i64 0, .int .i64 0, .string ⟨#[]⟩, .slice none 0 0, .slice none 0 0]

section
variable (ok : Nat → Prop) (h : Nat) (S1 S : Option Addr) (ks : List (List UInt8)) (kids : List NT) (c0 c1 : Nat) (w : World)

set_option maxRecDepth 100000 in
set_option maxHeartbeats 2000000 in
theorem object_ne (A : Nat → Addr) (hE : Errs w A) (hne : ks.length ≠ kids.length) :
    Calls Tryd.prog 17 #[.slice S1 ks.length c0, .slice S kids.length c1] w fun e w' => e = .returned (.tuple #[zeroAgg, .iface 164 (.pointer (some (A 5)))]) ∧ Below w.heap.size w w' := by
  have q : ((ks.length : Int) != (kids.length : Int)) = true := by rw [bne_iff_ne]; omega
  have hcc : w.cell? ⟨5, 0, none⟩ = _ := hE.cell 5 (by omega)
  have hel : 5 < w.heap.size := World.block_lt_of_cell? w _ hcc
  clear hE
  go_enter Tryd.func17, Tryd.ntmps17
  go_upto_region 1 with fail
  refine wp_gen (fun w1 => Hid (Below w.heap.size w w1) ∧ Hid (zeroBlk w1 w.heap.size) ∧ w1.cell? ⟨5, 0, none⟩ = some (.iface 164 (.pointer (some (A 5))))) ⟨al0 w _, heap_alloc_new w _, ((al0 w _).cell (p := ⟨5, 0, none⟩) hel).trans hcc⟩ ?_
  intro w1 ⟨HB1, HZ1, g1⟩
  have hn1 : ¬ (w.heap.size = 5) := by omega
  have hn2 : ¬ (5 = w.heap.size) := by omega
  clear hcc
  have z0 := HZ1.out.cell 0 (by omega)
  have z1 := HZ1.out.cell 1 (by omega)
  have z2 := HZ1.out.cell 2 (by omega)
  have z3 := HZ1.out.cell 3 (by omega)
  have z4 := HZ1.out.cell 4 (by omega)
  have f0 := HZ1.out.fz
  go_upto_region 2 with fail
  go_region
  all_goals
    go_wp2
    refine bp_gen (fun w9 => Hid (zeroBlk w9 w.heap.size) ∧ Hid (Below w.heap.size w w9))
      ⟨HZ1.out.store _ _ _ _ _, below_drewS (set_below (set_below (set_below (set_below (set_below HB1.out (Nat.le_refl _) _) (Nat.le_refl _) _) (Nat.le_refl _) _) (Nat.le_refl _) _) (Nat.le_refl _) _)⟩ ?_
    intro w9 ⟨HZ9, HB9⟩
    have y0 := HZ9.out.cell 0 (by omega)
    have y1 := HZ9.out.cell 1 (by omega)
    have y2 := HZ9.out.cell 2 (by omega)
    have y3 := HZ9.out.cell 3 (by omega)
    have y4 := HZ9.out.cell 4 (by omega)
    (try simp only [Exit.inBlock, Exit.then])
    refine bodyPost_ret (v := .tuple #[zeroAgg, .iface 164 (.pointer (some (A 5)))]) ?_ rfl ?_
    · simp [results, Tryd.results17, go_sem, zeroAgg, y0, y1, y2, y3, y4]
    · exact ⟨rfl, HB9.out⟩

set_option maxRecDepth 100000 in
set_option maxHeartbeats 2000000 in
theorem object_tw (A : Nat → Addr) (hE : Errs w A) (hl : ks.length = kids.length) (h1 : StrAt ok w (.slice S1 ks.length c0) ks) (hs : kySum ks ≤ 1000000) (hn : ¬ ks.Nodup) :
    Calls Tryd.prog 17 #[.slice S1 ks.length c0, .slice S kids.length c1] w fun e w' => e = .returned (.tuple #[zeroAgg, .iface 164 (.pointer (some (A 4)))]) ∧ Below w.heap.size w w' := by
  have q : ((ks.length : Int) != (kids.length : Int)) = false := by simp [hl]
  have hcc : w.cell? ⟨4, 0, none⟩ = _ := hE.cell 4 (by omega)
  have hel : 4 < w.heap.size := World.block_lt_of_cell? w _ hcc
  have ht := fun W (hb : Below w.heap.size w W) => twice_any ok _ ks W (h1.belowS hb) hs
  rw [decide_eq_true hn] at ht
  have hn1 : ¬ (w.heap.size = 4) := by omega
  have hn2 : ¬ (4 = w.heap.size) := by omega
  clear hE h1 hn hl
  go_enter Tryd.func17, Tryd.ntmps17
  go_upto_region 1 with fail
  refine wp_gen (fun w1 => Hid (Below w.heap.size w w1) ∧ Hid (zeroBlk w1 w.heap.size)) ⟨al0 w _, heap_alloc_new w _⟩ ?_
  intro w1 ⟨HB1, HZ1⟩
  have ht1 := ht w1 HB1.out
  go_wp2_with fail
  refine ht1.mono ?_
  rintro e w2 ⟨rfl, hb2⟩
  have HB2 : Hid (Below w.heap.size w w2) := HB1.out.trans (hb2.mono HB1.out.size)
  have HZ2 : Hid (zeroBlk w2 w.heap.size) := (hb2.block _ HZ1.out.lt).trans HZ1.out
  have g1 : w2.cell? ⟨4, 0, none⟩ = _ := (HB2.out.cell (p := ⟨4, 0, none⟩) hel).trans hcc
  clear hcc hb2 HB1 HZ1 ht ht1
  have z0 := HZ2.out.cell 0 (by omega)
  have z1 := HZ2.out.cell 1 (by omega)
  have z2 := HZ2.out.cell 2 (by omega)
  have z3 := HZ2.out.cell 3 (by omega)
  have z4 := HZ2.out.cell 4 (by omega)
  have f0 := HZ2.out.fz
  go_upto_region 4 with fail
  go_region
  all_goals
    go_wp2
    refine bp_gen (fun w9 => Hid (zeroBlk w9 w.heap.size) ∧ Hid (Below w.heap.size w w9))
      ⟨HZ2.out.store _ _ _ _ _, below_drewS (set_below (set_below (set_below (set_below (set_below HB2.out (Nat.le_refl _) _) (Nat.le_refl _) _) (Nat.le_refl _) _) (Nat.le_refl _) _) (Nat.le_refl _) _)⟩ ?_
    intro w9 ⟨HZ9, HB9⟩
    have y0 := HZ9.out.cell 0 (by omega)
    have y1 := HZ9.out.cell 1 (by omega)
    have y2 := HZ9.out.cell 2 (by omega)
    have y3 := HZ9.out.cell 3 (by omega)
    have y4 := HZ9.out.cell 4 (by omega)
    (try simp only [Exit.inBlock, Exit.then])
    refine bodyPost_ret (v := .tuple #[zeroAgg, .iface 164 (.pointer (some (A 4)))]) ?_ rfl ?_
    · simp [results, Tryd.results17, go_sem, zeroAgg, y0, y1, y2, y3, y4]
    · exact ⟨rfl, HB9.out⟩

set_option maxRecDepth 100000 in
set_option maxHeartbeats 2000000 in
theorem object_ok (hl : ks.length = kids.length) (h1 : StrAt ok w (.slice S1 ks.length c0) ks) (hK : KidsAt ok h w S kids) (hs : szT (.mk 7 0 [] ks kids) ≤ 200000) (hn : ks.Nodup) :
    Calls Tryd.prog 17 #[.slice S1 ks.length c0, .slice S kids.length c1] w fun e w' => (∃ v, e = .returned (.tuple #[v, .nilIface]) ∧ NIs (fun b => w.heap.size ≤ b) (h + 1) w' (.mk 7 0 [] ks kids) v) ∧ Below w.heap.size w w' := by
  have q : ((ks.length : Int) != (kids.length : Int)) = false := by simp [hl]
  have hky : kySum ks ≤ 1000000 := by
    have : szT (.mk 7 0 [] ks kids) = 1 + 0 + kySum ks + szL kids := rfl
    omega
  have ht := fun W (hb : Below w.heap.size w W) => twice_any ok _ ks W (h1.belowS hb) hky
  rw [decide_eq_false (fun e => e hn)] at ht
  have HN : Hid (NIs ok (h + 1) w (.mk 7 0 [] ks kids) (.agg #[.int .i64 7, .int .i64 0, .string ⟨#[]⟩, .slice S1 ks.length c0, .slice S kids.length c1])) := ⟨_, S, c1, rfl, h1, hK⟩
  clear h1 hn hl hK hky
  go_enter Tryd.func17, Tryd.ntmps17
  go_upto_region 1 with fail
  refine wp_gen (fun w1 => Hid (Below w.heap.size w w1) ∧ Hid (zeroBlk w1 w.heap.size)) ⟨al0 w _, heap_alloc_new w _⟩ ?_
  intro w1 ⟨HB1, HZ1⟩
  have ht1 := ht w1 HB1.out
  go_wp2_with fail
  refine ht1.mono ?_
  rintro e w2 ⟨rfl, hb2⟩
  have HB2 : Hid (Below w.heap.size w w2) := HB1.out.trans (hb2.mono HB1.out.size)
  have HZ2 : Hid (zeroBlk w2 w.heap.size) := (hb2.block _ HZ1.out.lt).trans HZ1.out
  clear hb2 HB1 HZ1 ht ht1
  have ho := own_any (h + 1) ok _ _ w2 (HN.out.below HB2.out) hs
  go_wp2_with fail
  refine ho.mono ?_
  rintro e w3 ⟨⟨v, rfl, hN3⟩, hb3⟩
  obtain ⟨kk, n2, t2, S3, l3, m3, S4, l4, m4, rfl⟩ := hN3.nd
  have HB3 : Hid (Below w.heap.size w w3) := HB2.out.trans (hb3.mono HB2.out.size)
  have HZ3 : Hid (zeroBlk w3 w.heap.size) := (hb3.block _ HZ2.out.lt).trans HZ2.out
  have HS2 : Hid (w.heap.size < w2.heap.size) := HZ2.out.lt
  have HN3 := Lib.hid hN3
  clear hb3 hN3 ho HB2 HZ2
  have z0 := HZ3.out.cell 0 (by omega)
  have z1 := HZ3.out.cell 1 (by omega)
  have z2 := HZ3.out.cell 2 (by omega)
  have z3 := HZ3.out.cell 3 (by omega)
  have z4 := HZ3.out.cell 4 (by omega)
  have f0 := HZ3.out.fz
  go_wp2
  refine bp_gen (fun w9 => Hid (Blk w9 w.heap.size (.int .i64 kk) (.int .i64 n2) (.string ⟨t2.toArray⟩) (.slice S3 l3 m3) (.slice S4 l4 m4)) ∧ Hid (Below w.heap.size w w9) ∧ Hid (NIs (fun b => w.heap.size ≤ b) (h + 1) w9 (.mk 7 0 [] ks kids) (.agg #[.int .i64 kk, .int .i64 n2, .string ⟨t2.toArray⟩, .slice S3 l3 m3, .slice S4 l4 m4])))
    ⟨HZ3.out.store _ _ _ _ _, set_below (set_below (set_below (set_below (set_below HB3.out (Nat.le_refl _) _) (Nat.le_refl _) _) (Nat.le_refl _) _) (Nat.le_refl _) _) (Nat.le_refl _) _, ?_⟩ ?_
  · have h2 := HS2.out
    exact (HN3.out.grown (gb_set (gb_set (gb_set (gb_set (gb_set (gb_refl _ _) _) _) _) _) _) (fun b hb => by omega)).kept (Nat.le_refl _) (fun b hb _ => ⟨by omega, rfl⟩)
  intro w9 ⟨HX9, HB9, HN9⟩
  have y0 := HX9.out.cell 0 (by omega)
  have y1 := HX9.out.cell 1 (by omega)
  have y2 := HX9.out.cell 2 (by omega)
  have y3 := HX9.out.cell 3 (by omega)
  have y4 := HX9.out.cell 4 (by omega)
  (try simp only [Exit.inBlock, Exit.then])
  refine bodyPost_ret (v := .tuple #[.agg #[.int .i64 kk, .int .i64 n2, .string ⟨t2.toArray⟩, .slice S3 l3 m3, .slice S4 l4 m4], .nilIface]) ?_ rfl ?_
  · simp [results, Tryd.results17, go_sem, y0, y1, y2, y3, y4]
  · exact ⟨⟨_, rfl, HN9.out⟩, HB9.out⟩
end

end Go.Proofs.YtlaagdpanbineaaDoor
