/- ShowObjects' walk: a key stands twice. -/
import Derived.Test.YtlaagdpanbineaaDoorOfz
namespace Go.Proofs.YtlaagdpanbineaaDoor
open Go.RowKit

set_option maxRecDepth 100000 in
set_option maxHeartbeats 8000000 in
theorem objects_tw (w : World) (A : Nat → Addr) (hC : CondO w A) (g : Nat) (S1 S : Option Addr) (ks : List (List UInt8)) (kids : List NT) (c0 c1 : Nat)
    (hKs : StrAt (fun _ => True) w (.slice S1 ks.length c0) ks) (hKd : KidsAt (fun _ => True) g w S kids) (hcap : ks.length ≤ c0) (hall : ∀ t ∈ kids, okLen t) (HL : Hid (ks.length = kids.length)) (HND : Hid (¬ ks.Nodup)) :
    Calls Tryd.prog 5 #[.slice S1 ks.length c0, .slice S kids.length c1] w (Objs w) := by
  have hl0 := alive5_any w hC.e
  have HC := Lib.hid hC
  have HKs := Lib.hid hKs
  have HKd := Lib.hid hKd
  have HO := Lib.hid hall
  have HCAP := Lib.hid hcap
  clear hC hKs hKd hall hcap
  go_enter Tryd.func5, Tryd.ntmps5
  go_wp2_with fail
  refine hl0.mono ?_
  rintro e w1 ⟨rfl, hb1⟩
  have HB1 := Lib.hid hb1
  clear hl0 hb1
  by_cases h50 : 50 < ks.length
  · have q : decide ((50 : Int) < (ks.length : Int)) = true := decide_eq_true (by omega)
    go_wp2
    go_ret
    exact ⟨rfl, HB1.out⟩
  have q1 : decide ((50 : Int) < (ks.length : Int)) = false := decide_eq_false (by omega)
  by_cases h51 : 50 < kids.length
  · have q : decide ((50 : Int) < (kids.length : Int)) = true := decide_eq_true (by omega)
    go_wp2
    go_ret
    exact ⟨rfl, HB1.out⟩
  have q2 : decide ((50 : Int) < (kids.length : Int)) = false := decide_eq_false (by omega)
  have hlo := long_any _ S1 ks c0 w1 (HKs.out.belowS HB1.out) (by omega)
  go_wp2_with fail
  refine hlo.mono ?_
  rintro e w2 ⟨⟨bl, rfl, hky⟩, hw2⟩
  subst hw2
  clear hlo
  cases bl with
  | true =>
    go_wp2
    go_ret
    exact ⟨rfl, HB1.out⟩
  | false =>
  have hky2 : kySum ks ≤ 2000 := hky rfl
  clear hky
  go_wp2
  go_loopw [6, 33] (fun _ i wr => ∃ k : Nat, k ≤ kids.length ∧ i = .int .i64 k ∧ Hid (∀ j (hj : j < kids.length), j < k → szT kids[j] ≤ 200) ∧ Hid (Below w.heap.size w wr)) (fun _ i _ => kids.length - (intOf i).toNat)
  case atStart => exact ⟨0, Nat.zero_le _, rfl, fun j _ hj => absurd hj (Nat.not_lt_zero _), HB1⟩
  case round =>
    clear HB1
    obtain ⟨k, hkl, rfl, HG, HB⟩ := hrel
    by_cases hlt : k < kids.length
    · obtain ⟨b, off, rfl, hb0, hc⟩ : ∃ b off, S = some ⟨b, off, none⟩ ∧ b < w.heap.size ∧ ∀ j (hj : j < kids.length), ∃ c0 c1 c2 c3 c4,
          w.cell? ⟨b, off + 5 * j, none⟩ = some c0 ∧ w.cell? ⟨b, off + 5 * j + 1, none⟩ = some c1 ∧ w.cell? ⟨b, off + 5 * j + 2, none⟩ = some c2 ∧ w.cell? ⟨b, off + 5 * j + 3, none⟩ = some c3 ∧ w.cell? ⟨b, off + 5 * j + 4, none⟩ = some c4 ∧
          NIs (fun _ => True) g w kids[j] (.agg #[c0, c1, c2, c3, c4]) := by
        rcases HKd.out with e | ⟨b, off, e, _, h1, h2⟩
        · rw [e] at hlt; simp at hlt
        · exact ⟨b, off, e, h1, h2⟩
      obtain ⟨x0, x1, x2, x3, x4, e0, e1, e2, e3, e4, hNk⟩ := hc k hlt
      obtain ⟨kk, n2, t2, S3, l3, m3, S4, l4, m4, hv⟩ := hNk.nd
      simp only [Value.agg.injEq, Array.mk.injEq, List.cons.injEq, and_true] at hv
      obtain ⟨rfl, rfl, rfl, rfl, rfl⟩ := hv
      have hcell : ∀ {j : Nat} {x : Value}, w.cell? ⟨b, off + 5 * k + j, none⟩ = some x → wr.cell? ⟨b, off + k * 5 + j, none⟩ = some x := fun {j x} hx => by
        rw [show off + k * 5 + j = off + 5 * k + j by omega]
        exact (HB.out.cell (p := ⟨b, off + 5 * k + j, none⟩) hb0).trans hx
      have f0 : wr.cell? ⟨b, off + k * 5, none⟩ = _ := hcell (j := 0) e0
      have f1 := hcell e1
      have f2 := hcell e2
      have f3 := hcell e3
      have f4 := hcell e4
      have HNk := Lib.hid hNk
      have hO1 := Lib.hid (HO.out _ (List.getElem_mem hlt))
      clear e0 e1 e2 e3 e4 hc hcell hNk
      go_upto_region 8 with fail
      refine wp_gen (fun w2 => Hid (Below w.heap.size w w2) ∧ Hid (Blk w2 wr.heap.size (.int .i64 kk) (.int .i64 n2) (.string ⟨t2.toArray⟩) (.slice S3 l3 m3) (.slice S4 l4 m4)) ∧ Hid (NIs (fun _ => True) g w2 kids[k] (.agg #[.int .i64 kk, .int .i64 n2, .string ⟨t2.toArray⟩, .slice S3 l3 m3, .slice S4 l4 m4]))) ⟨HB.out.alloc HB.out.size _, heap_alloc_new wr _, HNk.out.below (HB.out.alloc HB.out.size _)⟩ ?_
      rintro w2 ⟨HB2, HX2, HN2⟩
      clear f0 f1 f2 f3 f4
      have u0 := HX2.out.cell 0 (by omega)
      have u1 := HX2.out.cell 1 (by omega)
      have u2 := HX2.out.cell 2 (by omega)
      have u3 := HX2.out.cell 3 (by omega)
      have u4 := HX2.out.cell 4 (by omega)
      have hT := size2_any g (fun _ => True) kids[k] _ w2 200 0 HN2.out hO1.out (by omega) (by omega)
      go_wp2_with fail
      refine hT.mono ?_
      rintro e w3 ⟨⟨z, rfl, z0, z1, hz⟩, hb3⟩
      have HB3 : Hid (Below w.heap.size w w3) := HB2.out.trans (hb3.mono HB2.out.size)
      clear hT hb3 u0 u1 u2 u3 u4 HX2 HN2 HB2
      by_cases hz3 : 200 < z
      · have q : decide (200 < z) = true := decide_eq_true hz3
        go_wp2
        go_ret
        exact ⟨rfl, HB3.out⟩
      have q : decide (200 < z) = false := decide_eq_false hz3
      have HG3 : Hid (∀ j (hj : j < kids.length), j < k + 1 → szT kids[j] ≤ 200) := fun j hj hjk => by
        by_cases e : j = k
        · subst e; have := hz (by omega); omega
        · exact HG.out j hj (by omega)
      clear hz
      go_wp2
      go_roundw
      case rel => exact ⟨k + 1, by omega, by go_num, HG3, HB3⟩
      case measure => simp [intOf]; omega
    · obtain rfl : k = kids.length := by omega
      have HGA : Hid (∀ j (hj : j < kids.length), szT kids[j] ≤ 200) := fun j hj => HG.out j hj hj
      clear HG
      have hob := object_tw (fun _ => True) S1 S ks kids c0 c1 wr A (HC.out.below HB.out).er HL.out (HKs.out.belowS HB.out) (by omega) HND.out
      have q3 : ((ks.length : Int) != (kids.length : Int)) = false := by simp [HL.out]
      go_wp2_with fail
      refine hob.mono ?_
      rintro e w2 ⟨rfl, hb2⟩
      have HB2 : Hid (Below w.heap.size w w2) := HB.out.trans (hb2.mono HB.out.size)
      clear hob hb2 HB
      unfold zeroAgg
      go_upto_region 12 with fail
      refine wp_gen (fun w3 => Hid (Below w.heap.size w w3) ∧ Hid (zeroBlk w3 w2.heap.size)) ⟨HB2.out.alloc HB2.out.size _, heap_alloc_new w2 _⟩ ?_
      intro w3 ⟨HB3, HZ3⟩
      clear HB2
      go_wp2
      go_loopw [9, 10, 12, 62] (fun _ _ _ i wr => ∃ k : Nat, k ≤ ks.length ∧ i = .int .i64 k ∧ Hid ((ks.take k).Nodup) ∧ w3 = wr) (fun _ _ _ i _ => ks.length - (intOf i).toNat)
      case atStart => exact ⟨0, Nat.zero_le _, rfl, by simp [Hid], rfl⟩
      case round =>
        obtain ⟨k, hkl, rfl, HD, hw⟩ := hrel
        subst hw
        by_cases hlt : k < ks.length
        · obtain ⟨b1, o1, rfl, hb1, hcell⟩ : ∃ b off, S1 = some ⟨b, off, none⟩ ∧ b < w.heap.size ∧ ∀ j, (hj : j < ks.length) → w.cell? ⟨b, off + j, none⟩ = some (.string ⟨ks[j].toArray⟩) := by
            obtain ⟨_, _, he, hs⟩ := HKs.out
            obtain ⟨rfl, rfl⟩ := by simpa using he
            rcases hs with e | ⟨b, off, e, _, hbl, h2⟩
            · rw [e] at hlt; simp at hlt
            · refine ⟨b, off, e, hbl, fun j hj => ?_⟩
              have := h2 j hj
              rwa [List.getD_eq_getElem?_getD, List.getElem?_eq_getElem hj, Option.getD_some] at this
          have HCL := Lib.hid hcell
          have z0 : w3.cell? ⟨b1, o1 + k, none⟩ = some (.string ⟨ks[k].toArray⟩) := (HB3.out.cell (p := ⟨b1, o1 + k, none⟩) hb1).trans (hcell k hlt)
          obtain ⟨V, hV⟩ : ∃ V : ByteArray, (⟨ks[k].toArray⟩ : ByteArray) = V := ⟨_, rfl⟩
          rw [hV] at z0
          have HVV := Lib.hid hV
          have hkc2 : k ≤ c0 := by have := HCAP.out; omega
          clear hcell hV
          go_wp2
          clear z0
          go_loopw [12, 71] (fun _ j wi => ∃ m : Nat, m ≤ k ∧ j = .int .i64 m ∧ Hid (∀ j, (hj : j < m) → (hj2 : j < ks.length) → ks[j] ≠ ks[k]) ∧ w3 = wi) (fun _ j _ => k - (intOf j).toNat)
          case atStart => exact ⟨0, Nat.zero_le _, rfl, fun j hj => absurd hj (Nat.not_lt_zero _), rfl⟩
          case round =>
            obtain ⟨m, hmk, rfl, HM, hw⟩ := hrel
            subst hw
            by_cases hm : m < k
            · have z1 : w3.cell? ⟨b1, o1 + m, none⟩ = some (.string ⟨ks[m].toArray⟩) := (HB3.out.cell (p := ⟨b1, o1 + m, none⟩) hb1).trans (HCL.out m (by omega))
              by_cases he : ks[m] = ks[k]
              · have e1 : ((⟨ks[m].toArray⟩ : ByteArray).toList == V.toList) = true := by rw [← HVV.out, ba_inj2]; exact decide_eq_true he
                obtain ⟨U, hU⟩ : ∃ U : ByteArray, (⟨ks[m].toArray⟩ : ByteArray) = U := ⟨_, rfl⟩
                rw [hU] at z1 e1
                have z2 := HZ3.out.cell 0 (by omega)
                have hN := num_any A w3 (HC.out.below HB3.out).er 4 (by omega)
                clear hU he HM
                go_wp2_with (go_at_call 13; refine hN.mono ?_; rintro e w4 ⟨rfl, hb4⟩)
                go_ret
                exact ⟨rfl, HB3.out.trans (hb4.mono HB3.out.size)⟩
              · have e1 : ((⟨ks[m].toArray⟩ : ByteArray).toList == V.toList) = false := by rw [← HVV.out, ba_inj2]; exact decide_eq_false he
                have HM2 : Hid (∀ j, (hj : j < m + 1) → (hj2 : j < ks.length) → ks[j] ≠ ks[k]) := fun j hj hj2 => by
                  by_cases hjm : j = m
                  · subst hjm; exact he
                  · exact HM.out j (by omega) hj2
                obtain ⟨U, hU⟩ : ∃ U : ByteArray, (⟨ks[m].toArray⟩ : ByteArray) = U := ⟨_, rfl⟩
                rw [hU] at z1 e1
                clear hU he HM
                go_wp2
                go_roundw
                case rel => exact ⟨m + 1, by omega, by go_num, HM2, trivial⟩
                case measure => simp [intOf]; omega
            · obtain rfl : m = k := by omega
              have HD2 : Hid ((ks.take (m + 1)).Nodup) := take_nodup HD.out hlt (fun j hj => HM.out j hj (by omega))
              clear HM
              go_wp2
              go_roundw
              case rel => exact ⟨m + 1, by omega, by go_num, HD2, trivial⟩
              case measure => simp [intOf]; omega
        · obtain rfl : k = ks.length := by omega
          exact absurd (by have := HD.out; rwa [List.take_length] at this) HND.out

end Go.Proofs.YtlaagdpanbineaaDoor
