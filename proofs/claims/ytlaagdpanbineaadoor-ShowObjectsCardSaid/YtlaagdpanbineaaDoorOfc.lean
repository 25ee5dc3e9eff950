/- ShowObjects' walk: an Object. -/
import Derived.Test.YtlaagdpanbineaaDoorOfz
namespace Go.Proofs.YtlaagdpanbineaaDoor
open Go.RowKit

set_option maxRecDepth 100000 in
set_option maxHeartbeats 8000000 in
theorem objects_ok (w : World) (A : Nat → Addr) (hC : CondO w A) (g : Nat) (S1 S : Option Addr) (ks : List (List UInt8)) (kids : List NT) (c0 c1 : Nat)
    (hKs : StrAt (fun _ => True) w (.slice S1 ks.length c0) ks) (hKd : KidsAt (fun _ => True) g w S kids) (hcap : ks.length ≤ c0) (hall : ∀ t ∈ kids, okLen t) (HL : Hid (ks.length = kids.length)) (HND : Hid ks.Nodup) :
    Calls Tryd.prog 5 #[.slice S1 ks.length c0, .slice S kids.length c1] w (Objs w) := by
  have hl0 := alive5_any w hC.e
  have HC := Lib.hid hC
  have HKs := Lib.hid hKs
  have HKd := Lib.hid hKd
  have HO := Lib.hid hall
  have HCAP := Lib.hid hcap
  clear hC hKs hKd hall hcap
  go_enter Tryd.func5, Tryd.ntmps5
  go_wp2_with fail
  refine hl0.mono ?_
  rintro e w1 ⟨rfl, hb1⟩
  have HB1 := Lib.hid hb1
  clear hl0 hb1
  by_cases h50 : 50 < ks.length
  · have q : decide ((50 : Int) < (ks.length : Int)) = true := decide_eq_true (by omega)
    go_wp2
    go_ret
    exact ⟨rfl, HB1.out⟩
  have q1 : decide ((50 : Int) < (ks.length : Int)) = false := decide_eq_false (by omega)
  by_cases h51 : 50 < kids.length
  · have q : decide ((50 : Int) < (kids.length : Int)) = true := decide_eq_true (by omega)
    go_wp2
    go_ret
    exact ⟨rfl, HB1.out⟩
  have q2 : decide ((50 : Int) < (kids.length : Int)) = false := decide_eq_false (by omega)
  have hlo := long_any _ S1 ks c0 w1 (HKs.out.belowS HB1.out) (by omega)
  go_wp2_with fail
  refine hlo.mono ?_
  rintro e w2 ⟨⟨bl, rfl, hky⟩, hw2⟩
  subst hw2
  clear hlo
  cases bl with
  | true =>
    go_wp2
    go_ret
    exact ⟨rfl, HB1.out⟩
  | false =>
  have hky2 : kySum ks ≤ 2000 := hky rfl
  clear hky
  go_wp2
  go_loopw [6, 33] (fun _ i wr => ∃ k : Nat, k ≤ kids.length ∧ i = .int .i64 k ∧ Hid (∀ j (hj : j < kids.length), j < k → szT kids[j] ≤ 200) ∧ Hid (Below w.heap.size w wr)) (fun _ i _ => kids.length - (intOf i).toNat)
  case atStart => exact ⟨0, Nat.zero_le _, rfl, fun j _ hj => absurd hj (Nat.not_lt_zero _), HB1⟩
  case round =>
    clear HB1
    obtain ⟨k, hkl, rfl, HG, HB⟩ := hrel
    by_cases hlt : k < kids.length
    · obtain ⟨b, off, rfl, hb0, hc⟩ : ∃ b off, S = some ⟨b, off, none⟩ ∧ b < w.heap.size ∧ ∀ j (hj : j < kids.length), ∃ c0 c1 c2 c3 c4,
          w.cell? ⟨b, off + 5 * j, none⟩ = some c0 ∧ w.cell? ⟨b, off + 5 * j + 1, none⟩ = some c1 ∧ w.cell? ⟨b, off + 5 * j + 2, none⟩ = some c2 ∧ w.cell? ⟨b, off + 5 * j + 3, none⟩ = some c3 ∧ w.cell? ⟨b, off + 5 * j + 4, none⟩ = some c4 ∧
          NIs (fun _ => True) g w kids[j] (.agg #[c0, c1, c2, c3, c4]) := by
        rcases HKd.out with e | ⟨b, off, e, _, h1, h2⟩
        · rw [e] at hlt; simp at hlt
        · exact ⟨b, off, e, h1, h2⟩
      obtain ⟨x0, x1, x2, x3, x4, e0, e1, e2, e3, e4, hNk⟩ := hc k hlt
      obtain ⟨kk, n2, t2, S3, l3, m3, S4, l4, m4, hv⟩ := hNk.nd
      simp only [Value.agg.injEq, Array.mk.injEq, List.cons.injEq, and_true] at hv
      obtain ⟨rfl, rfl, rfl, rfl, rfl⟩ := hv
      have hcell : ∀ {j : Nat} {x : Value}, w.cell? ⟨b, off + 5 * k + j, none⟩ = some x → wr.cell? ⟨b, off + k * 5 + j, none⟩ = some x := fun {j x} hx => by
        rw [show off + k * 5 + j = off + 5 * k + j by omega]
        exact (HB.out.cell (p := ⟨b, off + 5 * k + j, none⟩) hb0).trans hx
      have f0 : wr.cell? ⟨b, off + k * 5, none⟩ = _ := hcell (j := 0) e0
      have f1 := hcell e1
      have f2 := hcell e2
      have f3 := hcell e3
      have f4 := hcell e4
      have HNk := Lib.hid hNk
      have hO1 := Lib.hid (HO.out _ (List.getElem_mem hlt))
      clear e0 e1 e2 e3 e4 hc hcell hNk
      go_upto_region 8 with fail
      refine wp_gen (fun w2 => Hid (Below w.heap.size w w2) ∧ Hid (Blk w2 wr.heap.size (.int .i64 kk) (.int .i64 n2) (.string ⟨t2.toArray⟩) (.slice S3 l3 m3) (.slice S4 l4 m4)) ∧ Hid (NIs (fun _ => True) g w2 kids[k] (.agg #[.int .i64 kk, .int .i64 n2, .string ⟨t2.toArray⟩, .slice S3 l3 m3, .slice S4 l4 m4]))) ⟨HB.out.alloc HB.out.size _, heap_alloc_new wr _, HNk.out.below (HB.out.alloc HB.out.size _)⟩ ?_
      rintro w2 ⟨HB2, HX2, HN2⟩
      clear f0 f1 f2 f3 f4
      have u0 := HX2.out.cell 0 (by omega)
      have u1 := HX2.out.cell 1 (by omega)
      have u2 := HX2.out.cell 2 (by omega)
      have u3 := HX2.out.cell 3 (by omega)
      have u4 := HX2.out.cell 4 (by omega)
      have hT := size2_any g (fun _ => True) kids[k] _ w2 200 0 HN2.out hO1.out (by omega) (by omega)
      go_wp2_with fail
      refine hT.mono ?_
      rintro e w3 ⟨⟨z, rfl, z0, z1, hz⟩, hb3⟩
      have HB3 : Hid (Below w.heap.size w w3) := HB2.out.trans (hb3.mono HB2.out.size)
      clear hT hb3 u0 u1 u2 u3 u4 HX2 HN2 HB2
      by_cases hz3 : 200 < z
      · have q : decide (200 < z) = true := decide_eq_true hz3
        go_wp2
        go_ret
        exact ⟨rfl, HB3.out⟩
      have q : decide (200 < z) = false := decide_eq_false hz3
      have HG3 : Hid (∀ j (hj : j < kids.length), j < k + 1 → szT kids[j] ≤ 200) := fun j hj hjk => by
        by_cases e : j = k
        · subst e; have := hz (by omega); omega
        · exact HG.out j hj (by omega)
      clear hz
      go_wp2
      go_roundw
      case rel => exact ⟨k + 1, by omega, by go_num, HG3, HB3⟩
      case measure => simp [intOf]; omega
    · obtain rfl : k = kids.length := by omega
      have HGA : Hid (∀ j (hj : j < kids.length), szT kids[j] ≤ 200) := fun j hj => HG.out j hj hj
      clear HG
      have hob := object_ok (fun _ => True) g S1 S ks kids c0 c1 wr HL.out (HKs.out.belowS HB.out) (HKd.out.below HB.out) (obj_sz hky2 HGA.out (by omega)) HND.out
      have q3 : ((ks.length : Int) != (kids.length : Int)) = false := by simp [HL.out]
      go_wp2_with fail
      refine hob.mono ?_
      rintro e w2 ⟨⟨v, rfl, hN2⟩, hb2⟩
      have HB2 : Hid (Below w.heap.size w w2) := HB.out.trans (hb2.mono HB.out.size)
      obtain ⟨S8, m8, S9, m9, hv, hst8⟩ : ∃ S8 m8 S9 m9, v = .agg #[.int .i64 7, .int .i64 0, .string ⟨#[]⟩, .slice S8 ks.length m8, .slice S9 kids.length m9] ∧ StrAt (fun b => wr.heap.size ≤ b) w2 (.slice S8 ks.length m8) ks := by
        obtain ⟨kv, S9, m9, rfl, ⟨S8, m8, rfl, hst8⟩, hk9⟩ := hN2
        exact ⟨S8, m8, S9, m9, rfl, S8, m8, rfl, hst8⟩
      subst hv
      have HN2 := Lib.hid hN2
      have HT2 := Lib.hid hst8
      clear hob hb2 HB hN2 hst8
      go_upto_region 12 with fail
      refine wp_gen (fun w3 => Hid (Below w.heap.size w w3) ∧ Hid (Blk w3 w2.heap.size (.int .i64 7) (.int .i64 0) (.string ⟨#[]⟩) (.slice S8 ks.length m8) (.slice S9 kids.length m9)) ∧ Hid (NIs (fun b => wr.heap.size ≤ b) (g + 1) w3 (.mk 7 0 [] ks kids) (.agg #[.int .i64 7, .int .i64 0, .string ⟨#[]⟩, .slice S8 ks.length m8, .slice S9 kids.length m9])) ∧ Hid (StrAt (fun b => wr.heap.size ≤ b) w3 (.slice S8 ks.length m8) ks))
        ⟨HB2.out.alloc HB2.out.size _, heap_alloc_new w2 _, HN2.out.below (al0 w2 _), HT2.out.belowS (al0 w2 _)⟩ ?_
      intro w3 ⟨HB3, HX3, HN3, HT3⟩
      clear HB2 HN2 HT2
      go_wp2
      go_loopw [9, 10, 12, 62] (fun _ _ _ i wr => ∃ k : Nat, k ≤ ks.length ∧ i = .int .i64 k ∧ Hid ((ks.take k).Nodup) ∧ w3 = wr) (fun _ _ _ i _ => ks.length - (intOf i).toNat)
      case atStart => exact ⟨0, Nat.zero_le _, rfl, by simp [Hid], rfl⟩
      case round =>
        obtain ⟨k, hkl, rfl, HD, hw⟩ := hrel
        subst hw
        by_cases hlt : k < ks.length
        · obtain ⟨b1, o1, rfl, hb1, hcell⟩ : ∃ b off, S1 = some ⟨b, off, none⟩ ∧ b < w.heap.size ∧ ∀ j, (hj : j < ks.length) → w.cell? ⟨b, off + j, none⟩ = some (.string ⟨ks[j].toArray⟩) := by
            obtain ⟨_, _, he, hs⟩ := HKs.out
            obtain ⟨rfl, rfl⟩ := by simpa using he
            rcases hs with e | ⟨b, off, e, _, hbl, h2⟩
            · rw [e] at hlt; simp at hlt
            · refine ⟨b, off, e, hbl, fun j hj => ?_⟩
              have := h2 j hj
              rwa [List.getD_eq_getElem?_getD, List.getElem?_eq_getElem hj, Option.getD_some] at this
          have HCL := Lib.hid hcell
          have z0 : w3.cell? ⟨b1, o1 + k, none⟩ = some (.string ⟨ks[k].toArray⟩) := (HB3.out.cell (p := ⟨b1, o1 + k, none⟩) hb1).trans (hcell k hlt)
          obtain ⟨V, hV⟩ : ∃ V : ByteArray, (⟨ks[k].toArray⟩ : ByteArray) = V := ⟨_, rfl⟩
          rw [hV] at z0
          have HVV := Lib.hid hV
          have hkc2 : k ≤ c0 := by have := HCAP.out; omega
          clear hcell hV
          go_wp2
          clear z0
          go_loopw [12, 71] (fun _ j wi => ∃ m : Nat, m ≤ k ∧ j = .int .i64 m ∧ Hid (∀ j, (hj : j < m) → (hj2 : j < ks.length) → ks[j] ≠ ks[k]) ∧ w3 = wi) (fun _ j _ => k - (intOf j).toNat)
          case atStart => exact ⟨0, Nat.zero_le _, rfl, fun j hj => absurd hj (Nat.not_lt_zero _), rfl⟩
          case round =>
            obtain ⟨m, hmk, rfl, HM, hw⟩ := hrel
            subst hw
            by_cases hm : m < k
            · have z1 : w3.cell? ⟨b1, o1 + m, none⟩ = some (.string ⟨ks[m].toArray⟩) := (HB3.out.cell (p := ⟨b1, o1 + m, none⟩) hb1).trans (HCL.out m (by omega))
              by_cases he : ks[m] = ks[k]
              · exact absurd he (fun e => by have := (List.getElem_inj (h₀ := by omega) (h₁ := hlt) HND.out).1 e; omega)
              · have e1 : ((⟨ks[m].toArray⟩ : ByteArray).toList == V.toList) = false := by rw [← HVV.out, ba_inj2]; exact decide_eq_false he
                have HM2 : Hid (∀ j, (hj : j < m + 1) → (hj2 : j < ks.length) → ks[j] ≠ ks[k]) := fun j hj hj2 => by
                  by_cases hjm : j = m
                  · subst hjm; exact he
                  · exact HM.out j (by omega) hj2
                obtain ⟨U, hU⟩ : ∃ U : ByteArray, (⟨ks[m].toArray⟩ : ByteArray) = U := ⟨_, rfl⟩
                rw [hU] at z1 e1
                clear hU he HM
                go_wp2
                go_roundw
                case rel => exact ⟨m + 1, by omega, by go_num, HM2, trivial⟩
                case measure => simp [intOf]; omega
            · obtain rfl : m = k := by omega
              have HD2 : Hid ((ks.take (m + 1)).Nodup) := take_nodup HD.out hlt (fun j hj => HM.out j hj (by omega))
              clear HM
              go_wp2
              go_roundw
              case rel => exact ⟨m + 1, by omega, by go_num, HD2, trivial⟩
              case measure => simp [intOf]; omega
        · obtain rfl : k = ks.length := by omega
          have x0 := HX3.out.cell 0 (by omega)
          have x3 := HX3.out.cell 3 (by omega)
          have hnl := fun (w : World) => @run_neq_nil_nil_at Tryd.prog w 31 (by kernel_rfl)
          clear HD
          go_wp2
          clear x0 x3
          go_loopw [13, 14, 15, 16, 105] (fun _ _ _ _ i W => ∃ k : Nat, k ≤ ks.length ∧ i = .int .i64 k ∧ Hid (Below w3.heap.size w3 W)) (fun _ _ _ _ i _ => ks.length - (intOf i).toNat)
          case atStart => exact ⟨0, Nat.zero_le _, rfl, Below.refl _ _⟩
          case round =>
            obtain ⟨k, hkl, rfl, HQ⟩ := hrel
            by_cases hlt : k < ks.length
            · obtain ⟨b1, o1, rfl, hb1, hcell⟩ : ∃ b off, S1 = some ⟨b, off, none⟩ ∧ b < w.heap.size ∧ ∀ j, (hj : j < ks.length) → w.cell? ⟨b, off + j, none⟩ = some (.string ⟨ks[j].toArray⟩) := by
                obtain ⟨_, _, he, hs⟩ := HKs.out
                obtain ⟨rfl, rfl⟩ := by simpa using he
                rcases hs with e | ⟨b, off, e, _, hbl, h2⟩
                · rw [e] at hlt; simp at hlt
                · refine ⟨b, off, e, hbl, fun j hj => ?_⟩
                  have := h2 j hj
                  rwa [List.getD_eq_getElem?_getD, List.getElem?_eq_getElem hj, Option.getD_some] at this
              obtain ⟨b8, o8, rfl, hb8, hcell8⟩ : ∃ b off, S8 = some ⟨b, off, none⟩ ∧ b < w3.heap.size ∧ ∀ j, (hj : j < ks.length) → w3.cell? ⟨b, off + j, none⟩ = some (.string ⟨ks[j].toArray⟩) := by
                obtain ⟨_, _, he, hs⟩ := HT3.out
                obtain ⟨rfl, rfl⟩ := by simpa using he
                rcases hs with e | ⟨b, off, e, _, hbl, h2⟩
                · rw [e] at hlt; simp at hlt
                · refine ⟨b, off, e, hbl, fun j hj => ?_⟩
                  have := h2 j hj
                  rwa [List.getD_eq_getElem?_getD, List.getElem?_eq_getElem hj, Option.getD_some] at this
              have hi2 : k < kids.length := by have := HL.out; omega
              obtain ⟨b, off, rfl, hb0, hc⟩ : ∃ b off, S = some ⟨b, off, none⟩ ∧ b < w.heap.size ∧ ∀ j (hj : j < kids.length), ∃ c0 c1 c2 c3 c4,
                  w.cell? ⟨b, off + 5 * j, none⟩ = some c0 ∧ w.cell? ⟨b, off + 5 * j + 1, none⟩ = some c1 ∧ w.cell? ⟨b, off + 5 * j + 2, none⟩ = some c2 ∧ w.cell? ⟨b, off + 5 * j + 3, none⟩ = some c3 ∧ w.cell? ⟨b, off + 5 * j + 4, none⟩ = some c4 ∧
                  NIs (fun _ => True) g w kids[j] (.agg #[c0, c1, c2, c3, c4]) := by
                rcases HKd.out with e | ⟨b, off, e, _, h1, h2⟩
                · rw [e] at hi2; simp at hi2
                · exact ⟨b, off, e, h1, h2⟩
              obtain ⟨x0, x1, x2, x3, x4, e0, e1, e2, e3, e4, hNk⟩ := hc k hi2
              obtain ⟨kk, n2, t2, S3, l3, m3, S4, l4, m4, hv⟩ := hNk.nd
              simp only [Value.agg.injEq, Array.mk.injEq, List.cons.injEq, and_true] at hv
              obtain ⟨rfl, rfl, rfl, rfl, rfl⟩ := hv
              have HNk := Lib.hid hNk
              have HE := Lib.hid (And.intro e0 (And.intro e1 (And.intro e2 (And.intro e3 e4))))
              have HO1 := Lib.hid (HO.out _ (List.getElem_mem hi2))
              have HC8 : Hid (w3.cell? ⟨b8, o8 + k, none⟩ = some (.string ⟨ks[k].toArray⟩)) := hcell8 k hlt
              have z0 : wr.cell? ⟨b1, o1 + k, none⟩ = some (.string ⟨ks[k].toArray⟩) := ((HB3.out.trans (HQ.out.mono HB3.out.size)).cell (p := ⟨b1, o1 + k, none⟩) hb1).trans (hcell k hlt)
              have hg := get_any _ g ks kids wr _ (HN3.out.below HQ.out) HL.out HND.out (by omega) k hlt hi2 (by have := HGA.out k hi2; omega)
              obtain ⟨T, hT⟩ : ∃ T, kids[k] = T := ⟨_, rfl⟩
              obtain ⟨V, hV⟩ : ∃ V : ByteArray, (⟨ks[k].toArray⟩ : ByteArray) = V := ⟨_, rfl⟩
              rw [hV] at z0 hg HC8
              rw [hT] at hg HNk HO1
              have HXq : Hid (Blk wr w2.heap.size (.int .i64 7) (.int .i64 0) (.string ⟨#[]⟩) (.slice (some ⟨b8, o8, none⟩) ks.length m8) (.slice S9 kids.length m9)) := (HQ.out.block _ HX3.out.lt).trans HX3.out
              have u0 := HXq.out.cell 0 (by omega)
              have u1 := HXq.out.cell 1 (by omega)
              have u2 := HXq.out.cell 2 (by omega)
              have u3 := HXq.out.cell 3 (by omega)
              have u4 := HXq.out.cell 4 (by omega)
              clear hcell hcell8 hc hNk e0 e1 e2 e3 e4 hT hV
              go_wp2_with fail
              refine hg.mono ?_
              rintro e w4 ⟨⟨v', rfl, hN4⟩, hb4⟩
              obtain ⟨k9, n9, t9, S7, l7, m7, S6, l6, m6, rfl⟩ := hN4.nd
              have HQ4 : Hid (Below w3.heap.size w3 w4) := HQ.out.trans (hb4.mono HQ.out.size)
              have HN4 := Lib.hid hN4
              clear u0 u1 u2 u3 u4 HXq hg hb4 hN4 HQ z0
              go_upto_region 30 with fail
              refine wp_gen (fun w5 => Hid (Below w3.heap.size w3 w5) ∧ Hid (Blk w5 w4.heap.size (.int .i64 k9) (.int .i64 n9) (.string ⟨t9.toArray⟩) (.slice S7 l7 m7) (.slice S6 l6 m6)) ∧ Hid (NIs (fun b => wr.heap.size ≤ b) g w5 T (.agg #[.int .i64 k9, .int .i64 n9, .string ⟨t9.toArray⟩, .slice S7 l7 m7, .slice S6 l6 m6])))
                ⟨HQ4.out.alloc HQ4.out.size _, heap_alloc_new w4 _, HN4.out.below (al0 w4 _)⟩ ?_
              intro w5 ⟨HQ5, HX5, HN5⟩
              have HB5 : Hid (Below w.heap.size w w5) := HB3.out.trans (HQ5.out.mono HB3.out.size)
              have HXn : Hid (Blk w5 w2.heap.size (.int .i64 7) (.int .i64 0) (.string ⟨#[]⟩) (.slice (some ⟨b8, o8, none⟩) ks.length m8) (.slice S9 kids.length m9)) := (HQ5.out.block _ HX3.out.lt).trans HX3.out
              have n3 := HXn.out.cell 3 (by omega)
              have n8 : w5.cell? ⟨b8, o8 + k, none⟩ = some (.string V) := (HQ5.out.cell (p := ⟨b8, o8 + k, none⟩) hb8).trans HC8.out
              have u0 := HX5.out.cell 0 (by omega)
              have u1 := HX5.out.cell 1 (by omega)
              have u2 := HX5.out.cell 2 (by omega)
              have u3 := HX5.out.cell 3 (by omega)
              have u4 := HX5.out.cell 4 (by omega)
              have hcell : ∀ {j : Nat} {x : Value}, w.cell? ⟨b, off + 5 * k + j, none⟩ = some x → w5.cell? ⟨b, off + k * 5 + j, none⟩ = some x := fun {j x} hx => by
                rw [show off + k * 5 + j = off + 5 * k + j by omega]
                exact (HB5.out.cell (p := ⟨b, off + 5 * k + j, none⟩) hb0).trans hx
              have f0 : w5.cell? ⟨b, off + k * 5, none⟩ = _ := hcell (j := 0) HE.out.1
              have f1 := hcell HE.out.2.1
              have f2 := hcell HE.out.2.2.1
              have f3 := hcell HE.out.2.2.2.1
              have f4 := hcell HE.out.2.2.2.2
              have hR := fun W (hb : Below w5.heap.size w5 W) => ref_any g _ _ _ _ _ _ W (HN5.out.below hb) (HNk.out.below (HB5.out.trans (hb.mono HB5.out.size))) HO1.out HO1.out
              simp only [eqT_self] at hR
              have qv : (V.toList == V.toList) = true := by simp
              have qv2 : (V.toList != V.toList) = false := by simp
              clear hcell
              go_region_with (go_at_call 11; refine (hR w5.drew ⟨rfl, rfl, rfl, Nat.le_refl _, fun _ _ => rfl⟩).mono ?_; rintro y w6 ⟨rfl, hb6⟩)
              all_goals
                have hb7 : Below w5.heap.size w5 w6 := ⟨hb6.os, hb6.tape, hb6.output, hb6.size, hb6.block⟩
                have HQ6 : Hid (Below w3.heap.size w3 w6) := HQ5.out.trans (hb7.mono HQ5.out.size)
                clear hR hb6 hb7 u0 u1 u2 u3 u4 f0 f1 f2 f3 f4 n3 n8
                go_wp2
                go_roundw
                case rel => exact ⟨k + 1, by omega, by go_num, HQ6⟩
                case measure => simp [intOf]; omega
            · obtain rfl : k = ks.length := by omega
              go_wp2
              go_ret
              exact ⟨rfl, HB3.out.trans (HQ.out.mono HB3.out.size)⟩

end Go.Proofs.YtlaagdpanbineaaDoor
