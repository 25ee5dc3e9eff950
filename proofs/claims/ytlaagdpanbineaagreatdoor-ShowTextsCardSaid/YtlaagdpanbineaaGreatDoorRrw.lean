/- the document's Right: both tests say yes: the keys, the kids. -/
import Derived.Test.YtlaagdpanbineaaGreatDoorRrz
namespace Go.Proofs.YtlaagdpanbineaaGreatDoor
open Go.RowKit

set_option maxRecDepth 100000 in
set_option maxHeartbeats 16000000 in
theorem rright_w {N h : Nat} {kd nn : Int} {tx : List UInt8} {ks : List (List UInt8)} {kids : List NT} {v : Value} {d : Nat} {w : World} (hN : NIs (fun b => b < N) (h + 1) w (.mk kd nn tx ks kids) v) (hcap : KCap N (h + 1) w (.mk kd nn tx ks kids) v) (hNw : N ≤ w.heap.size) (hs : szT (.mk kd nn tx ks kids) ≤ 200000) (hi : okInt (.mk kd nn tx ks kids)) (hd : d ≤ 100) (HCA : Hid (cA kd nn tx ks kids)) (HCB : Hid (cB kd tx ks kids d)) (IH : Hid (RrC N h)) :
    Calls Tryz.prog 14 #[v, .int .i64 d] w (RgPost d (.mk kd nn tx ks kids) w) := by
    obtain ⟨kv, S, c1, rfl, ⟨S1, c0, rfl, hst⟩, hk⟩ := hN
    obtain ⟨hkc, hkk⟩ := hcap kd nn ⟨tx.toArray⟩ S1 S ks.length c0 kids.length c1 rfl
    unfold okInt at hi
    unfold szT at hs
    have hlen := len_szL kids
    have hlen2 : kids.length ≤ 1000000 := by omega
    have hks2 : ks.length ≤ 1000000 := by have := keys_le2 ks; omega
    have hyes := rgt_cAB (k := kd) (n := nn) (tx := tx) (ks := ks) (kids := kids) (d := d) hi.1 hi.2.1
    have hkl : ∀ x ∈ ks, x.length ≤ 200000 := fun x hx => by have := key_le hx; omega
    have htl : tx.length ≤ 200000 := by omega
    clear hlen
    have HY0 := Lib.hid hyes
    have HK : Hid (KidsAt (fun b => b < N) h w S kids) := hk
    have HKK := Lib.hid hkk
    have HKL := Lib.hid hkl
    have HI := Lib.hid hi
    have HS := Lib.hid hs
    have HST := Lib.hid hst
    obtain ⟨T, hT⟩ : ∃ T, NT.mk kd nn tx ks kids = T := ⟨_, rfl⟩
    have HT := Lib.hid hT
    rw [hT]
    obtain ⟨Y, hY⟩ : ∃ Y, (⟨tx.toArray⟩ : ByteArray) = Y := ⟨_, rfl⟩
    have hYs : Y.size ≤ 200000 := by rw [← hY, ← size_list]; exact htl
    have hVd : Hid (VdL tx ↔ vld Y Y.size 0 = true) := by rw [← hY]; exact Iff.rfl
    show Calls _ _ #[.agg #[.int .i64 kd, .int .i64 nn, .string ⟨tx.toArray⟩, .slice S1 ks.length c0, .slice S kids.length c1], _] w _
    rw [hY]
    have HYY := Lib.hid hY
    clear hyes hk hi hs hst hkk hkl htl hT
    clear hY
    go_enter Tryz.func14, Tryz.ntmps14
    go_upto_region 1 with fail
    refine wp_gen (fun w1 => Hid (Below w.heap.size w w1) ∧ Hid (Blk w1 w.heap.size (.int .i64 kd) (.int .i64 nn) (.string Y) (.slice S1 ks.length c0) (.slice S kids.length c1))) ⟨al0 w _, heap_alloc_new w _⟩ ?_
    intro w1 ⟨HB1, HX1⟩
    have x0 := HX1.out.cell 0 (by omega)
    have x1 := HX1.out.cell 1 (by omega)
    have x2 := HX1.out.cell 2 (by omega)
    have x3 := HX1.out.cell 3 (by omega)
    have x4 := HX1.out.cell 4 (by omega)
    go_cut [50] (fun b wx => b = .bool false ∧ wx = w1)
    case first =>
      by_cases hk4 : kd = 4
      · subst hk4
        by_cases ht : tx = []
        rotate_left
        · skip
          exact absurd HCA.out (cA_tx (by omega) ht)
        subst ht
        have hY := HYY.out
        subst hY
        by_cases hks : ks = []
        rotate_left
        · skip
          exact absurd HCA.out (cA_ks (by omega) hks)
        subst hks
        by_cases hkd : kids = []
        rotate_left
        · skip
          exact absurd HCA.out (cA_kids (by omega) hkd)
        subst hkd
        go_wp2
        go_meet
        exact ⟨rfl, rfl⟩
      by_cases hk5 : kd = 5
      · subst hk5
        by_cases hn : nn = 0
        rotate_left
        · skip
          exact absurd HCA.out (cA_n (by omega) hn)
        subst hn
        by_cases hks : ks = []
        rotate_left
        · skip
          exact absurd HCA.out (cA_ks (by omega) hks)
        subst hks
        by_cases hkd : kids = []
        rotate_left
        · skip
          exact absurd HCA.out (cA_kids (by omega) hkd)
        subst hkd
        go_wp2
        go_meet
        exact ⟨rfl, rfl⟩
      by_cases hk7 : kd = 7
      · subst hk7
        by_cases hn : nn = 0
        rotate_left
        · skip
          exact absurd HCA.out (cA_n (by omega) hn)
        subst hn
        by_cases ht : tx = []
        rotate_left
        · skip
          exact absurd HCA.out (cA_tx (by omega) ht)
        subst ht
        have hY := HYY.out
        subst hY
        go_wp2
        go_meet
        exact ⟨rfl, rfl⟩
      have p4 : (kd == 4) = false := by simpa using hk4
      have p5 : (kd == 5) = false := by simpa using hk5
      have p7 : (kd == 7) = false := by simpa using hk7
      by_cases h6 : kd < 6
      · have p6 : decide (kd < 6) = true := decide_eq_true h6
        by_cases hn : nn = 0
        rotate_left
        · skip
          exact absurd HCA.out (cA_n (by omega) hn)
        subst hn
        by_cases ht : tx = []
        rotate_left
        · skip
          exact absurd HCA.out (cA_tx (by omega) ht)
        subst ht
        have hY := HYY.out
        subst hY
        by_cases hks : ks = []
        rotate_left
        · skip
          exact absurd HCA.out (cA_ks (by omega) hks)
        subst hks
        by_cases hkd : kids = []
        rotate_left
        · skip
          exact absurd HCA.out (cA_kids (by omega) hkd)
        subst hkd
        go_wp2
        go_meet
        exact ⟨rfl, rfl⟩
      · have p6 : decide (kd < 6) = false := decide_eq_false h6
        by_cases hn : nn = 0
        rotate_left
        · skip
          exact absurd HCA.out (cA_n (by omega) hn)
        subst hn
        by_cases ht : tx = []
        rotate_left
        · skip
          exact absurd HCA.out (cA_tx (by omega) ht)
        subst ht
        have hY := HYY.out
        subst hY
        by_cases hks : ks = []
        rotate_left
        · skip
          exact absurd HCA.out (cA_ks (by omega) hks)
        subst hks
        go_wp2
        go_meet
        exact ⟨rfl, rfl⟩
    case rest =>
    obtain ⟨rfl, hw⟩ := hcut
    subst hw
    go_upto_region 3 with fail
    go_cut [87] (fun b wx => b = .bool false ∧ Hid (Below w.heap.size w wx) ∧ Hid (Blk wx w.heap.size (.int .i64 kd) (.int .i64 nn) (.string Y) (.slice S1 ks.length c0) (.slice S kids.length c1)))
    case first =>
      have hV := fun w => rvalid_any Y w hYs
      by_cases k1 : kd < 1
      · have q : decide (kd < 1) = true := decide_eq_true k1
        exact absurd HCB.out (fun h => by have := h.1; omega)
      have q1 : decide (kd < 1) = false := decide_eq_false k1
      by_cases k7 : 7 < kd
      · have q : decide (7 < kd) = true := decide_eq_true k7
        exact absurd HCB.out (fun h => by have := h.2.1; omega)
      have q7 : decide (7 < kd) = false := decide_eq_false k7
      cases hv : vld Y Y.size 0 with
      | false =>
        rw [hv] at hV
        have HNV : Hid (¬ VdL tx) := fun h => by have := hVd.out.1 h; rw [hv] at this; cases this
        clear hv
        exact absurd HCB.out (fun h => HNV.out h.2.2.1)
      | true =>
        rw [hv] at hV
        have HV := Lib.hid (hVd.out.2 hv)
        clear hv
        by_cases k6 : 6 ≤ kd
        · have q6 : decide (6 ≤ kd) = true := decide_eq_true k6
          by_cases kk : 31 < d
          · have qd : decide (31 < d) = true := decide_eq_true kk
            exact absurd HCB.out (fun h => by have := h.2.2.2.1 k6; omega)
          · have qd : decide (31 < d) = false := decide_eq_false kk
            by_cases ke : kd = 7
            · subst ke
              by_cases kl : ks.length = kids.length
              · have ql : ((ks.length : Int) != (kids.length : Int)) = false := by simp [kl]
                have HKL2 := Lib.hid kl
                clear kl
                go_wp2_with fail
                refine (hV _).mono ?_
                rintro e w2 ⟨rfl, hb2⟩
                have HX2 := Lib.hid (HX1.out.at hb2)
                have HB2 : Hid (Below w.heap.size w w2) := HB1.out.trans (hb2.mono HB1.out.size)
                have y0 := HX2.out.cell 0 (by omega)
                have y3 := HX2.out.cell 3 (by omega)
                have y4 := HX2.out.cell 4 (by omega)
                clear hb2 hV
                go_wp2
                all_goals (try (exfalso; omega))
                go_meet
                exact ⟨by first | rfl | (simp <;> omega), HB2, HX2⟩
              · have ql : ((ks.length : Int) != (kids.length : Int)) = true := by rw [bne_iff_ne]; omega
                have HKL2 := Lib.hid kl
                clear kl
                exact absurd HCB.out (fun h => HKL2.out (h.2.2.2.2 rfl))
            · have qe : (kd == 7) = false := by rw [beq_eq_false_iff_ne]; exact ke
              go_wp2_with fail
              refine (hV _).mono ?_
              rintro e w2 ⟨rfl, hb2⟩
              have HX2 := Lib.hid (HX1.out.at hb2)
              have HB2 : Hid (Below w.heap.size w w2) := HB1.out.trans (hb2.mono HB1.out.size)
              have y0 := HX2.out.cell 0 (by omega)
              have y3 := HX2.out.cell 3 (by omega)
              have y4 := HX2.out.cell 4 (by omega)
              clear hb2 hV
              go_wp2
              all_goals (try (exfalso; omega))
              go_meet
              exact ⟨by first | rfl | (simp <;> omega), HB2, HX2⟩
        · have q6 : decide (6 ≤ kd) = false := decide_eq_false k6
          have qe : (kd == 7) = false := by rw [beq_eq_false_iff_ne]; omega
          go_wp2_with fail
          refine (hV _).mono ?_
          rintro e w2 ⟨rfl, hb2⟩
          have HX2 := Lib.hid (HX1.out.at hb2)
          have HB2 : Hid (Below w.heap.size w w2) := HB1.out.trans (hb2.mono HB1.out.size)
          have y0 := HX2.out.cell 0 (by omega)
          have y3 := HX2.out.cell 3 (by omega)
          have y4 := HX2.out.cell 4 (by omega)
          clear hb2 hV
          go_wp2
          all_goals (try (exfalso; omega))
          go_meet
          exact ⟨by first | rfl | (simp <;> omega), HB2, HX2⟩
    case rest =>
    clear HB1 HX1 x0 x1 x2 x3 x4
    obtain ⟨rfl, HB2, HX2⟩ := hcut
    have x3 := HX2.out.cell 3 (by omega)
    go_wp2
    clear x3
    go_loopw [5, 6, 8, 91] (fun _ _ _ i wr => ∃ k : Nat, k ≤ ks.length ∧ i = .int .i64 k ∧ Hid (KeysOk ks k) ∧ Hid (Below w.heap.size w wr) ∧ Hid (Blk wr w.heap.size (.int .i64 kd) (.int .i64 nn) (.string Y) (.slice S1 ks.length c0) (.slice S kids.length c1))) (fun _ _ _ i _ => ks.length - (intOf i).toNat)
    case atStart => exact ⟨0, Nat.zero_le _, rfl, KeysOk.zero ks, HB2, HX2⟩
    case round =>
      clear HB2 HX2
      obtain ⟨k, hkl, rfl, HO, HB, HX⟩ := hrel
      by_cases hlt : k < ks.length
      · obtain ⟨b1, o1, rfl, hb1, hcell⟩ : ∃ b off, S1 = some ⟨b, off, none⟩ ∧ b < w.heap.size ∧ ∀ j, (hj : j < ks.length) → w.cell? ⟨b, off + j, none⟩ = some (.string ⟨ks[j].toArray⟩) := by
          rcases HST.out with e | ⟨b, off, e, _, hbl, h2⟩
          · rw [e] at hlt; simp at hlt
          · refine ⟨b, off, e, hbl, fun j hj => ?_⟩
            have := h2 j hj
            rwa [List.getD_eq_getElem?_getD, List.getElem?_eq_getElem hj, Option.getD_some] at this
        have HCL := Lib.hid hcell
        have z0 : wr.cell? ⟨b1, o1 + k, none⟩ = some (.string ⟨ks[k].toArray⟩) := (HB.out.cell (p := ⟨b1, o1 + k, none⟩) hb1).trans (hcell k hlt)
        obtain ⟨V, hV⟩ : ∃ V : ByteArray, (⟨ks[k].toArray⟩ : ByteArray) = V := ⟨_, rfl⟩
        rw [hV] at z0
        have hVs : V.size ≤ 200000 := by
          have h1 := HKL.out _ (List.getElem_mem hlt)
          rw [← hV]
          show ks[k].toArray.size ≤ _
          rw [List.size_toArray]
          exact h1
        have hVd : Hid (VdL ks[k] ↔ vld V V.size 0 = true) := by rw [← hV]; exact Iff.rfl
        have HVV := Lib.hid hV
        have hq := fun w => rvalid_any V w hVs
        clear hcell hV
        cases hv : vld V V.size 0 with
        | false =>
          rw [hv] at hq
          have HNO : Hid (¬ rgt d T) := fun hr => by
            have h1 := (HY0.out.1 (by rw [HT.out]; exact hr)).2.2.1.1 _ (List.getElem_mem hlt)
            have h2 := hVd.out.1 h1
            rw [hv] at h2; cases h2
          clear hv
          go_wp2_with (go_at_call 25; refine (hq _).mono ?_; rintro e w2 ⟨rfl, hb2⟩)
          go_ret
          exact RgPost.no HNO.out (HB.out.trans (hb2.mono HB.out.size))
        | true =>
          rw [hv] at hq
          have HV1 := Lib.hid (hVd.out.2 hv)
          clear hv
          go_wp2_with fail
          refine (hq _).mono ?_
          rintro e w2 ⟨rfl, hb2⟩
          have HB2 : Hid (Below w.heap.size w w2) := HB.out.trans (hb2.mono HB.out.size)
          have HX2 := Lib.hid (HX.out.at hb2)
          have y3 := HX2.out.cell 3 (by omega)
          have hkc2 : k ≤ c0 := by omega
          clear hq hb2 z0 HB HX
          go_wp2
          clear y3
          go_loopw [8, 104] (fun _ j wi => ∃ m : Nat, m ≤ k ∧ j = .int .i64 m ∧ Hid (∀ j, (hj : j < m) → (hj2 : j < ks.length) → ks[j] ≠ ks[k]) ∧ w2 = wi) (fun _ j _ => k - (intOf j).toNat)
          case atStart => exact ⟨0, Nat.zero_le _, rfl, fun j hj => absurd hj (Nat.not_lt_zero _), rfl⟩
          case round =>
            obtain ⟨m, hmk, rfl, HD, hw⟩ := hrel
            subst hw
            by_cases hm : m < k
            · have z1 : w2.cell? ⟨b1, o1 + m, none⟩ = some (.string ⟨ks[m].toArray⟩) := (HB2.out.cell (p := ⟨b1, o1 + m, none⟩) hb1).trans (HCL.out m (by omega))
              by_cases he : ks[m] = ks[k]
              · have e1 : ((⟨ks[m].toArray⟩ : ByteArray).toList == V.toList) = true := by rw [← HVV.out, ba_inj]; exact decide_eq_true he
                have HNO : Hid (¬ rgt d T) := fun hr => nodup_no hlt hm he (HY0.out.1 (by rw [HT.out]; exact hr)).2.2.1.2
                obtain ⟨U, hU⟩ : ∃ U : ByteArray, (⟨ks[m].toArray⟩ : ByteArray) = U := ⟨_, rfl⟩
                rw [hU] at z1 e1
                clear hU he HD
                go_wp2
                go_ret
                exact RgPost.no HNO.out HB2.out
              · have e1 : ((⟨ks[m].toArray⟩ : ByteArray).toList == V.toList) = false := by rw [← HVV.out, ba_inj]; exact decide_eq_false he
                have HD2 : Hid (∀ j, (hj : j < m + 1) → (hj2 : j < ks.length) → ks[j] ≠ ks[k]) := fun j hj hj2 => by
                  by_cases hjm : j = m
                  · subst hjm; exact he
                  · exact HD.out j (by omega) hj2
                obtain ⟨U, hU⟩ : ∃ U : ByteArray, (⟨ks[m].toArray⟩ : ByteArray) = U := ⟨_, rfl⟩
                rw [hU] at z1 e1
                clear hU he HD
                go_wp2
                go_roundw
                case rel => exact ⟨m + 1, by omega, by go_num, HD2, trivial⟩
                case measure => simp [intOf]; omega
            · obtain rfl : m = k := by omega
              have HO2 : Hid (KeysOk ks (m + 1)) := HO.out.next hlt HV1.out (fun j hj => HD.out j hj (by omega))
              clear HD
              go_wp2
              go_roundw
              case rel => exact ⟨m + 1, by omega, by go_num, HO2, HB2, HX2⟩
              case measure => simp [intOf]; omega
      · obtain rfl : k = ks.length := by omega
        have HKO := Lib.hid HO.out.end
        have x4 := HX.out.cell 4 (by omega)
        clear HO
        go_wp2
        clear x4
        go_loopw [10, 116] (fun _ i wi => ∃ k : Nat, k ≤ kids.length ∧ i = .int .i64 k ∧ Hid (rgtL (d + 1) (kids.take k)) ∧ Hid (Below w.heap.size w wi)) (fun _ i _ => kids.length - (intOf i).toNat)
        case atStart => exact ⟨0, Nat.zero_le _, rfl, by simp [rgtL, Hid], HB⟩
        case round =>
          clear HB HX
          obtain ⟨k, hkl2, rfl, HR, HB⟩ := hrel
          by_cases hlt : k < kids.length
          · obtain ⟨b, off, rfl, hbN, hb0, hc⟩ : ∃ b off, S = some ⟨b, off, none⟩ ∧ b < N ∧ b < w.heap.size ∧ ∀ j (hj : j < kids.length), ∃ c0 c1 c2 c3 c4,
                w.cell? ⟨b, off + 5 * j, none⟩ = some c0 ∧ w.cell? ⟨b, off + 5 * j + 1, none⟩ = some c1 ∧ w.cell? ⟨b, off + 5 * j + 2, none⟩ = some c2 ∧ w.cell? ⟨b, off + 5 * j + 3, none⟩ = some c3 ∧ w.cell? ⟨b, off + 5 * j + 4, none⟩ = some c4 ∧
                NIs (fun b => b < N) h w kids[j] (.agg #[c0, c1, c2, c3, c4]) := by
              rcases HK.out with e | ⟨b, off, e, h0, h1, h2⟩
              · rw [e] at hlt; simp at hlt
              · exact ⟨b, off, e, h0, h1, h2⟩
            obtain ⟨x0, x1, x2, x3, x4, e0, e1, e2, e3, e4, hNk⟩ := hc k hlt
            have hCk := HKK.out b off rfl hbN k hlt x0 x1 x2 x3 x4 e0 e1 e2 e3 e4
            obtain ⟨kk, n2, t2, S3, l3, m3, S4, l4, m4, hv⟩ := hNk.nd
            simp only [Value.agg.injEq, Array.mk.injEq, List.cons.injEq, and_true] at hv
            obtain ⟨rfl, rfl, rfl, rfl, rfl⟩ := hv
            have hcell : ∀ {j : Nat} {x : Value}, w.cell? ⟨b, off + 5 * k + j, none⟩ = some x → wr.cell? ⟨b, off + k * 5 + j, none⟩ = some x := fun {j x} hx => by
              rw [show off + k * 5 + j = off + 5 * k + j by omega]
              exact (HB.out.cell (p := ⟨b, off + 5 * k + j, none⟩) hb0).trans hx
            have f0 : wr.cell? ⟨b, off + k * 5, none⟩ = _ := hcell (j := 0) e0
            have f1 := hcell e1
            have f2 := hcell e2
            have f3 := hcell e3
            have f4 := hcell e4
            have hba : ∀ o, Below w.heap.size w (wr.alloc o) := fun o => HB.out.alloc (HB.out.size) _
            have hmem : kids[k] ∈ kids := List.getElem_mem hlt
            have hD1 := HCB.out.2.2.2.1
            have hd3 : d + 1 ≤ 100 := by
              have h6 : 6 ≤ kd := by
                have := HCA.out.2.2.2
                rcases this with h | h
                · exact h
                · rw [h] at hlt; simp at hlt
              have := hD1 h6
              omega
            have hsz : szT kids[k] ≤ 200000 := by
              have h1 := szL_mem hmem
              have h2 := HS.out
              omega
            have hT : ∀ o, Calls Tryz.prog 14 #[_, .int .i64 ((d : Int) + 1)] (wr.alloc o) (RgPost (d + 1) kids[k] (wr.alloc o)) := fun o => IH.out kids[k] _ (d + 1) (wr.alloc o) (hNk.below (hba o)) (hCk.at hNw (hba o)) (Nat.le_trans hNw (hba o).size) hsz (okIntL_mem HI.out.2.2 _ hmem) hd3
            have HBA := Lib.hid hba
            have HRR : Hid (∀ b, (b = true ↔ rgt (d + 1) kids[k]) → (b = true → rgtL (d + 1) (kids.take (k + 1))) ∧ (b = false → ¬ rgt d T)) := fun b hb => ⟨fun e => rgtL_take HR.out hlt (hb.1 e), fun e hr => by
              have h1 := (HY0.out.1 (by rw [HT.out]; exact hr)).2.2.2
              have h2 := hb.2 (rgtL_mem.1 h1 _ hmem)
              rw [e] at h2; cases h2⟩
            clear e0 e1 e2 e3 e4 hc hcell hba hNk hCk hD1 hmem HR
            go_wp2_with fail
            refine (hT _).mono ?_
            rintro e w2 ⟨⟨b0, rfl, hb0iff⟩, hb2⟩
            have HB2 : Hid (Below w.heap.size w w2) := (HBA.out _).trans (hb2.mono (HBA.out _).size)
            have HR2 := Lib.hid (HRR.out b0 hb0iff)
            clear hT hb2 hb0iff HRR
            cases b0 with
            | true =>
              go_wp2
              go_roundw
              case rel => exact ⟨k + 1, by omega, by go_num, HR2.out.1 trivial, HB2⟩
              case measure => simp [intOf]; omega
            | false =>
              go_wp2
              go_ret
              exact RgPost.no (HR2.out.2 trivial) HB2.out
          · obtain rfl : k = kids.length := by omega
            have HF : Hid (rgt d T) := by
              have := HR.out
              rw [List.take_length] at this
              rw [← HT.out]
              exact HY0.out.2 ⟨HCA.out, HCB.out, HKO.out, this⟩
            go_wp2
            go_ret
            exact RgPost.yes HF.out HB.out

end Go.Proofs.YtlaagdpanbineaaGreatDoor
