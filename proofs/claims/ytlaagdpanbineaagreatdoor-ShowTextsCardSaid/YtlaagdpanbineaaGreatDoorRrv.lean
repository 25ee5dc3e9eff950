/- the document's Right: the second test says no. -/
import Derived.Test.YtlaagdpanbineaaGreatDoorRrz
namespace Go.Proofs.YtlaagdpanbineaaGreatDoor
open Go.RowKit

set_option maxRecDepth 100000 in
set_option maxHeartbeats 16000000 in
theorem rright_v {N h : Nat} {kd nn : Int} {tx : List UInt8} {ks : List (List UInt8)} {kids : List NT} {v : Value} {d : Nat} {w : World} (hN : NIs (fun b => b < N) (h + 1) w (.mk kd nn tx ks kids) v) (hcap : KCap N (h + 1) w (.mk kd nn tx ks kids) v) (hs : szT (.mk kd nn tx ks kids) ≤ 200000) (hi : okInt (.mk kd nn tx ks kids)) (hd : d ≤ 100) (HCA : Hid (cA kd nn tx ks kids)) (HNB : Hid (¬ cB kd tx ks kids d)) :
    Calls Tryz.prog 14 #[v, .int .i64 d] w (RgPost d (.mk kd nn tx ks kids) w) := by
    obtain ⟨kv, S, c1, rfl, ⟨S1, c0, rfl, hst⟩, hk⟩ := hN
    obtain ⟨hkc, hkk⟩ := hcap kd nn ⟨tx.toArray⟩ S1 S ks.length c0 kids.length c1 rfl
    unfold okInt at hi
    unfold szT at hs
    have hlen := len_szL kids
    have hlen2 : kids.length ≤ 1000000 := by omega
    have hks2 : ks.length ≤ 1000000 := by have := keys_le2 ks; omega
    have hyes := rgt_cAB (k := kd) (n := nn) (tx := tx) (ks := ks) (kids := kids) (d := d) hi.1 hi.2.1
    have hkl : ∀ x ∈ ks, x.length ≤ 200000 := fun x hx => by have := key_le hx; omega
    have htl : tx.length ≤ 200000 := by omega
    clear hlen
    have HY0 := Lib.hid hyes
    have HK : Hid (KidsAt (fun b => b < N) h w S kids) := hk
    have HKK := Lib.hid hkk
    have HKL := Lib.hid hkl
    have HI := Lib.hid hi
    have HS := Lib.hid hs
    have HST := Lib.hid hst
    obtain ⟨T, hT⟩ : ∃ T, NT.mk kd nn tx ks kids = T := ⟨_, rfl⟩
    have HT := Lib.hid hT
    rw [hT]
    obtain ⟨Y, hY⟩ : ∃ Y, (⟨tx.toArray⟩ : ByteArray) = Y := ⟨_, rfl⟩
    have hYs : Y.size ≤ 200000 := by rw [← hY, ← size_list]; exact htl
    have hVd : Hid (VdL tx ↔ vld Y Y.size 0 = true) := by rw [← hY]; exact Iff.rfl
    show Calls _ _ #[.agg #[.int .i64 kd, .int .i64 nn, .string ⟨tx.toArray⟩, .slice S1 ks.length c0, .slice S kids.length c1], _] w _
    rw [hY]
    have HYY := Lib.hid hY
    clear hyes hk hi hs hst hkk hkl htl hT
    clear hY
    go_enter Tryz.func14, Tryz.ntmps14
    go_upto_region 1 with fail
    refine wp_gen (fun w1 => Hid (Below w.heap.size w w1) ∧ Hid (Blk w1 w.heap.size (.int .i64 kd) (.int .i64 nn) (.string Y) (.slice S1 ks.length c0) (.slice S kids.length c1))) ⟨al0 w _, heap_alloc_new w _⟩ ?_
    intro w1 ⟨HB1, HX1⟩
    have x0 := HX1.out.cell 0 (by omega)
    have x1 := HX1.out.cell 1 (by omega)
    have x2 := HX1.out.cell 2 (by omega)
    have x3 := HX1.out.cell 3 (by omega)
    have x4 := HX1.out.cell 4 (by omega)
    go_cut [50] (fun b wx => b = .bool false ∧ wx = w1)
    case first =>
      by_cases hk4 : kd = 4
      · subst hk4
        by_cases ht : tx = []
        rotate_left
        · skip
          exact absurd HCA.out (cA_tx (by omega) ht)
        subst ht
        have hY := HYY.out
        subst hY
        by_cases hks : ks = []
        rotate_left
        · skip
          exact absurd HCA.out (cA_ks (by omega) hks)
        subst hks
        by_cases hkd : kids = []
        rotate_left
        · skip
          exact absurd HCA.out (cA_kids (by omega) hkd)
        subst hkd
        go_wp2
        go_meet
        exact ⟨rfl, rfl⟩
      by_cases hk5 : kd = 5
      · subst hk5
        by_cases hn : nn = 0
        rotate_left
        · skip
          exact absurd HCA.out (cA_n (by omega) hn)
        subst hn
        by_cases hks : ks = []
        rotate_left
        · skip
          exact absurd HCA.out (cA_ks (by omega) hks)
        subst hks
        by_cases hkd : kids = []
        rotate_left
        · skip
          exact absurd HCA.out (cA_kids (by omega) hkd)
        subst hkd
        go_wp2
        go_meet
        exact ⟨rfl, rfl⟩
      by_cases hk7 : kd = 7
      · subst hk7
        by_cases hn : nn = 0
        rotate_left
        · skip
          exact absurd HCA.out (cA_n (by omega) hn)
        subst hn
        by_cases ht : tx = []
        rotate_left
        · skip
          exact absurd HCA.out (cA_tx (by omega) ht)
        subst ht
        have hY := HYY.out
        subst hY
        go_wp2
        go_meet
        exact ⟨rfl, rfl⟩
      have p4 : (kd == 4) = false := by simpa using hk4
      have p5 : (kd == 5) = false := by simpa using hk5
      have p7 : (kd == 7) = false := by simpa using hk7
      by_cases h6 : kd < 6
      · have p6 : decide (kd < 6) = true := decide_eq_true h6
        by_cases hn : nn = 0
        rotate_left
        · skip
          exact absurd HCA.out (cA_n (by omega) hn)
        subst hn
        by_cases ht : tx = []
        rotate_left
        · skip
          exact absurd HCA.out (cA_tx (by omega) ht)
        subst ht
        have hY := HYY.out
        subst hY
        by_cases hks : ks = []
        rotate_left
        · skip
          exact absurd HCA.out (cA_ks (by omega) hks)
        subst hks
        by_cases hkd : kids = []
        rotate_left
        · skip
          exact absurd HCA.out (cA_kids (by omega) hkd)
        subst hkd
        go_wp2
        go_meet
        exact ⟨rfl, rfl⟩
      · have p6 : decide (kd < 6) = false := decide_eq_false h6
        by_cases hn : nn = 0
        rotate_left
        · skip
          exact absurd HCA.out (cA_n (by omega) hn)
        subst hn
        by_cases ht : tx = []
        rotate_left
        · skip
          exact absurd HCA.out (cA_tx (by omega) ht)
        subst ht
        have hY := HYY.out
        subst hY
        by_cases hks : ks = []
        rotate_left
        · skip
          exact absurd HCA.out (cA_ks (by omega) hks)
        subst hks
        go_wp2
        go_meet
        exact ⟨rfl, rfl⟩
    case rest =>
    obtain ⟨rfl, hw⟩ := hcut
    subst hw
    go_upto_region 3 with fail
    go_cut [87] (fun b wx => b = .bool true ∧ Hid (Below w.heap.size w wx))
    case first =>
      have hV := fun w => rvalid_any Y w hYs
      by_cases k1 : kd < 1
      · have q : decide (kd < 1) = true := decide_eq_true k1
        go_wp2
        go_meet
        exact ⟨rfl, HB1⟩
      have q1 : decide (kd < 1) = false := decide_eq_false k1
      by_cases k7 : 7 < kd
      · have q : decide (7 < kd) = true := decide_eq_true k7
        go_wp2
        go_meet
        exact ⟨rfl, HB1⟩
      have q7 : decide (7 < kd) = false := decide_eq_false k7
      cases hv : vld Y Y.size 0 with
      | false =>
        rw [hv] at hV
        have HNV : Hid (¬ VdL tx) := fun h => by have := hVd.out.1 h; rw [hv] at this; cases this
        clear hv
        go_wp2_with (go_at_call 25; refine (hV _).mono ?_; rintro e w2 ⟨rfl, hb2⟩)
        go_meet
        exact ⟨rfl, HB1.out.trans (hb2.mono HB1.out.size)⟩
      | true =>
        rw [hv] at hV
        have HV := Lib.hid (hVd.out.2 hv)
        clear hv
        by_cases k6 : 6 ≤ kd
        · have q6 : decide (6 ≤ kd) = true := decide_eq_true k6
          by_cases kk : 31 < d
          · have qd : decide (31 < d) = true := decide_eq_true kk
            go_wp2_with fail
            refine (hV _).mono ?_
            rintro e w2 ⟨rfl, hb2⟩
            have HX2 := Lib.hid (HX1.out.at hb2)
            have HB2 : Hid (Below w.heap.size w w2) := HB1.out.trans (hb2.mono HB1.out.size)
            have y0 := HX2.out.cell 0 (by omega)
            have y3 := HX2.out.cell 3 (by omega)
            have y4 := HX2.out.cell 4 (by omega)
            clear hb2 hV
            go_wp2
            all_goals (try (exfalso; omega))
            go_meet
            exact ⟨by first | rfl | simp, HB2⟩
          · have qd : decide (31 < d) = false := decide_eq_false kk
            by_cases ke : kd = 7
            · subst ke
              by_cases kl : ks.length = kids.length
              · have ql : ((ks.length : Int) != (kids.length : Int)) = false := by simp [kl]
                have HKL2 := Lib.hid kl
                clear kl
                exact (HNB.out ⟨by omega, by omega, HV.out, fun _ => by omega, fun _ => HKL2.out⟩).elim
              · have ql : ((ks.length : Int) != (kids.length : Int)) = true := by rw [bne_iff_ne]; omega
                have HKL2 := Lib.hid kl
                clear kl
                go_wp2_with fail
                refine (hV _).mono ?_
                rintro e w2 ⟨rfl, hb2⟩
                have HX2 := Lib.hid (HX1.out.at hb2)
                have HB2 : Hid (Below w.heap.size w w2) := HB1.out.trans (hb2.mono HB1.out.size)
                have y0 := HX2.out.cell 0 (by omega)
                have y3 := HX2.out.cell 3 (by omega)
                have y4 := HX2.out.cell 4 (by omega)
                clear hb2 hV
                go_wp2
                all_goals (try (exfalso; omega))
                go_meet
                exact ⟨by first | rfl | simp, HB2⟩
            · have qe : (kd == 7) = false := by rw [beq_eq_false_iff_ne]; exact ke
              exact (HNB.out ⟨by omega, by omega, HV.out, fun _ => by omega, fun h => absurd h ke⟩).elim
        · have q6 : decide (6 ≤ kd) = false := decide_eq_false k6
          have qe : (kd == 7) = false := by rw [beq_eq_false_iff_ne]; omega
          exact (HNB.out ⟨by omega, by omega, HV.out, fun h => by omega, fun h => by omega⟩).elim
    case rest =>
    clear HB1 HX1 x0 x1 x2 x3 x4
    obtain ⟨rfl, HB2⟩ := hcut
    go_wp2
    go_ret
    exact RgPost.no (fun hr => HNB.out (HY0.out.1 (by rw [HT.out]; exact hr)).2.1) HB2.out

end Go.Proofs.YtlaagdpanbineaaGreatDoor
