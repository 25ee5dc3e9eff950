/- the document's Right: the first test says no. -/
import Derived.Test.YtlaagdpanbineaaGreatDoorRrz
namespace Go.Proofs.YtlaagdpanbineaaGreatDoor
open Go.RowKit

set_option maxRecDepth 100000 in
set_option maxHeartbeats 16000000 in
theorem rright_u {N h : Nat} {kd nn : Int} {tx : List UInt8} {ks : List (List UInt8)} {kids : List NT} {v : Value} {d : Nat} {w : World} (hN : NIs (fun b => b < N) (h + 1) w (.mk kd nn tx ks kids) v) (hcap : KCap N (h + 1) w (.mk kd nn tx ks kids) v) (hs : szT (.mk kd nn tx ks kids) ≤ 200000) (hi : okInt (.mk kd nn tx ks kids)) (HNO : Hid (¬ cA kd nn tx ks kids)) :
    Calls Tryz.prog 14 #[v, .int .i64 d] w (RgPost d (.mk kd nn tx ks kids) w) := by
    obtain ⟨kv, S, c1, rfl, ⟨S1, c0, rfl, hst⟩, hk⟩ := hN
    obtain ⟨hkc, hkk⟩ := hcap kd nn ⟨tx.toArray⟩ S1 S ks.length c0 kids.length c1 rfl
    unfold okInt at hi
    unfold szT at hs
    have hlen := len_szL kids
    have hlen2 : kids.length ≤ 1000000 := by omega
    have hks2 : ks.length ≤ 1000000 := by have := keys_le2 ks; omega
    have hyes := rgt_cAB (k := kd) (n := nn) (tx := tx) (ks := ks) (kids := kids) (d := d) hi.1 hi.2.1
    have hkl : ∀ x ∈ ks, x.length ≤ 200000 := fun x hx => by have := key_le hx; omega
    have htl : tx.length ≤ 200000 := by omega
    clear hlen
    have HY0 := Lib.hid hyes
    have HK : Hid (KidsAt (fun b => b < N) h w S kids) := hk
    have HKK := Lib.hid hkk
    have HKL := Lib.hid hkl
    have HI := Lib.hid hi
    have HS := Lib.hid hs
    have HST := Lib.hid hst
    obtain ⟨T, hT⟩ : ∃ T, NT.mk kd nn tx ks kids = T := ⟨_, rfl⟩
    have HT := Lib.hid hT
    rw [hT]
    obtain ⟨Y, hY⟩ : ∃ Y, (⟨tx.toArray⟩ : ByteArray) = Y := ⟨_, rfl⟩
    have hYs : Y.size ≤ 200000 := by rw [← hY, ← size_list]; exact htl
    have hVd : Hid (VdL tx ↔ vld Y Y.size 0 = true) := by rw [← hY]; exact Iff.rfl
    show Calls _ _ #[.agg #[.int .i64 kd, .int .i64 nn, .string ⟨tx.toArray⟩, .slice S1 ks.length c0, .slice S kids.length c1], _] w _
    rw [hY]
    have HYY := Lib.hid hY
    clear hyes hk hi hs hst hkk hkl htl hT
    clear hY
    go_enter Tryz.func14, Tryz.ntmps14
    go_upto_region 1 with fail
    refine wp_gen (fun w1 => Hid (Below w.heap.size w w1) ∧ Hid (Blk w1 w.heap.size (.int .i64 kd) (.int .i64 nn) (.string Y) (.slice S1 ks.length c0) (.slice S kids.length c1))) ⟨al0 w _, heap_alloc_new w _⟩ ?_
    intro w1 ⟨HB1, HX1⟩
    have x0 := HX1.out.cell 0 (by omega)
    have x1 := HX1.out.cell 1 (by omega)
    have x2 := HX1.out.cell 2 (by omega)
    have x3 := HX1.out.cell 3 (by omega)
    have x4 := HX1.out.cell 4 (by omega)
    go_cut [50] (fun b wx => b = .bool true ∧ wx = w1)
    case first =>
      by_cases hk4 : kd = 4
      · subst hk4
        by_cases ht : tx = []
        rotate_left
        · have q1 := tx_ne ht
          have q2 := tx_neB ht
          rw [HYY.out] at q1 q2
          go_wp2
          all_goals (try (exfalso; omega))
          go_meet
          exact ⟨by first | rfl | (rw [decide_eq_true qn]), rfl⟩
        subst ht
        have hY := HYY.out
        subst hY
        by_cases hks : ks = []
        rotate_left
        · have q := len_pos hks
          have qn := List.length_pos_iff.2 hks
          go_wp2
          all_goals (try (exfalso; omega))
          go_meet
          exact ⟨by first | rfl | (rw [decide_eq_true qn]), rfl⟩
        subst hks
        by_cases hkd : kids = []
        rotate_left
        · have q := len_pos hkd
          have qn := List.length_pos_iff.2 hkd
          go_wp2
          all_goals (try (exfalso; omega))
          go_meet
          exact ⟨by first | rfl | (rw [decide_eq_true qn]), rfl⟩
        subst hkd
        exact (HNO.out ⟨.inl rfl, .inr rfl, .inr rfl, .inr rfl⟩).elim
      by_cases hk5 : kd = 5
      · subst hk5
        by_cases hn : nn = 0
        rotate_left
        · have q : (nn == 0) = false := by simpa using hn
          go_wp2
          all_goals (try (exfalso; omega))
          go_meet
          exact ⟨by first | rfl | (rw [decide_eq_true qn]), rfl⟩
        subst hn
        by_cases hks : ks = []
        rotate_left
        · have q := len_pos hks
          have qn := List.length_pos_iff.2 hks
          go_wp2
          all_goals (try (exfalso; omega))
          go_meet
          exact ⟨by first | rfl | (rw [decide_eq_true qn]), rfl⟩
        subst hks
        by_cases hkd : kids = []
        rotate_left
        · have q := len_pos hkd
          have qn := List.length_pos_iff.2 hkd
          go_wp2
          all_goals (try (exfalso; omega))
          go_meet
          exact ⟨by first | rfl | (rw [decide_eq_true qn]), rfl⟩
        subst hkd
        exact (HNO.out ⟨.inr rfl, .inl rfl, .inr rfl, .inr rfl⟩).elim
      by_cases hk7 : kd = 7
      · subst hk7
        by_cases hn : nn = 0
        rotate_left
        · have q : (nn == 0) = false := by simpa using hn
          go_wp2
          all_goals (try (exfalso; omega))
          go_meet
          exact ⟨by first | rfl | (rw [decide_eq_true qn]), rfl⟩
        subst hn
        by_cases ht : tx = []
        rotate_left
        · have q1 := tx_ne ht
          have q2 := tx_neB ht
          rw [HYY.out] at q1 q2
          go_wp2
          all_goals (try (exfalso; omega))
          go_meet
          exact ⟨by first | rfl | (rw [decide_eq_true qn]), rfl⟩
        subst ht
        have hY := HYY.out
        subst hY
        exact (HNO.out ⟨.inr rfl, .inr rfl, .inl rfl, .inl (by omega)⟩).elim
      have p4 : (kd == 4) = false := by simpa using hk4
      have p5 : (kd == 5) = false := by simpa using hk5
      have p7 : (kd == 7) = false := by simpa using hk7
      by_cases h6 : kd < 6
      · have p6 : decide (kd < 6) = true := decide_eq_true h6
        by_cases hn : nn = 0
        rotate_left
        · have q : (nn == 0) = false := by simpa using hn
          go_wp2
          all_goals (try (exfalso; omega))
          go_meet
          exact ⟨by first | rfl | (rw [decide_eq_true qn]), rfl⟩
        subst hn
        by_cases ht : tx = []
        rotate_left
        · have q1 := tx_ne ht
          have q2 := tx_neB ht
          rw [HYY.out] at q1 q2
          go_wp2
          all_goals (try (exfalso; omega))
          go_meet
          exact ⟨by first | rfl | (rw [decide_eq_true qn]), rfl⟩
        subst ht
        have hY := HYY.out
        subst hY
        by_cases hks : ks = []
        rotate_left
        · have q := len_pos hks
          have qn := List.length_pos_iff.2 hks
          go_wp2
          all_goals (try (exfalso; omega))
          go_meet
          exact ⟨by first | rfl | (rw [decide_eq_true qn]), rfl⟩
        subst hks
        by_cases hkd : kids = []
        rotate_left
        · have q := len_pos hkd
          have qn := List.length_pos_iff.2 hkd
          go_wp2
          all_goals (try (exfalso; omega))
          go_meet
          exact ⟨by first | rfl | (rw [decide_eq_true qn]), rfl⟩
        subst hkd
        exact (HNO.out ⟨.inr rfl, .inr rfl, .inr rfl, .inr rfl⟩).elim
      · have p6 : decide (kd < 6) = false := decide_eq_false h6
        by_cases hn : nn = 0
        rotate_left
        · have q : (nn == 0) = false := by simpa using hn
          go_wp2
          all_goals (try (exfalso; omega))
          go_meet
          exact ⟨by first | rfl | (rw [decide_eq_true qn]), rfl⟩
        subst hn
        by_cases ht : tx = []
        rotate_left
        · have q1 := tx_ne ht
          have q2 := tx_neB ht
          rw [HYY.out] at q1 q2
          go_wp2
          all_goals (try (exfalso; omega))
          go_meet
          exact ⟨by first | rfl | (rw [decide_eq_true qn]), rfl⟩
        subst ht
        have hY := HYY.out
        subst hY
        by_cases hks : ks = []
        rotate_left
        · have q := len_pos hks
          have qn := List.length_pos_iff.2 hks
          go_wp2
          all_goals (try (exfalso; omega))
          go_meet
          exact ⟨by first | rfl | (rw [decide_eq_true qn]), rfl⟩
        subst hks
        exact (HNO.out ⟨.inr rfl, .inr rfl, .inr rfl, .inl (by omega)⟩).elim
    case rest =>
    obtain ⟨rfl, hw⟩ := hcut
    subst hw
    go_wp2
    go_ret
    exact RgPost.no (fun hr => HNO.out (HY0.out.1 (by rw [HT.out]; exact hr)).1) HB1.out

end Go.Proofs.YtlaagdpanbineaaGreatDoor
