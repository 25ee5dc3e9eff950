/- The document's Scan: how many bytes the whole part at a place has, and how many all has. -/
import Derived.Test.YtlaagdpanbineaaGreatDoorNa
import Derived.Deep.DeepCutAuto
namespace Go.Proofs.YtlaagdpanbineaaGreatDoor.I2
open Go.RowKit

set_option maxHeartbeats 400000 in
theorem scan_out (s : ByteArray) (a : Int) (w : World) (_hs : s.size ≤ maxLen) (h : a < 0 ∨ s.size ≤ a) :
    Calls Tryz.prog 57 #[.string s, .int .i64 a] w fun e w' => e = .returned (.tuple #[.int .i64 0, .int .i64 0]) ∧ w = w' := by
  unfold maxLen at _hs
  by_cases h1 : a < 0
  · clear h
    go_enter Tryz.func57, Tryz.ntmps57
    go_wp2
    go_ret2
    exact ⟨rfl, rfl⟩
  · have h2 : (s.size : Int) ≤ a := by omega
    clear h
    go_enter Tryz.func57, Tryz.ntmps57
    go_wp2
    go_ret2
    exact ⟨rfl, rfl⟩

theorem run_at (s : ByteArray) (x : Int) (a : Nat) (hx : x = a) (w : World) (hs : s.size ≤ maxLen) (ha : a ≤ s.size) {n : Nat} (hn : digs (s.data.toList.drop a) = n) :
    Calls Tryz.prog 73 #[.string s, .int .i64 x] w fun e w' => e = .returned (.int .i64 n) ∧ w = w' := by
  rw [hx, ← hn]; exact run_any s a w hs ha

/-- what the whole part at a place is -/
theorem front_zero {s : ByteArray} {a : Nat} (ha : a < s.size) (h : front (s.data.toList.drop a) = 0) :
    ∃ σ : Nat, ((σ = 1 ∧ s[a].toNat = 45) ∨ (σ = 0 ∧ ¬ s[a].toNat = 45)) ∧ a + σ ≤ s.size ∧ digs (s.data.toList.drop (a + σ)) = 0 := by
  have hs0 : bAt (s.data.toList.drop a) 0 = s[a].toNat := by rw [bAt_drop, bAt_in s a ha]; rfl
  have hle := sgn_le (s.data.toList.drop a)
  rw [List.length_drop, size_list] at hle
  refine ⟨sgn (s.data.toList.drop a), ?_, by omega, ?_⟩
  · unfold sgn; rw [hs0]; split
    · exact .inl ⟨rfl, by assumption⟩
    · exact .inr ⟨rfl, by assumption⟩
  · unfold front at h
    split at h
    · omega
    · split at h
      · rename_i h2; rw [List.drop_drop] at h2; exact h2
      · omega
theorem front_some {s : ByteArray} {a : Nat} (ha : a < s.size) (h : front (s.data.toList.drop a) ≠ 0) :
    ∃ σ D m : Nat, ((σ = 1 ∧ s[a].toNat = 45) ∨ (σ = 0 ∧ ¬ s[a].toNat = 45)) ∧ digs (s.data.toList.drop (a + σ)) = D ∧ 0 < D ∧ a + σ + D ≤ s.size ∧
      ((m = 1 ∧ bAt s.data.toList (a + σ) = 48) ∨ (m = D ∧ ¬ bAt s.data.toList (a + σ) = 48)) ∧ front (s.data.toList.drop a) = σ + m := by
  have hs0 : bAt (s.data.toList.drop a) 0 = s[a].toNat := by rw [bAt_drop, bAt_in s a ha]; rfl
  have hle := digs_le (s.data.toList.drop (a + sgn (s.data.toList.drop a)))
  have hl2 := sgn_le (s.data.toList.drop a)
  rw [List.length_drop, size_list] at hle hl2
  refine ⟨sgn (s.data.toList.drop a), digs (s.data.toList.drop (a + sgn (s.data.toList.drop a))), front (s.data.toList.drop a) - sgn (s.data.toList.drop a), ?_, rfl, ?_, by omega, ?_, ?_⟩
  · unfold sgn; rw [hs0]; split
    · exact .inl ⟨rfl, by assumption⟩
    · exact .inr ⟨rfl, by assumption⟩
  · have hst := digs_stop (s.data.toList.drop (a + sgn (s.data.toList.drop a)))
    unfold front at h
    rw [bAt_drop, List.drop_drop] at h
    rcases Nat.eq_zero_or_pos (digs (s.data.toList.drop (a + sgn (s.data.toList.drop a)))) with h0 | h0
    · rw [h0, bAt_drop, Nat.add_zero] at hst
      rw [h0] at h
      split at h
      · rename_i h1; rw [h1] at hst; exact absurd ⟨by omega, by omega⟩ hst
      · exact absurd rfl h
    · exact h0
  · unfold front at h ⊢
    rw [bAt_drop, List.drop_drop] at h ⊢
    split
    · exact .inl ⟨by omega, by assumption⟩
    · rename_i h1
      rw [if_neg h1] at h
      split at h
      · exact absurd rfl h
      · rename_i h2
        rw [if_neg h2]
        exact .inr ⟨by omega, h1⟩
  · unfold front at h ⊢
    split
    · omega
    · rename_i h1
      rw [if_neg h1] at h
      split at h
      · exact absurd rfl h
      · rename_i h2; rw [if_neg h2]; omega

set_option maxHeartbeats 400000 in
theorem scan_zero (s : ByteArray) (a : Nat) (w : World) (hs : s.size ≤ maxLen) (ha : a < s.size) (hf : front (s.data.toList.drop a) = 0) :
    Calls Tryz.prog 57 #[.string s, .int .i64 a] w fun e w' => e = .returned (.tuple #[.int .i64 0, .int .i64 0]) ∧ w = w' := by
  obtain ⟨σ, hσ, hb, hD⟩ := front_zero ha hf
  have hr := fun x (hx : x = ((a + σ : Nat) : Int)) => run_at s x (a + σ) hx w hs hb hD
  unfold maxLen at hs
  clear hf hD
  rcases hσ with ⟨rfl, h1⟩ | ⟨rfl, h1⟩
  · go_enter Tryz.func57, Tryz.ntmps57
    go_wp2_with (go_at_call 73; refine (hr _ (by omega)).mono ?_; rintro e w' ⟨rfl, rfl⟩)
    go_ret2
    exact ⟨rfl, rfl⟩
  · have h2 : ((s[a].toNat : Int) == 45) = false := by simp; omega
    go_enter Tryz.func57, Tryz.ntmps57
    go_wp2_with (go_at_call 73; refine (hr _ (by omega)).mono ?_; rintro e w' ⟨rfl, rfl⟩)
    go_ret2
    exact ⟨rfl, rfl⟩

theorem frac_at (l : List UInt8) (p : Nat) : frac (l.drop p) = if bAt l p = 46 ∧ 0 < digs (l.drop (p + 1)) then 1 + digs (l.drop (p + 1)) else 0 := by
  unfold frac; rw [bAt_drop, List.drop_drop, Nat.add_zero]
theorem exps_at (l : List UInt8) (p : Nat) : exps (l.drop p) = if bAt l (p + 1) = 43 ∨ bAt l (p + 1) = 45 then 2 else 1 := by
  unfold exps; rw [bAt_drop]
theorem expo_at (l : List UInt8) (p : Nat) : expo (l.drop p) = if (bAt l p = 101 ∨ bAt l p = 69) ∧ 0 < digs (l.drop (p + exps (l.drop p))) then exps (l.drop p) + digs (l.drop (p + exps (l.drop p))) else 0 := by
  unfold expo; rw [bAt_drop, List.drop_drop, Nat.add_zero]

/-- the ways of a fraction at p -/
theorem frac_ways {s : ByteArray} {p : Nat} (hp : p ≤ s.size) :
    (frac (s.data.toList.drop p) = 0 ∧ ¬ p < s.size) ∨ (frac (s.data.toList.drop p) = 0 ∧ ∃ h : p < s.size, ¬ s[p].toNat = 46) ∨
    (∃ (h : p < s.size) (R : Nat), s[p].toNat = 46 ∧ digs (s.data.toList.drop (p + 1)) = R ∧ p + 1 + R ≤ s.size ∧ ((R = 0 ∧ frac (s.data.toList.drop p) = 0) ∨ (0 < R ∧ frac (s.data.toList.drop p) = 1 + R))) := by
  rw [frac_at]
  by_cases h : p < s.size
  · by_cases h1 : s[p].toNat = 46
    · have hle := digs_le (s.data.toList.drop (p + 1))
      rw [List.length_drop, size_list] at hle
      refine .inr (.inr ⟨h, _, h1, rfl, by omega, ?_⟩)
      rw [bAt_in s p h] at h1
      rcases Nat.eq_zero_or_pos (digs (s.data.toList.drop (p + 1))) with h0 | h0
      · exact .inl ⟨h0, by rw [if_neg (by omega)]⟩
      · exact .inr ⟨h0, by rw [if_pos ⟨h1, h0⟩]⟩
    · refine .inr (.inl ⟨?_, h, h1⟩)
      rw [bAt_in s p h] at h1
      rw [if_neg (fun e => h1 e.1)]
  · refine .inl ⟨?_, h⟩
    rw [bAt_out (by rw [size_list]; omega), if_neg (by omega)]

theorem all_eq {l : List UInt8} {a f x y : Nat} (hf : front (l.drop a) = f) (hx : frac (l.drop (a + f)) = x) (hy : expo (l.drop (a + f + x)) = y) : allOf (l.drop a) = f + x + y := by
  unfold allOf two
  rw [hf, List.drop_drop, hx, List.drop_drop, ← Nat.add_assoc, hy]

/-- the ways of an exponent at p -/
theorem expo_ways {s : ByteArray} {p : Nat} (hp : p ≤ s.size) :
    (expo (s.data.toList.drop p) = 0 ∧ ¬ p < s.size) ∨ (expo (s.data.toList.drop p) = 0 ∧ ∃ h : p < s.size, ¬ s[p].toNat = 101 ∧ ¬ s[p].toNat = 69) ∨
    (∃ (h : p < s.size) (f R : Nat), (s[p].toNat = 101 ∨ s[p].toNat = 69) ∧ ((f = 1 ∧ ¬ p + 1 < s.size) ∨ (f = 1 ∧ ∃ h : p + 1 < s.size, ¬ s[p + 1].toNat = 43 ∧ ¬ s[p + 1].toNat = 45) ∨ (f = 2 ∧ ∃ h : p + 1 < s.size, s[p + 1].toNat = 43 ∨ s[p + 1].toNat = 45)) ∧
      digs (s.data.toList.drop (p + f)) = R ∧ p + f + R ≤ s.size ∧ ((R = 0 ∧ expo (s.data.toList.drop p) = 0) ∨ (0 < R ∧ expo (s.data.toList.drop p) = f + R))) := by
  have hpos : ∀ i, bAt s.data.toList i ≠ 0 → i < s.size := fun i hi => by
    have := bAt_pos (l := s.data.toList) (i := i) (by omega); rwa [size_list] at this
  rw [expo_at]
  by_cases h : p < s.size
  · by_cases h1 : s[p].toNat = 101 ∨ s[p].toNat = 69
    · refine .inr (.inr ⟨h, exps (s.data.toList.drop p), digs (s.data.toList.drop (p + exps (s.data.toList.drop p))), h1, ?_, rfl, ?_, ?_⟩)
      · rw [exps_at]
        by_cases h2 : bAt s.data.toList (p + 1) = 43 ∨ bAt s.data.toList (p + 1) = 45
        · have h3 := hpos (p + 1) (by omega)
          rw [if_pos h2]
          rw [← bAt_in s (p + 1) h3] at h2
          exact .inr (.inr ⟨rfl, h3, h2⟩)
        · rw [if_neg h2]
          by_cases h3 : p + 1 < s.size
          · rw [← bAt_in s (p + 1) h3] at h2
            exact .inr (.inl ⟨rfl, h3, fun e => h2 (.inl e), fun e => h2 (.inr e)⟩)
          · exact .inl ⟨rfl, h3⟩
      · have hle := digs_le (s.data.toList.drop (p + exps (s.data.toList.drop p)))
        rw [List.length_drop, size_list] at hle
        have he : p + exps (s.data.toList.drop p) ≤ s.size := by
          rw [exps_at]; split
          · rename_i h2; have := hpos (p + 1) (by omega); omega
          · omega
        omega
      · rw [bAt_in s p h] at h1
        rcases Nat.eq_zero_or_pos (digs (s.data.toList.drop (p + exps (s.data.toList.drop p)))) with h0 | h0
        · exact .inl ⟨h0, by rw [if_neg (by omega)]⟩
        · exact .inr ⟨h0, by rw [if_pos ⟨h1, h0⟩]⟩
    · refine .inr (.inl ⟨?_, h, fun e => h1 (.inl e), fun e => h1 (.inr e)⟩)
      rw [bAt_in s p h] at h1
      rw [if_neg (fun e => h1 e.1)]
  · refine .inl ⟨?_, h⟩
    rw [bAt_out (by rw [size_list]; omega), if_neg (by omega)]

theorem tup2 {a b c d : Int} (h : a = c) (h2 : b = d) : Ending.returned (.tuple #[.int .i64 a, .int .i64 b]) = .returned (.tuple #[.int .i64 c, .int .i64 d]) := by rw [h, h2]

set_option maxRecDepth 100000 in
set_option maxHeartbeats 2000000 in
theorem scan_some (s : ByteArray) (a : Nat) (w : World) (hs : s.size ≤ maxLen) (ha : a < s.size) (hf : front (s.data.toList.drop a) ≠ 0) :
    Calls Tryz.prog 57 #[.string s, .int .i64 a] w fun e w' => e = .returned (.tuple #[.int .i64 (front (s.data.toList.drop a)), .int .i64 (allOf (s.data.toList.drop a))]) ∧ w = w' := by
  obtain ⟨σ, D, m, hσ, hD, hD0, hDb, hm, hfr⟩ := front_some ha hf
  have hr := fun x (hx : x = ((a + σ : Nat) : Int)) => run_at s x (a + σ) hx w hs (by omega) hD
  have hs2 := hs
  unfold maxLen at hs2
  have hp1 : a + σ < s.size := by omega
  have hmb : a + (σ + m) ≤ s.size := by omega
  have hx := frac_ways hmb
  have hxl := frac_le (s.data.toList.drop (a + (σ + m)))
  rw [List.length_drop, size_list] at hxl
  have hy := expo_ways (s := s) (p := a + (σ + m) + frac (s.data.toList.drop (a + (σ + m)))) (by omega)
  rw [all_eq hfr rfl rfl, hfr]
  rw [← bAt_in s (a + σ) hp1] at hm
  generalize frac (s.data.toList.drop (a + (σ + m))) = x at *
  have hyl := expo_le (s.data.toList.drop (a + (σ + m) + x))
  rw [List.length_drop, size_list] at hyl
  generalize expo (s.data.toList.drop (a + (σ + m) + x)) = y at *
  clear hf hfr hD
  have hmb2 : a + σ + m ≤ s.size := by omega
  generalize hff : σ + m = f at *
  generalize hpp : a + f = p at *
  generalize hqq : p + x = q at *
  have Hff := Lib.hid hff
  have Hpp := Lib.hid hpp
  have Hqq := Lib.hid hqq
  have hqs : q ≤ s.size := by omega
  clear hff hpp hqq
  go_enter Tryz.func57, Tryz.ntmps57
  go_upto_if 22 with fail
  go_cut [6] (fun p wx => p = .int .i64 ((a + σ : Nat) : Int) ∧ wx = w)
  case first =>
    clear hx hy
    rcases hσ with ⟨rfl, h1⟩ | ⟨rfl, h1⟩
    · go_wp2
      go_meet
      exact ⟨by go_num, rfl⟩
    · have h2 : ((s[a].toNat : Int) == 45) = false := by simp; omega
      go_wp2
      go_meet
      exact ⟨by go_num, rfl⟩
  case rest =>
  obtain ⟨rfl, rfl⟩ := hcut
  clear hσ
  go_upto_if 33 with (go_at_call 73; refine (hr _ (by omega)).mono ?_; rintro e w' ⟨rfl, rfl⟩)
  clear hr
  go_cut [7] (fun n wx => n = .int .i64 (m : Int) ∧ wx = wc)
  case first =>
    clear hx hy
    rcases hm with ⟨rfl, h1⟩ | ⟨rfl, h1⟩
    · have h2 : ((s[a + σ].toNat : Int) == 48) = true := by simp; omega
      go_wp2
      go_meet
      exact ⟨by go_num, rfl⟩
    · have h2 : ((s[a + σ].toNat : Int) == 48) = false := by simp; omega
      go_wp2
      go_meet
      exact ⟨rfl, rfl⟩
  case rest =>
  obtain ⟨rfl, rfl⟩ := hcut
  clear hm hp1
  go_upto_region 11 with fail
  go_cut [6] (fun q wx => q = .int .i64 (p : Int) ∧ wx = wc)
  case first =>
    clear hx hy
    go_wp2
    go_meet
    exact ⟨by have h1 := Hpp.out; have h2 := Hff.out; go_num, rfl⟩
  case rest =>
  obtain ⟨rfl, rfl⟩ := hcut
  go_upto_region 12 with fail
  go_cut [8] (fun q wx => q = .int .i64 (f : Int) ∧ wx = wc)
  case first =>
    clear hx hy
    go_wp2
    go_meet
    exact ⟨by have h1 := Hpp.out; go_num, rfl⟩
  case rest =>
  obtain ⟨rfl, rfl⟩ := hcut
  go_upto_region 13 with fail
  go_cut [56] (fun t wx => t = .bool (decide (0 < x)) ∧ wx = wc)
  case first =>
    clear hy
    have hr := fun y (p n : Nat) hp (hn : digs (s.data.toList.drop p) = n) (hy : y = (p : Int)) => run_at s y p hy wc hs hp hn
    rcases hx with ⟨rfl, h1⟩ | ⟨rfl, h1, h2⟩ | ⟨h1, R, h2, h3, h4, h5⟩
    · clear hr
      go_wp2
      go_meet
      exact ⟨rfl, rfl⟩
    · clear hr
      have h3 : ((s[p].toNat : Int) == 46) = false := by simp; omega
      go_wp2
      go_meet
      exact ⟨rfl, rfl⟩
    · have hR := fun y hy => hr y (p + 1) R (by omega) h3 hy
      clear hr h3
      rcases h5 with ⟨rfl, rfl⟩ | ⟨h5, rfl⟩
      · go_wp2_with (go_at_call 73; refine (hR _ (by omega)).mono ?_; rintro e w' ⟨rfl, rfl⟩)
        go_meet
        exact ⟨rfl, rfl⟩
      · go_wp2_with (go_at_call 73; refine (hR _ (by omega)).mono ?_; rintro e w' ⟨rfl, rfl⟩)
        go_meet
        exact ⟨by first | rfl | (simp; omega), rfl⟩
  case rest =>
  obtain ⟨rfl, rfl⟩ := hcut
  go_upto_if 56 with fail
  go_cut [6] (fun v wx => v = .int .i64 (q : Int) ∧ wx = wc)
  case first =>
    clear hy
    have hr := fun y (p n : Nat) hp (hn : digs (s.data.toList.drop p) = n) (hy : y = (p : Int)) => run_at s y p hy wc hs hp hn
    by_cases h0 : 0 < x
    · rcases hx with ⟨rfl, h1⟩ | ⟨rfl, h1, h2⟩ | ⟨h1, R, h2, h3, h4, h5⟩
      · omega
      · omega
      · rcases h5 with ⟨_, rfl⟩ | ⟨h5, rfl⟩
        · omega
        · have hR := fun y hy => hr y (p + 1) R (by omega) h3 hy
          clear hr h3
          go_wp2_with (go_at_call 73; refine (hR _ (by omega)).mono ?_; rintro e w' ⟨rfl, rfl⟩)
          go_meet
          exact ⟨by have h1 := Hqq.out; go_num, rfl⟩
    · clear hx hr
      go_wp2
      go_meet
      exact ⟨by have h1 := Hqq.out; go_num, rfl⟩
  case rest =>
  obtain ⟨rfl, rfl⟩ := hcut
  clear hx
  have hr := fun y (p n : Nat) hp (hn : digs (s.data.toList.drop p) = n) (hy : y = (p : Int)) => run_at s y p hy wc hs hp hn
  rcases hy with ⟨rfl, h1⟩ | ⟨rfl, h1, h2, h3⟩ | ⟨h1, g, R, h2, h3, h4, h5, h6⟩
  · clear hr
    go_wp2
    go_ret2
    exact ⟨tup2 rfl (by have h1 := Hqq.out; have h2 := Hpp.out; omega), rfl⟩
  · clear hr
    have q1 : ((s[q].toNat : Int) == 101) = false := by simp; omega
    have q2 : ((s[q].toNat : Int) == 69) = false := by simp; omega
    go_wp2
    go_ret2
    exact ⟨tup2 rfl (by have h1 := Hqq.out; have h2 := Hpp.out; omega), rfl⟩
  · have hR := fun y hy => hr y (q + g) R (by omega) h4 hy
    clear hr h4
    rcases h3 with ⟨rfl, hn⟩ | ⟨rfl, hn, h7, h8⟩ | ⟨rfl, hn, h7⟩
    · obtain rfl : R = 0 := by omega
      obtain rfl : y = 0 := by omega
      clear h6
      rcases h2 with h2 | h2
      all_goals
        go_wp2_with (go_at_call 73; refine (hR _ (by omega)).mono ?_; rintro e w' ⟨rfl, rfl⟩)
        go_ret2
        exact ⟨tup2 rfl (by have h1 := Hqq.out; have h2 := Hpp.out; omega), rfl⟩
    · have q1 : ((s[q + 1].toNat : Int) == 43) = false := by simp; omega
      have q2 : ((s[q + 1].toNat : Int) == 45) = false := by simp; omega
      rcases h6 with ⟨rfl, rfl⟩ | ⟨h6, rfl⟩ <;> rcases h2 with h2 | h2
      all_goals
        go_wp2_with (go_at_call 73; refine (hR _ (by omega)).mono ?_; rintro e w' ⟨rfl, rfl⟩)
        go_ret2
        exact ⟨tup2 rfl (by have h1 := Hqq.out; have h2 := Hpp.out; omega), rfl⟩
    · rcases h6 with ⟨rfl, rfl⟩ | ⟨h6, rfl⟩ <;> rcases h2 with h2 | h2 <;> rcases h7 with h7 | h7
      all_goals
        go_wp2_with (go_at_call 73; refine (hR _ (by omega)).mono ?_; rintro e w' ⟨rfl, rfl⟩)
        go_ret2
        exact ⟨tup2 rfl (by have h1 := Hqq.out; have h2 := Hpp.out; omega), rfl⟩

theorem scan_any (s : ByteArray) (a : Nat) (w : World) (hs : s.size ≤ maxLen) (ha : a < s.size) (hf : front (s.data.toList.drop a) ≠ 0) {f n : Nat} (h1 : front (s.data.toList.drop a) = f) (h2 : allOf (s.data.toList.drop a) = n) :
    Calls Tryz.prog 57 #[.string s, .int .i64 a] w fun e w' => e = .returned (.tuple #[.int .i64 f, .int .i64 n]) ∧ w = w' := by
  rw [← h1, ← h2]; exact scan_some s a w hs ha hf

end Go.Proofs.YtlaagdpanbineaaGreatDoor.I2

/- The document's Value: a whole number's text's number. -/
namespace Go.Proofs.YtlaagdpanbineaaGreatDoor.I2
open Go.RowKit

theorem val_snoc {s : ByteArray} {k : Nat} (h : k < s.size) : valFrom 0 (s.data.toList.take (k + 1)) = valFrom 0 (s.data.toList.take k) * 10 + (s[k].toNat - 48) := by
  rw [List.take_succ_eq_append_getElem (by rw [size_list]; exact h), valFrom_append, valFrom_cons, valFrom_nil]; rfl
theorem val_prefix (l : List UInt8) (k : Nat) : valFrom 0 (l.take k) ≤ valFrom 0 l := by
  have h := valFrom_append 0 (l.take k) (l.drop k)
  rw [List.take_append_drop] at h
  rw [h]
  exact valFrom_le _ _
theorem tdiv_eq (d : Int) (h0 : 0 ≤ d) (h9 : d ≤ 9) : (-9223372036854775808 + d).tdiv 10 = -((9223372036854775808 - d) / 10) := by
  rw [show -9223372036854775808 + d = -(9223372036854775808 - d) by omega, Int.neg_tdiv, Int.tdiv_eq_ediv_of_nonneg (by omega)]

/-- the text behind a sign -/
def Behind (s t : ByteArray) (less : Bool) : Prop := ∃ h : 0 < s.size, (less = true ∧ s[0].toNat = 45 ∧ t = s.extract 1 s.size) ∨ (less = false ∧ ¬ s[0].toNat = 45 ∧ t = s)

def valRes (less : Bool) (n : Nat) : Value :=
  if less then .tuple #[.int .i64 (-(n : Int)), .bool true] else if n = 9223372036854775808 then .tuple #[.int .i64 0, .bool false] else .tuple #[.int .i64 n, .bool true]
theorem valRes_t (n : Nat) : valRes true n = .tuple #[.int .i64 (-(n : Int)), .bool true] := rfl
theorem valRes_f {n : Nat} (h : n ≠ 9223372036854775808) : valRes false n = .tuple #[.int .i64 n, .bool true] := by unfold valRes; rw [if_neg (by simp), if_neg h]
theorem valRes_m {n : Nat} (h : n = 9223372036854775808) : valRes false n = .tuple #[.int .i64 0, .bool false] := by unfold valRes; rw [if_neg (by simp), if_pos h]
theorem fin_t {a : Int} {n : Nat} (h : a = n) : Ending.returned (.tuple #[.int .i64 (-a), .bool true]) = .returned (valRes true n) := by rw [h, valRes_t]
theorem fin_m {a : Int} {n : Nat} (h : a = n) (hm : a = 9223372036854775808) : Ending.returned (.tuple #[.int .i64 0, .bool false]) = .returned (valRes false n) := by rw [valRes_m (by omega)]
theorem fin_f {a : Int} {n : Nat} (h : a = n) (hm : ¬ a = 9223372036854775808) : Ending.returned (.tuple #[.int .i64 a, .bool true]) = .returned (valRes false n) := by rw [valRes_f (by omega), h]
theorem tup_of {a b : Value} (h : a = b) : Ending.returned a = .returned b := by rw [h]

set_option maxRecDepth 100000 in
set_option maxHeartbeats 1000000 in
theorem value_fit (s t : ByteArray) (less : Bool) (w : World) (hs : s.size ≤ 200000) (hst : Behind s t less) (hd : allDg t.data.toList) (hv : valFrom 0 t.data.toList ≤ 9223372036854775808) :
    Calls Tryz.prog 58 #[.string s] w fun e w' => e = .returned (valRes less (valFrom 0 t.data.toList)) ∧ w = w' := by
  obtain ⟨h0, hst⟩ := hst
  have hts : t.size ≤ 200000 := by
    rcases hst with ⟨_, _, rfl⟩ | ⟨_, _, rfl⟩
    · rw [ByteArray.size_extract]; omega
    · exact hs
  have HD := Lib.hid hd
  have HV := Lib.hid hv
  clear hd hv
  go_enter Tryz.func58, Tryz.ntmps58
  go_upto_region 1 with fail
  go_cut [4] (fun b wx => b = .bool less ∧ wx = w)
  case first =>
    rcases hst with ⟨rfl, h1, _⟩ | ⟨rfl, h1, _⟩
    · go_wp2
      go_meet
      exact ⟨by first | rfl | simp, rfl⟩
    · have h2 : ((s[0].toNat : Int) == 45) = false := by simp; omega
      go_wp2
      go_meet
      exact ⟨by first | rfl | simp, rfl⟩
  case rest =>
  obtain ⟨rfl, rfl⟩ := hcut
  go_upto_if 11 with fail
  go_cut [0] (fun v wx => v = .string t ∧ wx = wc)
  case first =>
    rcases hst with ⟨rfl, h1, ht⟩ | ⟨rfl, h1, ht⟩
    · have HT := Lib.hid ht
      clear ht
      go_wp2
      go_meet
      exact ⟨congrArg Value.string HT.out.symm, rfl⟩
    · have HT := Lib.hid ht
      clear ht
      go_wp2
      go_meet
      exact ⟨congrArg Value.string HT.out.symm, rfl⟩
  case rest =>
  obtain ⟨rfl, rfl⟩ := hcut
  clear hst
  go_wp2
  go_loop [5, 6, 7] (fun n i _ => ∃ (k : Nat) (a : Int), k ≤ t.size ∧ i = .int .i64 k ∧ n = .int .i64 (-a) ∧ 0 ≤ a ∧ Hid (a = valFrom 0 (t.data.toList.take k))) (fun _ i _ => t.size - (intOf i).toNat)
  case atStart => exact ⟨0, 0, by omega, rfl, rfl, by omega, by simp [valFrom, Hid]⟩
  case round =>
    obtain ⟨k, a, hk, rfl, rfl, ha, HA⟩ := hrel
    by_cases hlt : k < t.size
    · have hb := allDg_at HD.out (i := k) (by rw [size_list]; exact hlt)
      rw [← bAt_in t k hlt] at hb
      unfold isDg at hb
      obtain ⟨h1, h2⟩ := hb
      have hsn : ((valFrom 0 (t.data.toList.take (k + 1)) : Nat) : Int) = a * 10 + ((t[k].toNat : Int) - 48) := by
        have := val_snoc hlt; have h3 := HA.out; omega
      have hle : a * 10 + ((t[k].toNat : Int) - 48) ≤ 9223372036854775808 := by
        have := val_prefix t.data.toList (k + 1); have h3 := HV.out; omega
      have q1 : (-9223372036854775808 + ((t[k].toNat : Int) - 48)).tdiv 10 ≤ -a := by rw [tdiv_eq _ (by omega) (by omega)]; omega
      have q2 : -9223372036854775808 + ((t[k].toNat : Int) - 48) ≤ -a * 10 := by omega
      have HSN := Lib.hid hsn
      clear hsn
      go_wp2
      go_round
      case rel => exact ⟨k + 1, a * 10 + ((t[k].toNat : Int) - 48), by omega, by go_num, by go_num, by omega, HSN.out.symm⟩
      case measure => simp [intOf]; omega
    · have hA : Hid (a = valFrom 0 t.data.toList) := by
        have := HA.out
        rw [List.take_of_length_le (by rw [size_list]; omega)] at this
        exact this
      have hab : a ≤ 9223372036854775808 := by have := HV.out; have := hA.out; omega
      cases less with
      | true =>
        go_wp2
        go_ret2
        exact ⟨fin_t hA.out, rfl⟩
      | false =>
        by_cases hm : a = 9223372036854775808
        · have hm1 : (-a == -9223372036854775808) = true := by simp; omega
          have HM := Lib.hid hm
          clear hm
          go_wp2
          go_ret2
          exact ⟨fin_m hA.out HM.out, rfl⟩
        · have hm1 : (-a == -9223372036854775808) = false := by simp; omega
          have hm2 : ¬ -a = -9223372036854775808 := by omega
          have HM := Lib.hid hm
          go_wp2
          go_ret2
          exact ⟨fin_f hA.out HM.out, rfl⟩

set_option maxRecDepth 100000 in
set_option maxHeartbeats 1000000 in
theorem value_not (s t : ByteArray) (less : Bool) (w : World) (hs : s.size ≤ 200000) (hst : Behind s t less) (hd : allDg t.data.toList) (hv : ¬ valFrom 0 t.data.toList ≤ 9223372036854775808) :
    Calls Tryz.prog 58 #[.string s] w fun e w' => e = .returned (.tuple #[.int .i64 0, .bool false]) ∧ w = w' := by
  obtain ⟨h0, hst⟩ := hst
  have hts : t.size ≤ 200000 := by
    rcases hst with ⟨_, _, rfl⟩ | ⟨_, _, rfl⟩
    · rw [ByteArray.size_extract]; omega
    · exact hs
  have HD := Lib.hid hd
  have HV := Lib.hid hv
  clear hd hv
  go_enter Tryz.func58, Tryz.ntmps58
  go_upto_region 1 with fail
  go_cut [4] (fun b wx => b = .bool less ∧ wx = w)
  case first =>
    rcases hst with ⟨rfl, h1, _⟩ | ⟨rfl, h1, _⟩
    · go_wp2
      go_meet
      exact ⟨by first | rfl | simp, rfl⟩
    · have h2 : ((s[0].toNat : Int) == 45) = false := by simp; omega
      go_wp2
      go_meet
      exact ⟨by first | rfl | simp, rfl⟩
  case rest =>
  obtain ⟨rfl, rfl⟩ := hcut
  go_upto_if 11 with fail
  go_cut [0] (fun v wx => v = .string t ∧ wx = wc)
  case first =>
    rcases hst with ⟨rfl, h1, ht⟩ | ⟨rfl, h1, ht⟩
    · have HT := Lib.hid ht
      clear ht
      go_wp2
      go_meet
      exact ⟨congrArg Value.string HT.out.symm, rfl⟩
    · have HT := Lib.hid ht
      clear ht
      go_wp2
      go_meet
      exact ⟨congrArg Value.string HT.out.symm, rfl⟩
  case rest =>
  obtain ⟨rfl, rfl⟩ := hcut
  clear hst
  go_wp2
  go_loop [5, 6, 7] (fun n i _ => ∃ (k : Nat) (a : Int), k ≤ t.size ∧ i = .int .i64 k ∧ n = .int .i64 (-a) ∧ 0 ≤ a ∧ a ≤ 9223372036854775808 ∧ Hid (a = valFrom 0 (t.data.toList.take k))) (fun _ i _ => t.size - (intOf i).toNat)
  case atStart => exact ⟨0, 0, by omega, rfl, rfl, by omega, by omega, by simp [valFrom, Hid]⟩
  case round =>
    obtain ⟨k, a, hk, rfl, rfl, ha, hab, HA⟩ := hrel
    by_cases hlt : k < t.size
    · have hb := allDg_at HD.out (i := k) (by rw [size_list]; exact hlt)
      rw [← bAt_in t k hlt] at hb
      unfold isDg at hb
      obtain ⟨h1, h2⟩ := hb
      have hsn : ((valFrom 0 (t.data.toList.take (k + 1)) : Nat) : Int) = a * 10 + ((t[k].toNat : Int) - 48) := by
        have := val_snoc hlt; have h3 := HA.out; omega
      have HSN := Lib.hid hsn
      clear hsn
      by_cases hle : a * 10 + ((t[k].toNat : Int) - 48) ≤ 9223372036854775808
      · have q1 : (-9223372036854775808 + ((t[k].toNat : Int) - 48)).tdiv 10 ≤ -a := by rw [tdiv_eq _ (by omega) (by omega)]; omega
        have q2 : -9223372036854775808 + ((t[k].toNat : Int) - 48) ≤ -a * 10 := by omega
        go_wp2
        go_round
        case rel => exact ⟨k + 1, a * 10 + ((t[k].toNat : Int) - 48), by omega, by go_num, by go_num, by omega, by omega, HSN.out.symm⟩
        case measure => simp [intOf]; omega
      · have q1 : -a < (-9223372036854775808 + ((t[k].toNat : Int) - 48)).tdiv 10 := by rw [tdiv_eq _ (by omega) (by omega)]; omega
        go_wp2
        go_ret2
        exact ⟨rfl, rfl⟩
    · exfalso
      have h1 := HA.out
      have h2 := HV.out
      rw [List.take_of_length_le (by rw [size_list]; omega)] at h1
      omega

end Go.Proofs.YtlaagdpanbineaaGreatDoor.I2

/- The document's Take; what both answer at a place. -/
namespace Go.Proofs.YtlaagdpanbineaaGreatDoor.I2
open Go.RowKit

theorem value_both (T : ByteArray) (w : World) (hs : T.size ≤ 200000) (D : List UInt8) (hn : D ≠ []) (hd : allDg D) (hc : T.data.toList = 45 :: D ∨ T.data.toList = D) :
    Calls Tryz.prog 58 #[.string T] w fun e w' => (match wholeV T.data.toList with
      | some v => e = .returned (.tuple #[.int .i64 v, .bool true])
      | none => e = .returned (.tuple #[.int .i64 0, .bool false])) ∧ w = w' := by
  rcases hc with hc | hc
  · have h0 : 0 < T.size := by rw [← size_list, hc]; simp
    have hD : (T.extract 1 T.size).data.toList = D := by rw [ext_list, hc]; rfl
    have hB : Behind T (T.extract 1 T.size) true := ⟨h0, .inl ⟨rfl, by rw [bAt_in T 0 h0, hc]; rfl, rfl⟩⟩
    have hw : wholeV T.data.toList = if valFrom 0 D ≤ 9223372036854775808 then some (-(valFrom 0 D : Int)) else none := by
      unfold wholeV; rw [hc, atoi_neg D hd hn]
      by_cases h9 : valFrom 0 D ≤ 9223372036854775808
      · rw [if_pos h9, if_pos h9]
      · rw [if_neg h9, if_neg h9]
    rw [hw]
    by_cases hv : valFrom 0 D ≤ 9223372036854775808
    · rw [if_pos hv]
      have h := value_fit T _ true w hs hB (by rw [hD]; exact hd) (by rw [hD]; exact hv)
      rw [hD, valRes_t] at h
      exact h
    · rw [if_neg hv]
      exact value_not T _ true w hs hB (by rw [hD]; exact hd) (by rw [hD]; exact hv)
  · have h0 : 0 < T.size := by
      rw [← size_list, hc]
      exact List.length_pos_iff.2 hn
    have h45 : ¬ T[0].toNat = 45 := by
      have := allDg_at (l := T.data.toList) (i := 0) (by rw [hc]; exact hd) (by rw [size_list]; exact h0)
      rw [← bAt_in T 0 h0] at this
      unfold isDg at this; omega
    have hB : Behind T T false := ⟨h0, .inr ⟨rfl, h45, rfl⟩⟩
    have hw : wholeV T.data.toList = if valFrom 0 D < 9223372036854775808 then some (valFrom 0 D : Int) else none := by
      unfold wholeV; rw [hc, atoi_pos D hd hn]
      by_cases h9 : valFrom 0 D < 9223372036854775808
      · rw [if_pos h9, if_pos h9]
      · rw [if_neg h9, if_neg h9]
    rw [hw]
    by_cases hv : valFrom 0 D ≤ 9223372036854775808
    · have h := value_fit T T false w hs hB (by rw [hc]; exact hd) (by rw [hc]; exact hv)
      rw [hc] at h
      by_cases hm : valFrom 0 D = 9223372036854775808
      · rw [if_neg (by omega)]
        rw [valRes_m hm] at h
        exact h
      · rw [if_pos (by omega)]
        rw [valRes_f hm] at h
        exact h
    · rw [if_neg (by omega)]
      exact value_not T T false w hs hB (by rw [hc]; exact hd) (by rw [hc]; exact hv)

theorem tup3 {a b c a' b' c' : Int} (h : a = a') (h2 : b = b') (h3 : c = c') : Ending.returned (.tuple #[.int .i64 a, .int .i64 b, .int .i64 c]) = .returned (.tuple #[.int .i64 a', .int .i64 b', .int .i64 c']) := by rw [h, h2, h3]

theorem rtake_syn (s : ByteArray) (x : Int) (w : World)
    (hX : ∀ w, Calls Tryz.prog 57 #[.string s, .int .i64 x] w fun e w' => e = .returned (.tuple #[.int .i64 0, .int .i64 0]) ∧ w = w') :
    Calls Tryz.prog 40 #[.string s, .int .i64 x] w fun e w' => e = .returned (.tuple #[.int .i64 0, .int .i64 0, .int .i64 1]) ∧ w = w' := by
  go_enter Tryz.func40, Tryz.ntmps40
  go_wp2_with (go_at_call 57; refine (hX _).mono ?_; rintro e w' ⟨rfl, rfl⟩)
  go_ret3
  exact ⟨rfl, rfl⟩

set_option maxHeartbeats 400000 in
theorem rtake_part (s : ByteArray) (a : Nat) (w : World) (hs : s.size ≤ 200000) (f n : Nat) (h0 : f ≠ 0) (haf : a + f ≤ s.size) (hn : f < n)
    (hX : ∀ w, Calls Tryz.prog 57 #[.string s, .int .i64 a] w fun e w' => e = .returned (.tuple #[.int .i64 f, .int .i64 n]) ∧ w = w')
    (b : Bool) (v : Int) (hV : ∀ w, Calls Tryz.prog 58 #[.string (s.extract a (a + f))] w fun e w' => e = .returned (.tuple #[.int .i64 v, .bool b]) ∧ w = w') :
    Calls Tryz.prog 40 #[.string s, .int .i64 a] w fun e w' => e = .returned (.tuple #[.int .i64 0, .int .i64 0, .int .i64 4]) ∧ w = w' := by
  have hf : ((f : Int) == 0) = false := by simp; omega
  cases b
  all_goals
    go_enter Tryz.func40, Tryz.ntmps40
    go_wp2_with (first
      | (go_at_call 57; refine (hX _).mono ?_; rintro e w' ⟨rfl, rfl⟩)
      | (go_at_call 58; refine (hV _).mono ?_; rintro e w' ⟨rfl, rfl⟩))
    go_ret3
    exact ⟨rfl, rfl⟩

set_option maxHeartbeats 400000 in
theorem rtake_none (s : ByteArray) (a : Nat) (w : World) (hs : s.size ≤ 200000) (f n : Nat) (h0 : f ≠ 0) (haf : a + f ≤ s.size) (_hn : f ≤ n)
    (hX : ∀ w, Calls Tryz.prog 57 #[.string s, .int .i64 a] w fun e w' => e = .returned (.tuple #[.int .i64 f, .int .i64 n]) ∧ w = w')
    (v : Int) (hV : ∀ w, Calls Tryz.prog 58 #[.string (s.extract a (a + f))] w fun e w' => e = .returned (.tuple #[.int .i64 v, .bool false]) ∧ w = w') :
    Calls Tryz.prog 40 #[.string s, .int .i64 a] w fun e w' => e = .returned (.tuple #[.int .i64 0, .int .i64 0, .int .i64 4]) ∧ w = w' := by
  have hf : ((f : Int) == 0) = false := by simp; omega
  go_enter Tryz.func40, Tryz.ntmps40
  go_wp2_with (first
    | (go_at_call 57; refine (hX _).mono ?_; rintro e w' ⟨rfl, rfl⟩)
    | (go_at_call 58; refine (hV _).mono ?_; rintro e w' ⟨rfl, rfl⟩))
  go_ret3
  exact ⟨rfl, rfl⟩

set_option maxHeartbeats 400000 in
theorem rtake_ok (s : ByteArray) (a : Nat) (w : World) (hs : s.size ≤ 200000) (f : Nat) (h0 : f ≠ 0) (haf : a + f ≤ s.size)
    (hX : ∀ w, Calls Tryz.prog 57 #[.string s, .int .i64 a] w fun e w' => e = .returned (.tuple #[.int .i64 f, .int .i64 f]) ∧ w = w')
    (v : Int) (hV : ∀ w, Calls Tryz.prog 58 #[.string (s.extract a (a + f))] w fun e w' => e = .returned (.tuple #[.int .i64 v, .bool true]) ∧ w = w') :
    Calls Tryz.prog 40 #[.string s, .int .i64 a] w fun e w' => e = .returned (.tuple #[.int .i64 v, .int .i64 f, .int .i64 0]) ∧ w = w' := by
  have hf : ((f : Int) == 0) = false := by simp; omega
  go_enter Tryz.func40, Tryz.ntmps40
  go_wp2_with (first
    | (go_at_call 57; refine (hX _).mono ?_; rintro e w' ⟨rfl, rfl⟩)
    | (go_at_call 58; refine (hV _).mono ?_; rintro e w' ⟨rfl, rfl⟩))
  go_ret3
  exact ⟨rfl, rfl⟩

/-- THE DOCUMENT's Take at every place -/
theorem rtake_any (s : ByteArray) (x : Int) (w : World) (hs : s.size ≤ 200000) {v : Int} {z : Nat} {o : Option Nat} (hR : takeR (restL s.data.toList x) = (v, z, o)) :
    Calls Tryz.prog 40 #[.string s, .int .i64 x] w fun e w' => e = .returned (.tuple #[.int .i64 v, .int .i64 z, .int .i64 (numOf o)]) ∧ w = w' := by
  have hsm : s.size ≤ maxLen := by unfold maxLen; omega
  by_cases hx : x < 0 ∨ s.size ≤ x
  · rw [restL_out hx, takeR_syn rfl] at hR
    simp only [Prod.mk.injEq] at hR
    obtain ⟨rfl, rfl, rfl⟩ := hR
    exact rtake_syn s x w (fun w => scan_out s x w hsm hx)
  · obtain ⟨a, rfl⟩ := Int.eq_ofNat_of_zero_le (by omega : 0 ≤ x)
    have ha : a < s.size := by omega
    rw [restL_in] at hR
    by_cases hf : front (s.data.toList.drop a) = 0
    · rw [takeR_syn hf] at hR
      simp only [Prod.mk.injEq] at hR
      obtain ⟨rfl, rfl, rfl⟩ := hR
      exact rtake_syn s a w (fun w => scan_zero s a w hsm ha hf)
    · obtain ⟨D, hn, hd, hc⟩ := front_cases hf
      have hfl := front_le (s.data.toList.drop a)
      rw [List.length_drop, size_list] at hfl
      have hfa := front_all (s.data.toList.drop a)
      have hX := fun w => scan_some s a w hsm ha hf
      have hL : (s.extract a (a + front (s.data.toList.drop a))).data.toList = (s.data.toList.drop a).take (front (s.data.toList.drop a)) := by rw [Lib.extract_data, Nat.add_sub_cancel_left]
      have hV := fun w => value_both (s.extract a (a + front (s.data.toList.drop a))) w (by rw [ByteArray.size_extract]; omega) D hn hd (by rw [hL]; rcases hc with ⟨_, h⟩ | ⟨_, h⟩; exact .inl h; exact .inr h)
      rw [hL] at hV
      cases hw : wholeV ((s.data.toList.drop a).take (front (s.data.toList.drop a))) with
      | none =>
        rw [hw] at hV
        rw [takeR_none hf hw] at hR
        simp only [Prod.mk.injEq] at hR
        obtain ⟨rfl, rfl, rfl⟩ := hR
        exact rtake_none s a w hs _ _ hf (by omega) hfa hX _ hV
      | some u =>
        rw [hw] at hV
        by_cases h2 : allOf (s.data.toList.drop a) = front (s.data.toList.drop a)
        · rw [takeR_ok hf h2 hw] at hR
          simp only [Prod.mk.injEq] at hR
          obtain ⟨rfl, rfl, rfl⟩ := hR
          rw [h2] at hX
          exact rtake_ok s a w hs _ hf (by omega) hX _ hV
        · rw [takeR_part hf h2] at hR
          simp only [Prod.mk.injEq] at hR
          obtain ⟨rfl, rfl, rfl⟩ := hR
          exact rtake_part s a w hs _ _ hf (by omega) (by omega) hX _ _ hV

end Go.Proofs.YtlaagdpanbineaaGreatDoor.I2

