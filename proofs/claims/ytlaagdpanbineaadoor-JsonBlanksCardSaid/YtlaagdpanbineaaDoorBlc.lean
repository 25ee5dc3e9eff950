/- JsonBlanks' walk, whatever the calls' contracts. -/
import Derived.Test.YtlaagdpanbineaaDoorJa
import Derived.Test.YtlaagdpanbineaaDoorNb
import Derived.Deep.RegionHeld3
import Derived.Deep.DeepCutAuto
namespace Go.Proofs.YtlaagdpanbineaaDoor
open Go.RowKit

theorem twenty (z : Int) : ∃ n : Nat, wrap64 ((IntKind.u64.wrap z).tmod 20) = n ∧ n < 20 := by
  have h : IntKind.u64.wrap z = z % 18446744073709551616 := by simp [IntKind.wrap, IntKind.signed, IntKind.bits]
  have h0 : 0 ≤ z % 18446744073709551616 := Int.emod_nonneg _ (by decide)
  rw [h, Int.tmod_eq_emod_of_nonneg h0]
  have h1 := Int.emod_nonneg (z % 18446744073709551616) (show (20 : Int) ≠ 0 by decide)
  have h2 := Int.emod_lt_of_pos (z % 18446744073709551616) (show (0 : Int) < 20 by decide)
  generalize z % 18446744073709551616 % 20 = y at h1 h2 ⊢
  have e : ∀ x : Int, -30 ≤ x → x ≤ 30 → wrap64 x = x := fun x _ _ => by unfold wrap64; omega
  rw [e y (by omega) (by omega)]
  exact ⟨y.toNat, by omega, by omega⟩
theorem ba_app2 (a b : ByteArray) : (a ++ b).data.toList = a.data.toList ++ b.data.toList := by simp
theorem allBl_cut (r : Nat) : AllBl ((⟨#[9, 10, 13, 32]⟩ : ByteArray).extract r (r + 1)).data.toList := by
  intro c hc
  have h1 : c ∈ (⟨#[9, 10, 13, 32]⟩ : ByteArray).data.toList := by
    rw [show ((⟨#[9, 10, 13, 32]⟩ : ByteArray).extract r (r + 1)).data.toList = (((⟨#[9, 10, 13, 32]⟩ : ByteArray).data.toList.drop r).take (r + 1 - r)) by rw [Lib.extract_data]] at hc
    exact List.mem_of_mem_drop (List.mem_of_mem_take hc)
  simp at h1
  unfold isBl
  rcases h1 with rfl | rfl | rfl | rfl <;> decide
theorem AllBl.append {a b : List UInt8} (h : AllBl a) (h' : AllBl b) : AllBl (a ++ b) := fun c hc => (List.mem_append.1 hc).elim (h c) (h' c)
theorem zero_nis (ok : Nat → Prop) (w : World) : NIs ok 33 w (.mk 0 0 [] [] []) (.agg #[.int .i64 0, .int .i64 0, .string ⟨#[]⟩, .slice none 0 0, .slice none 0 0]) :=
  ⟨.slice none 0 0, none, 0, rfl, ⟨none, 0, rfl, .inl rfl⟩, .inl rfl⟩
theorem dr_belowB {B : Nat} {w wx : World} (h : Below B w wx) : Below B w wx.drew := ⟨h.os, h.tape, h.output, h.size, h.block⟩

/-- the last region's cells -/
theorem bl_keep {w0 wx wy : World} {Y X b off cc : Nat} {g0 g1 g2 g3 g4 h0 h1 h2 h3 h4 h5 h6 h7 h8 h9 : Value} (hb : Below wx.heap.size wx wy) (h : wx.cell? ⟨Y, 4, none⟩ = some (.slice (some ⟨b, off, none⟩) 2 cc) ∧ wx.cell? ⟨X, 0, none⟩ = some (g0) ∧ wx.cell? ⟨X, 1, none⟩ = some (g1) ∧ wx.cell? ⟨X, 2, none⟩ = some (g2) ∧ wx.cell? ⟨X, 3, none⟩ = some (g3) ∧ wx.cell? ⟨X, 4, none⟩ = some (g4) ∧ wx.cell? ⟨b, off, none⟩ = some (h0) ∧ wx.cell? ⟨b, off + 1, none⟩ = some (h1) ∧ wx.cell? ⟨b, off + 2, none⟩ = some (h2) ∧ wx.cell? ⟨b, off + 3, none⟩ = some (h3) ∧ wx.cell? ⟨b, off + 4, none⟩ = some (h4) ∧ wx.cell? ⟨b, off + 5, none⟩ = some (h5) ∧ wx.cell? ⟨b, off + 6, none⟩ = some (h6) ∧ wx.cell? ⟨b, off + 7, none⟩ = some (h7) ∧ wx.cell? ⟨b, off + 8, none⟩ = some (h8) ∧ wx.cell? ⟨b, off + 9, none⟩ = some (h9) ∧ Hid (Below w0.heap.size w0 wx)) : wy.cell? ⟨Y, 4, none⟩ = some (.slice (some ⟨b, off, none⟩) 2 cc) ∧ wy.cell? ⟨X, 0, none⟩ = some (g0) ∧ wy.cell? ⟨X, 1, none⟩ = some (g1) ∧ wy.cell? ⟨X, 2, none⟩ = some (g2) ∧ wy.cell? ⟨X, 3, none⟩ = some (g3) ∧ wy.cell? ⟨X, 4, none⟩ = some (g4) ∧ wy.cell? ⟨b, off, none⟩ = some (h0) ∧ wy.cell? ⟨b, off + 1, none⟩ = some (h1) ∧ wy.cell? ⟨b, off + 2, none⟩ = some (h2) ∧ wy.cell? ⟨b, off + 3, none⟩ = some (h3) ∧ wy.cell? ⟨b, off + 4, none⟩ = some (h4) ∧ wy.cell? ⟨b, off + 5, none⟩ = some (h5) ∧ wy.cell? ⟨b, off + 6, none⟩ = some (h6) ∧ wy.cell? ⟨b, off + 7, none⟩ = some (h7) ∧ wy.cell? ⟨b, off + 8, none⟩ = some (h8) ∧ wy.cell? ⟨b, off + 9, none⟩ = some (h9) ∧ Hid (Below w0.heap.size w0 wy) := by
  obtain ⟨p0, p1, p2, p3, p4, p5, p6, p7, p8, p9, p10, p11, p12, p13, p14, p15, HB⟩ := h
  exact ⟨(hb.cell (p := ⟨Y, 4, none⟩) (World.block_lt_of_cell? wx _ p0)).trans p0, (hb.cell (p := ⟨X, 0, none⟩) (World.block_lt_of_cell? wx _ p1)).trans p1, (hb.cell (p := ⟨X, 1, none⟩) (World.block_lt_of_cell? wx _ p2)).trans p2, (hb.cell (p := ⟨X, 2, none⟩) (World.block_lt_of_cell? wx _ p3)).trans p3, (hb.cell (p := ⟨X, 3, none⟩) (World.block_lt_of_cell? wx _ p4)).trans p4, (hb.cell (p := ⟨X, 4, none⟩) (World.block_lt_of_cell? wx _ p5)).trans p5, (hb.cell (p := ⟨b, off, none⟩) (World.block_lt_of_cell? wx _ p6)).trans p6, (hb.cell (p := ⟨b, off + 1, none⟩) (World.block_lt_of_cell? wx _ p7)).trans p7, (hb.cell (p := ⟨b, off + 2, none⟩) (World.block_lt_of_cell? wx _ p8)).trans p8, (hb.cell (p := ⟨b, off + 3, none⟩) (World.block_lt_of_cell? wx _ p9)).trans p9, (hb.cell (p := ⟨b, off + 4, none⟩) (World.block_lt_of_cell? wx _ p10)).trans p10, (hb.cell (p := ⟨b, off + 5, none⟩) (World.block_lt_of_cell? wx _ p11)).trans p11, (hb.cell (p := ⟨b, off + 6, none⟩) (World.block_lt_of_cell? wx _ p12)).trans p12, (hb.cell (p := ⟨b, off + 7, none⟩) (World.block_lt_of_cell? wx _ p13)).trans p13, (hb.cell (p := ⟨b, off + 8, none⟩) (World.block_lt_of_cell? wx _ p14)).trans p14, (hb.cell (p := ⟨b, off + 9, none⟩) (World.block_lt_of_cell? wx _ p15)).trans p15, HB.out.trans (hb.mono HB.out.size)⟩
theorem bl_drew {w0 wx : World} {Y X b off cc : Nat} {g0 g1 g2 g3 g4 h0 h1 h2 h3 h4 h5 h6 h7 h8 h9 : Value} (h : wx.cell? ⟨Y, 4, none⟩ = some (.slice (some ⟨b, off, none⟩) 2 cc) ∧ wx.cell? ⟨X, 0, none⟩ = some (g0) ∧ wx.cell? ⟨X, 1, none⟩ = some (g1) ∧ wx.cell? ⟨X, 2, none⟩ = some (g2) ∧ wx.cell? ⟨X, 3, none⟩ = some (g3) ∧ wx.cell? ⟨X, 4, none⟩ = some (g4) ∧ wx.cell? ⟨b, off, none⟩ = some (h0) ∧ wx.cell? ⟨b, off + 1, none⟩ = some (h1) ∧ wx.cell? ⟨b, off + 2, none⟩ = some (h2) ∧ wx.cell? ⟨b, off + 3, none⟩ = some (h3) ∧ wx.cell? ⟨b, off + 4, none⟩ = some (h4) ∧ wx.cell? ⟨b, off + 5, none⟩ = some (h5) ∧ wx.cell? ⟨b, off + 6, none⟩ = some (h6) ∧ wx.cell? ⟨b, off + 7, none⟩ = some (h7) ∧ wx.cell? ⟨b, off + 8, none⟩ = some (h8) ∧ wx.cell? ⟨b, off + 9, none⟩ = some (h9) ∧ Hid (Below w0.heap.size w0 wx)) : wx.drew.cell? ⟨Y, 4, none⟩ = some (.slice (some ⟨b, off, none⟩) 2 cc) ∧ wx.drew.cell? ⟨X, 0, none⟩ = some (g0) ∧ wx.drew.cell? ⟨X, 1, none⟩ = some (g1) ∧ wx.drew.cell? ⟨X, 2, none⟩ = some (g2) ∧ wx.drew.cell? ⟨X, 3, none⟩ = some (g3) ∧ wx.drew.cell? ⟨X, 4, none⟩ = some (g4) ∧ wx.drew.cell? ⟨b, off, none⟩ = some (h0) ∧ wx.drew.cell? ⟨b, off + 1, none⟩ = some (h1) ∧ wx.drew.cell? ⟨b, off + 2, none⟩ = some (h2) ∧ wx.drew.cell? ⟨b, off + 3, none⟩ = some (h3) ∧ wx.drew.cell? ⟨b, off + 4, none⟩ = some (h4) ∧ wx.drew.cell? ⟨b, off + 5, none⟩ = some (h5) ∧ wx.drew.cell? ⟨b, off + 6, none⟩ = some (h6) ∧ wx.drew.cell? ⟨b, off + 7, none⟩ = some (h7) ∧ wx.drew.cell? ⟨b, off + 8, none⟩ = some (h8) ∧ wx.drew.cell? ⟨b, off + 9, none⟩ = some (h9) ∧ Hid (Below w0.heap.size w0 wx.drew) := bl_keep (dr_belowB (Below.refl _ _)) h
theorem bl_b {w0 wx : World} {Y X b off cc : Nat} {g0 g1 g2 g3 g4 h0 h1 h2 h3 h4 h5 h6 h7 h8 h9 : Value} (h : wx.cell? ⟨Y, 4, none⟩ = some (.slice (some ⟨b, off, none⟩) 2 cc) ∧ wx.cell? ⟨X, 0, none⟩ = some (g0) ∧ wx.cell? ⟨X, 1, none⟩ = some (g1) ∧ wx.cell? ⟨X, 2, none⟩ = some (g2) ∧ wx.cell? ⟨X, 3, none⟩ = some (g3) ∧ wx.cell? ⟨X, 4, none⟩ = some (g4) ∧ wx.cell? ⟨b, off, none⟩ = some (h0) ∧ wx.cell? ⟨b, off + 1, none⟩ = some (h1) ∧ wx.cell? ⟨b, off + 2, none⟩ = some (h2) ∧ wx.cell? ⟨b, off + 3, none⟩ = some (h3) ∧ wx.cell? ⟨b, off + 4, none⟩ = some (h4) ∧ wx.cell? ⟨b, off + 5, none⟩ = some (h5) ∧ wx.cell? ⟨b, off + 6, none⟩ = some (h6) ∧ wx.cell? ⟨b, off + 7, none⟩ = some (h7) ∧ wx.cell? ⟨b, off + 8, none⟩ = some (h8) ∧ wx.cell? ⟨b, off + 9, none⟩ = some (h9) ∧ Hid (Below w0.heap.size w0 wx)) : Below w0.heap.size w0 wx := h.2.2.2.2.2.2.2.2.2.2.2.2.2.2.2.2.out

theorem pJ_bad_le : ∀ (f : Nat) (m : Md) (d c : Nat) (l : List UInt8) (e : Nat), pJ f m d c l = .bad e → e ≤ 5
  | 0, _, _, _, _, _, h => by simp only [pJ, Res.bad.injEq] at h; omega
  | f + 1, .val, d, c, l, e, h => by
    have ih := pJ_bad_le f
    have word : ∀ w k l c, wordR w k l c = .bad e → e ≤ 5 := fun w k l c e => by
      unfold wordR at e
      split at e
      · cases e
      · simp only [Res.bad.injEq] at e; omega
    unfold pJ at h
    split at h
    · simp only [Res.bad.injEq] at h; omega
    split at h
    · simp only [Res.bad.injEq] at h; omega
    split at h
    · exact word _ _ _ _ h
    split at h
    · exact word _ _ _ _ h
    split at h
    · exact word _ _ _ _ h
    split at h
    · unfold strR at h
      split at h
      · cases h
      · simp only [Res.bad.injEq] at h; omega
    split at h
    · split at h
      · simp only [Res.bad.injEq] at h; omega
      · split at h
        · exact ih _ _ _ _ _ h
        · split at h
          · cases h
          · exact ih _ _ _ _ _ h
    split at h
    · split at h
      · simp only [Res.bad.injEq] at h; omega
      · split at h
        · exact ih _ _ _ _ _ h
        · split at h
          · cases h
          · exact ih _ _ _ _ _ h
    · unfold numR I2.takeR at h
      split at h
      · cases h
      · rename_i hR
        simp only [Res.bad.injEq] at h
        split at hR
        · simp only [Prod.mk.injEq, Option.some.injEq] at hR; omega
        · split at hR
          · simp at hR
          · simp only [Prod.mk.injEq, Option.some.injEq] at hR; omega
  | f + 1, .arr acc, d, c, l, e, h => by
    have ih := pJ_bad_le f
    unfold pJ at h
    split at h
    · rename_i hv
      simp only [Res.bad.injEq] at h
      rw [← h]; exact ih _ _ _ _ _ hv
    split at h
    · simp only [Res.bad.injEq] at h; omega
    split at h
    · cases h
    split at h
    · exact ih _ _ _ _ _ h
    · simp only [Res.bad.injEq] at h; omega
  | f + 1, .obj ks acc, d, c, l, e, h => by
    have ih := pJ_bad_le f
    unfold pJ at h
    split at h
    · simp only [Res.bad.injEq] at h; omega
    split at h
    · simp only [Res.bad.injEq] at h; omega
    split at h
    · simp only [Res.bad.injEq] at h; omega
    split at h
    · split at h
      · rename_i hv
        simp only [Res.bad.injEq] at h
        rw [← h]; exact ih _ _ _ _ _ hv
      split at h
      · simp only [Res.bad.injEq] at h; omega
      split at h
      · cases h
      split at h
      · exact ih _ _ _ _ _ h
      · simp only [Res.bad.injEq] at h; omega
    · simp only [Res.bad.injEq] at h; omega
theorem pText_bad_le {l : List UInt8} {e : Nat} (h : pText l = .bad e) : e ≤ 5 := by
  rw [pText_eq] at h
  split at h
  · simp only [Ans.bad.injEq] at h; omega
  · cases hp : pI .val 0 0 l with
    | bad e1 => rw [hp] at h; simp only [after, Ans.bad.injEq] at h; rw [← h]; exact pJ_bad_le _ _ _ _ _ _ hp
    | ok v r c =>
      rw [hp] at h
      simp only [after] at h
      split at h
      · cases h
      · simp only [Ans.bad.injEq] at h; omega

set_option maxRecDepth 100000 in
set_option maxHeartbeats 4000000 in
theorem blanks_core (w : World) (s : ByteArray) (a1 : Int) (A : Nat → Addr)
    (hL : ∀ w', Below w.heap.size w w' → Calls Tryd.prog 8 #[] w' fun e w'' => e = .returned (.bool true) ∧ Below w'.heap.size w' w'')
    (hP : ∀ w' (S : ByteArray) (t : NT), Below w.heap.size w w' → S.size ≤ 100000 → pText S.data.toList = .ok t → Calls Tryd.prog 12 #[.string S] w' fun e w'' => ∃ (k n : Int) (x : List UInt8) (A1 : Option Addr) (l1 c1 : Nat) (A2 : Option Addr) (l2 c2 : Nat),
      e = .returned (.tuple #[.agg #[.int .i64 k, .int .i64 n, .string ⟨x.toArray⟩, .slice A1 l1 c1, .slice A2 l2 c2], .nilIface]) ∧
      Hid (NIs (fun b => w'.heap.size ≤ b) 33 w'' t (.agg #[.int .i64 k, .int .i64 n, .string ⟨x.toArray⟩, .slice A1 l1 c1, .slice A2 l2 c2])) ∧ Hid (Below w'.heap.size w' w''))
    (hB : ∀ w' (S : ByteArray) (e0 : Nat), Below w.heap.size w w' → S.size ≤ 100000 → pText S.data.toList = .bad e0 → Calls Tryd.prog 12 #[.string S] w' fun e w'' =>
      e = .returned (.tuple #[.agg #[.int .i64 0, .int .i64 0, .string ⟨#[]⟩, .slice none 0 0, .slice none 0 0], .iface 164 (.pointer (some (A (e0 - 1))))]) ∧ Hid (Below w'.heap.size w' w''))
    (hN : ∀ w' (k : Nat), k ≤ 4 → Below w.heap.size w w' → Calls Tryd.prog 13 #[.iface 164 (.pointer (some (A k)))] w' fun e w'' => e = .returned (.int .i64 (k + 1)) ∧ Below w'.heap.size w' w'')
    (hS : ∀ w' (ok1 ok2 : Nat → Prop) (t : NT) (v1 v2 : Value), (pText s.data.toList = .ok t ∨ t = .mk 0 0 [] [] []) → NIs ok1 33 w' t v1 → NIs ok2 33 w' t v2 → Calls Tryd.prog 10 #[v1, v2] w' fun e w'' => e = .returned (.bool true) ∧ Below w'.heap.size w' w'')
    (hD : ∀ w' (ok : Nat → Prop) (t : NT) (v : Value), pText s.data.toList = .ok t → NIs ok 33 w' t v → Calls Tryd.prog 14 #[v] w' fun e w'' => e = .returned (.int .i64 (dep t)) ∧ Below w'.heap.size w' w'') :
    Calls Tryd.prog 4 #[.string s, .int .i64 a1] w fun e w' => e = .returned (.bool true) ∧ Below w.heap.size w w' := by
  have hl0 := hL w (Below.refl _ _)
  have HP := Lib.hid hP
  have HB := Lib.hid hB
  have HN := Lib.hid hN
  have HS := Lib.hid hS
  have HD := Lib.hid hD
  have hnn := fun (w : World) (x : Value) => @run_neq_iface_nil Tryd.prog w 31 (by kernel_rfl) 164 x
  have hnl := fun (w : World) => @run_neq_nil_nil_at Tryd.prog w 31 (by kernel_rfl)
  have hne := fun (w : World) => @run_eql_nil_nil_at Tryd.prog w 31 (by kernel_rfl)
  clear hL hP hB hN hS hD
  go_enter Tryd.func4, Tryd.ntmps4
  go_wp2_with fail
  refine hl0.mono ?_
  rintro e w1 ⟨rfl, hb1⟩
  have HB1 := Lib.hid hb1
  clear hl0 hb1
  by_cases hlen : 2000 < s.size
  · have q : decide ((2000 : Int) < s.size) = true := decide_eq_true (by omega)
    go_wp2
    go_ret
    exact ⟨rfl, HB1.out⟩
  have q : decide ((2000 : Int) < s.size) = false := decide_eq_false (by omega)
  go_upto_region 6 with fail
  go_cut [21, 22] (fun v u wx => wx = w1 ∧ u = .int .i64 0 ∧ ∃ n : Nat, v = .int .i64 n ∧ n < 20)
  case first =>
    go_wp2
    go_meet
    obtain ⟨n, hn, h20⟩ := twenty a1
    exact ⟨rfl, rfl, n, by rw [← hn], h20⟩
  case rest =>
  obtain ⟨hw, rfl, n, rfl, h20⟩ := hcut
  subst hw
  go_wp2
  go_loop [5, 22] (fun u i => ∃ (k : Nat) (Z : ByteArray), k ≤ n ∧ i = .int .i64 k ∧ u = .string Z ∧ Hid (AllBl Z.data.toList) ∧ Z.size = k) (fun _ i => n - (intOf i).toNat)
  case atStart => exact ⟨0, ⟨#[]⟩, Nat.zero_le _, rfl, rfl, fun c hc => by simp at hc, rfl⟩
  case round =>
    obtain ⟨k, Z, hk, rfl, rfl, HZ, hz⟩ := hrel
    by_cases hlt : k < n
    · obtain ⟨r, hr, hr4⟩ : ∃ r : Nat, (k : Int).tmod 4 = r ∧ r < 4 := ⟨k % 4, by rw [Int.tmod_eq_emod_of_nonneg (by omega)]; omega, by omega⟩
      have HZ2 : Hid (AllBl (Z ++ (⟨#[9, 10, 13, 32]⟩ : ByteArray).extract r (r + 1)).data.toList) := by
        show AllBl _
        rw [ba_app2]
        exact HZ.out.append (allBl_cut r)
      have hz2 : (Z ++ (⟨#[9, 10, 13, 32]⟩ : ByteArray).extract r (r + 1)).size = k + 1 := by
        rw [ByteArray.size_append, ByteArray.size_extract, hz]
        show k + (min (r + 1) 4 - r) = _
        omega
      have hr0 : r = 0 ∨ r = 1 ∨ r = 2 ∨ r = 3 := by omega
      rcases hr0 with rfl | rfl | rfl | rfl
      all_goals
        go_wp2
        go_round
        case rel => exact ⟨k + 1, _, by omega, by go_num, rfl, HZ2, hz2⟩
        case measure => simp [intOf]; omega
    · obtain rfl : k = n := by omega
      have hq : decide ((k : Int) < k) = false := decide_eq_false (by omega)
      have hB2 : ((Z ++ s) ++ Z).data.toList = Z.data.toList ++ (s.data.toList ++ Z.data.toList) := by rw [ba_app2, ba_app2, List.append_assoc]
      have hszZ : Z.data.toList.length = k := by rw [← hz]; rfl
      have hszS : s.data.toList.length = s.size := rfl
      have hpt : pText ((Z ++ s) ++ Z).data.toList = pText s.data.toList := by
        rw [hB2]
        exact blanks_text HZ.out (by rw [hszZ, hszS]; omega)
      have hsz2 : ((Z ++ s) ++ Z).size ≤ 100000 := by rw [ByteArray.size_append, ByteArray.size_append]; omega
      cases hp : pText s.data.toList with
      | bad e0 =>
        have he5 := pText_bad_le hp
        rw [hp] at hpt
        have p1 := HB.out wc s e0 HB1.out (by omega) hp
        have HPT := Lib.hid hpt
        have HQ := Lib.hid hp
        clear hpt hp HP HD hB2 hszZ hszS
        go_wp2_with fail
        refine p1.mono ?_
        rintro e w2 ⟨rfl, HB2⟩
        clear p1
        go_upto_region 12 with fail
        refine wp_gen (fun w3 => Hid (Below w.heap.size w w3) ∧ Hid (zeroBlk w3 w2.heap.size) ∧ w2.heap.size < w3.heap.size) ⟨?_, heap_alloc_new w2 _, by simp⟩ ?_
        · have h12 := HB1.out.trans (HB2.out.mono HB1.out.size)
          exact h12.alloc h12.size _
        rintro w3 ⟨HB3, HX3, hx3⟩
        have p2 := HB.out w3 _ e0 HB3.out hsz2 HPT.out
        go_wp2_with fail
        refine p2.mono ?_
        rintro e w4 ⟨rfl, HB4⟩
        clear p2
        go_upto_region 13 with fail
        refine wp_gen (fun w5 => Hid (Below w.heap.size w w5) ∧ Hid (zeroBlk w5 w2.heap.size) ∧ Hid (zeroBlk w5 w4.heap.size) ∧ w2.heap.size < w5.heap.size ∧ w4.heap.size < w5.heap.size) ⟨?_, ?_, heap_alloc_new w4 _, by simp; have := HB4.out.size; omega, by simp⟩ ?_
        · have h12 := HB3.out.trans (HB4.out.mono HB3.out.size)
          exact h12.alloc h12.size _
        · exact ((Below.heap_alloc w4 _ _ (by have := HB4.out.size; omega)).trans (HB4.out.block _ hx3)).trans HX3.out
        rintro w5 ⟨HB5, HX5, HY5, hx5, hy5⟩
        have pn1 := HN.out w5 (e0 - 1) (by omega) HB5.out
        go_wp2_with fail
        refine pn1.mono ?_
        rintro e w6 ⟨rfl, hb6⟩
        have HB6 : Hid (Below w.heap.size w w6) := HB5.out.trans (hb6.mono HB5.out.size)
        have HX6 : Hid (zeroBlk w6 w2.heap.size) := (hb6.block _ hx5).trans HX5.out
        have HY6 : Hid (zeroBlk w6 w4.heap.size) := (hb6.block _ hy5).trans HY5.out
        have hs6 := hb6.size
        have pn2 := HN.out w6 (e0 - 1) (by omega) HB6.out
        clear pn1 hb6
        go_wp2_with fail
        refine pn2.mono ?_
        rintro e w7 ⟨rfl, hb7⟩
        have HB7 : Hid (Below w.heap.size w w7) := HB6.out.trans (hb7.mono HB6.out.size)
        have HX7 : Blk w7 w2.heap.size (.int .i64 0) (.int .i64 0) (.string ⟨#[]⟩) (.slice none 0 0) (.slice none 0 0) := (hb7.block _ (by omega)).trans HX6.out
        have HY7 : Blk w7 w4.heap.size (.int .i64 0) (.int .i64 0) (.string ⟨#[]⟩) (.slice none 0 0) (.slice none 0 0) := (hb7.block _ (by omega)).trans HY6.out
        clear pn2 hb7 HX6 HX5 HX3 HY5 HY6
        have x0 : w7.cell? ⟨w2.heap.size, 0, none⟩ = some (.int .i64 0) := HX7.cell 0 (by omega)
        have x1 : w7.cell? ⟨w2.heap.size, 1, none⟩ = some (.int .i64 0) := HX7.cell 1 (by omega)
        have x2 : w7.cell? ⟨w2.heap.size, 2, none⟩ = some (.string ⟨#[]⟩) := HX7.cell 2 (by omega)
        have x3 : w7.cell? ⟨w2.heap.size, 3, none⟩ = some (.slice none 0 0) := HX7.cell 3 (by omega)
        have x4 : w7.cell? ⟨w2.heap.size, 4, none⟩ = some (.slice none 0 0) := HX7.cell 4 (by omega)
        have y0 : w7.cell? ⟨w4.heap.size, 0, none⟩ = some (.int .i64 0) := HY7.cell 0 (by omega)
        have y1 : w7.cell? ⟨w4.heap.size, 1, none⟩ = some (.int .i64 0) := HY7.cell 1 (by omega)
        have y2 : w7.cell? ⟨w4.heap.size, 2, none⟩ = some (.string ⟨#[]⟩) := HY7.cell 2 (by omega)
        have y3 : w7.cell? ⟨w4.heap.size, 3, none⟩ = some (.slice none 0 0) := HY7.cell 3 (by omega)
        have y4 : w7.cell? ⟨w4.heap.size, 4, none⟩ = some (.slice none 0 0) := HY7.cell 4 (by omega)
        clear HX7 HY7
        have ps := HS.out w7 (fun _ => True) (fun _ => True) _ _ _ (.inr rfl) (zero_nis _ _) (zero_nis _ _)
        have qne : (((e0 - 1 : Nat) : Int) + 1 != ((e0 - 1 : Nat) : Int) + 1) = false := by simp
        go_wp2_with fail
        refine ps.mono ?_
        rintro e w8 ⟨rfl, hb8⟩
        clear ps
        go_wp2
        go_ret
        exact ⟨rfl, HB7.out.trans (hb8.mono HB7.out.size)⟩
      | ok v =>
        rw [hp] at hpt
        have p1 := HP.out wc s v HB1.out (by omega) hp
        have HPT := Lib.hid hpt
        have HQ := Lib.hid hp
        clear hpt hp HB HN hB2
        go_wp2_with fail
        refine p1.mono ?_
        rintro e w2 ⟨k1, n1, x1, A1, l1, c1, B1, m1, d1, rfl, HN2, HB2⟩
        clear p1
        go_upto_region 12 with fail
        refine wp_gen (fun w3 => Hid (Below w.heap.size w w3) ∧ Hid (Blk w3 w2.heap.size (.int .i64 k1) (.int .i64 n1) (.string ⟨x1.toArray⟩) (.slice A1 l1 c1) (.slice B1 m1 d1)) ∧ Hid (NIs (fun b => wc.heap.size ≤ b) 33 w3 v (.agg #[.int .i64 k1, .int .i64 n1, .string ⟨x1.toArray⟩, .slice A1 l1 c1, .slice B1 m1 d1])) ∧ w2.heap.size < w3.heap.size) ⟨?_, heap_alloc_new w2 _, HN2.out.below ((Below.refl _ _).alloc (Nat.le_refl _) _), by simp⟩ ?_
        · have h12 := HB1.out.trans (HB2.out.mono HB1.out.size)
          exact h12.alloc h12.size _
        rintro w3 ⟨HB3, HX3, HN3, hx3⟩
        clear HN2
        have p2 := HP.out w3 _ v HB3.out hsz2 HPT.out
        go_wp2_with fail
        refine p2.mono ?_
        rintro e w4 ⟨k2, n2, x2, A2, l2, c2, B2, m2, d2, rfl, HM4, HB4⟩
        clear p2
        go_upto_region 13 with fail
        refine wp_gen (fun w5 => Hid (Below w.heap.size w w5) ∧ Hid (Blk w5 w2.heap.size (.int .i64 k1) (.int .i64 n1) (.string ⟨x1.toArray⟩) (.slice A1 l1 c1) (.slice B1 m1 d1)) ∧ Hid (Blk w5 w4.heap.size (.int .i64 k2) (.int .i64 n2) (.string ⟨x2.toArray⟩) (.slice A2 l2 c2) (.slice B2 m2 d2)) ∧ Hid (NIs (fun b => wc.heap.size ≤ b) 33 w5 v (.agg #[.int .i64 k1, .int .i64 n1, .string ⟨x1.toArray⟩, .slice A1 l1 c1, .slice B1 m1 d1])) ∧ Hid (NIs (fun b => w3.heap.size ≤ b) 33 w5 v (.agg #[.int .i64 k2, .int .i64 n2, .string ⟨x2.toArray⟩, .slice A2 l2 c2, .slice B2 m2 d2]))) ⟨?_, ?_, heap_alloc_new w4 _, ?_, HM4.out.below ((Below.refl _ _).alloc (Nat.le_refl _) _)⟩ ?_
        · have h12 := HB3.out.trans (HB4.out.mono HB3.out.size)
          exact h12.alloc h12.size _
        · exact ((Below.heap_alloc w4 _ _ (by have := HB4.out.size; omega)).trans (HB4.out.block _ hx3)).trans HX3.out
        · exact (HN3.out.below HB4.out).below ((Below.refl _ _).alloc (Nat.le_refl _) _)
        rintro w5 ⟨HB5, HX7, HY7, HN5, HM5⟩
        clear HN3 HM4 HX3
        have u0 := HX7.out.cell 0 (by omega)
        have u1 := HX7.out.cell 1 (by omega)
        have u2 := HX7.out.cell 2 (by omega)
        have u3 := HX7.out.cell 3 (by omega)
        have u4 := HX7.out.cell 4 (by omega)
        have y0 := HY7.out.cell 0 (by omega)
        have y1 := HY7.out.cell 1 (by omega)
        have y2 := HY7.out.cell 2 (by omega)
        have y3 := HY7.out.cell 3 (by omega)
        have y4 := HY7.out.cell 4 (by omega)
        have ps := HS.out w5 _ _ _ _ _ (.inl HQ.out) HN5.out HM5.out
        go_wp2_with (go_at_call 13; refine (num_nil _).mono ?_; rintro e wx ⟨rfl, rfl⟩)
        refine ps.mono ?_
        rintro e w6 ⟨rfl, hb6⟩
        have HB6 : Hid (Below w.heap.size w w6) := HB5.out.trans (hb6.mono HB5.out.size)
        have HX6 : Hid (Blk w6 w2.heap.size (.int .i64 k1) (.int .i64 n1) (.string ⟨x1.toArray⟩) (.slice A1 l1 c1) (.slice B1 m1 d1)) := (hb6.block _ HX7.out.lt).trans HX7.out
        have HN6 := Lib.hid (HN5.out.below hb6)
        clear ps hb6 y0 y1 y2 y3 y4 u0 u1 u2 u3 u4 HY7 HM5 HN5 HX7
        have HX7 := HX6
        have u0 := HX7.out.cell 0 (by omega)
        have u1 := HX7.out.cell 1 (by omega)
        have u2 := HX7.out.cell 2 (by omega)
        have u3 := HX7.out.cell 3 (by omega)
        have u4 := HX7.out.cell 4 (by omega)
        have pd := HD.out w6 _ _ _ HQ.out HN6.out
        go_upto_region 15 with fail
        go_wp2_with fail
        refine pd.mono ?_
        rintro e w7 ⟨rfl, hb7⟩
        have HB7' : Hid (Below w.heap.size w w7) := HB6.out.trans (hb7.mono HB6.out.size)
        have HX8 : Hid (Blk w7 w2.heap.size (.int .i64 k1) (.int .i64 n1) (.string ⟨x1.toArray⟩) (.slice A1 l1 c1) (.slice B1 m1 d1)) := (hb7.block _ HX6.out.lt).trans HX6.out
        have HN7 := Lib.hid (HN6.out.below hb7)
        clear pd hb7 u0 u1 u2 u3 u4 HN6 HX6 HX7
        by_cases hd : 31 ≤ dep v
        · have qd : decide ((31 : Int) ≤ dep v) = true := decide_eq_true (by omega)
          go_wp2
          go_ret
          exact ⟨rfl, HB7'.out⟩
        have qd : decide ((31 : Int) ≤ dep v) = false := decide_eq_false (by omega)
        have hB3 : (((((((⟨#[91]⟩ : ByteArray) ++ Z) ++ s) ++ Z) ++ ⟨#[44]⟩) ++ s) ++ ⟨#[93]⟩).data.toList = 91 :: (Z.data.toList ++ (s.data.toList ++ (Z.data.toList ++ 44 :: (s.data.toList ++ [93])))) := by
          simp [ba_app2]
        have hpt3 : pText (((((((⟨#[91]⟩ : ByteArray) ++ Z) ++ s) ++ Z) ++ ⟨#[44]⟩) ++ s) ++ ⟨#[93]⟩).data.toList = .ok (.mk 6 0 [] [] [v, v]) := by
          rw [hB3]
          exact twice_text HZ.out (by rw [hszS]; omega) (by rw [hszZ]; omega) HQ.out (by omega)
        have hsz3 : (((((((⟨#[91]⟩ : ByteArray) ++ Z) ++ s) ++ Z) ++ ⟨#[44]⟩) ++ s) ++ ⟨#[93]⟩).size ≤ 100000 := by
          have : (((((((⟨#[91]⟩ : ByteArray) ++ Z) ++ s) ++ Z) ++ ⟨#[44]⟩) ++ s) ++ ⟨#[93]⟩).data.toList.length ≤ 100000 := by
            rw [hB3]; simp; omega
          exact this
        have p3 := HP.out w7 _ _ HB7'.out hsz3 hpt3
        clear hpt3 hB3 hsz3
        go_upto_region 17 with fail
        go_wp2_with fail
        refine p3.mono ?_
        rintro e w8 ⟨k3, n3, x3, A3, l3, c3, B3, m3, d3, rfl, HK8, HB8⟩
        clear p3
        go_upto_region 18 with fail
        refine wp_gen (fun w9 => Hid (Below w.heap.size w w9) ∧ Hid (Blk w9 w2.heap.size (.int .i64 k1) (.int .i64 n1) (.string ⟨x1.toArray⟩) (.slice A1 l1 c1) (.slice B1 m1 d1)) ∧ Hid (Blk w9 w8.heap.size (.int .i64 k3) (.int .i64 n3) (.string ⟨x3.toArray⟩) (.slice A3 l3 c3) (.slice B3 m3 d3)) ∧ Hid (NIs (fun b => wc.heap.size ≤ b) 33 w9 v (.agg #[.int .i64 k1, .int .i64 n1, .string ⟨x1.toArray⟩, .slice A1 l1 c1, .slice B1 m1 d1])) ∧ Hid (NIs (fun b => w7.heap.size ≤ b) 33 w9 (.mk 6 0 [] [] [v, v]) (.agg #[.int .i64 k3, .int .i64 n3, .string ⟨x3.toArray⟩, .slice A3 l3 c3, .slice B3 m3 d3]))) ⟨?_, ?_, heap_alloc_new w8 _, ?_, HK8.out.below ((Below.refl _ _).alloc (Nat.le_refl _) _)⟩ ?_
        · have h12 := HB7'.out.trans (HB8.out.mono HB7'.out.size)
          exact h12.alloc h12.size _
        · exact ((Below.heap_alloc w8 _ _ (by have := HB8.out.size; have := HX8.out.lt; omega)).trans (HB8.out.block _ HX8.out.lt)).trans HX8.out
        · exact (HN7.out.below HB8.out).below ((Below.refl _ _).alloc (Nat.le_refl _) _)
        rintro w9 ⟨HB9, HX9, HY9, HN9, HK9⟩
        clear HN7 HX8 HK8 HPT HB7' HB8
        -- the Array's kids
        obtain ⟨kv, K, dk, hv, ⟨KA, Kc, rfl, _⟩, hkid⟩ := HK9.out
        simp only [litV, Value.agg.injEq, Array.mk.injEq, List.cons.injEq, and_true, Value.slice.injEq] at hv
        obtain ⟨hv0, hv1, hv2, hv3, rfl, hv4, rfl⟩ := hv
        simp only [List.length_cons, List.length_nil] at hv4
        rcases hkid with hkid | ⟨b, off, rfl, _, hbl, hc⟩
        · cases hkid
        obtain ⟨h0, h1, h2, h3, h4, e0, e1, e2, e3, e4, hK0⟩ := hc 0 (by simp)
        obtain ⟨h5, h6, h7, h8, h9, e5, e6, e7, e8, e9, hK1⟩ := hc 1 (by simp)
        have HK0 := Lib.hid (hK0.mono (Nat.le_succ _))
        have HK1 := Lib.hid (hK1.mono (Nat.le_succ _))
        have f3 := HY9.out.cell 4 (by omega)
        subst hv4
        have HS0 : Hid (∀ w', Below w9.heap.size w9 w' → Calls Tryd.prog 10 #[.agg #[h0, h1, h2, h3, h4], .agg #[.int .i64 k1, .int .i64 n1, .string ⟨x1.toArray⟩, .slice A1 l1 c1, .slice B1 m1 d1]] w' fun e w'' => e = .returned (.bool true) ∧ Below w'.heap.size w' w'') :=
          fun w' hb => HS.out w' _ _ _ _ _ (.inl HQ.out) (HK0.out.below hb) (HN9.out.below hb)
        have HS1 : Hid (∀ w', Below w9.heap.size w9 w' → Calls Tryd.prog 10 #[.agg #[h5, h6, h7, h8, h9], .agg #[.int .i64 k1, .int .i64 n1, .string ⟨x1.toArray⟩, .slice A1 l1 c1, .slice B1 m1 d1]] w' fun e w'' => e = .returned (.bool true) ∧ Below w'.heap.size w' w'') :=
          fun w' hb => HS.out w' _ _ _ _ _ (.inl HQ.out) (HK1.out.below hb) (HN9.out.below hb)
        have HX7 := HX9
        have u0 := HX7.out.cell 0 (by omega)
        have u1 := HX7.out.cell 1 (by omega)
        have u2 := HX7.out.cell 2 (by omega)
        have u3 := HX7.out.cell 3 (by omega)
        have u4 := HX7.out.cell 4 (by omega)
        have hS0 : (fun w' => w'.cell? ⟨w8.heap.size, 4, none⟩ = some (.slice (some ⟨b, off, none⟩) 2 d3) ∧ w'.cell? ⟨w2.heap.size, 0, none⟩ = some (.int .i64 k1) ∧ w'.cell? ⟨w2.heap.size, 1, none⟩ = some (.int .i64 n1) ∧ w'.cell? ⟨w2.heap.size, 2, none⟩ = some (.string ⟨x1.toArray⟩) ∧ w'.cell? ⟨w2.heap.size, 3, none⟩ = some (.slice A1 l1 c1) ∧ w'.cell? ⟨w2.heap.size, 4, none⟩ = some (.slice B1 m1 d1) ∧ w'.cell? ⟨b, off, none⟩ = some (h0) ∧ w'.cell? ⟨b, off + 1, none⟩ = some (h1) ∧ w'.cell? ⟨b, off + 2, none⟩ = some (h2) ∧ w'.cell? ⟨b, off + 3, none⟩ = some (h3) ∧ w'.cell? ⟨b, off + 4, none⟩ = some (h4) ∧ w'.cell? ⟨b, off + 5, none⟩ = some (h5) ∧ w'.cell? ⟨b, off + 6, none⟩ = some (h6) ∧ w'.cell? ⟨b, off + 7, none⟩ = some (h7) ∧ w'.cell? ⟨b, off + 8, none⟩ = some (h8) ∧ w'.cell? ⟨b, off + 9, none⟩ = some (h9) ∧ Hid (Below w9.heap.size w9 w')) w9 := ⟨f3, u0, u1, u2, u3, u4, e0, e1, e2, e3, e4, e5, e6, e7, e8, e9, Below.refl _ _⟩
        clear f3 u0 u1 u2 u3 u4 e0 e1 e2 e3 e4 e5 e6 e7 e8 e9 hK0 hK1 hc hv0 hv1 hv2 hv3 HX9 HY9 HX7 HN9 HK9 HK0 HK1 qd hd q
        go_region_held3? (fun w' => w'.cell? ⟨w8.heap.size, 4, none⟩ = some (.slice (some ⟨b, off, none⟩) 2 d3) ∧ w'.cell? ⟨w2.heap.size, 0, none⟩ = some (.int .i64 k1) ∧ w'.cell? ⟨w2.heap.size, 1, none⟩ = some (.int .i64 n1) ∧ w'.cell? ⟨w2.heap.size, 2, none⟩ = some (.string ⟨x1.toArray⟩) ∧ w'.cell? ⟨w2.heap.size, 3, none⟩ = some (.slice A1 l1 c1) ∧ w'.cell? ⟨w2.heap.size, 4, none⟩ = some (.slice B1 m1 d1) ∧ w'.cell? ⟨b, off, none⟩ = some (h0) ∧ w'.cell? ⟨b, off + 1, none⟩ = some (h1) ∧ w'.cell? ⟨b, off + 2, none⟩ = some (h2) ∧ w'.cell? ⟨b, off + 3, none⟩ = some (h3) ∧ w'.cell? ⟨b, off + 4, none⟩ = some (h4) ∧ w'.cell? ⟨b, off + 5, none⟩ = some (h5) ∧ w'.cell? ⟨b, off + 6, none⟩ = some (h6) ∧ w'.cell? ⟨b, off + 7, none⟩ = some (h7) ∧ w'.cell? ⟨b, off + 8, none⟩ = some (h8) ∧ w'.cell? ⟨b, off + 9, none⟩ = some (h9) ∧ Hid (Below w9.heap.size w9 w')) (with_reducible (first | exact bl_drew (by assumption) | exact bl_keep (by assumption) (by assumption) | assumption))
          (first
            | (go_at_call 10; with_reducible refine (HS0.out _ (by first | exact bl_b (by assumption) | exact dr_belowB (bl_b (by assumption)))).mono ?_; rintro e w10 ⟨rfl, hb10⟩)
            | (go_at_call 10; with_reducible refine (HS1.out _ (by first | exact bl_b (by assumption) | exact dr_belowB (bl_b (by assumption)))).mono ?_; rintro e w10 ⟨rfl, hb10⟩))
        all_goals go_wp2
        all_goals go_ret
        all_goals exact ⟨rfl, HB9.out.trans ((bl_b (by assumption)).mono HB9.out.size)⟩

end Go.Proofs.YtlaagdpanbineaaDoor

