/- The document's reader of JSON: value. -/
import Derived.Test.YtlaagdpanbineaaGreatDoorJo
import Derived.Test.YtlaagdpanbineaaGreatDoorRa
import Derived.Test.YtlaagdpanbineaaGreatDoorNc
import Derived.BigQuiet
import Derived.Deep.RegionHeld3
namespace Go.Proofs.YtlaagdpanbineaaGreatDoor
open Go.RowKit

theorem word_any (R : Nat) (s W : ByteArray) (k c : Nat) (kd : Int) (w : World) (h : RdA w R s k 0 c) (hs : s.size ≤ 200000) (hk : k ≤ s.size) (hW : W.size ≤ 10) :
    Calls Tryz.prog 36 #[.pointer (some ⟨R, 0, none⟩), .string W, .int .i64 kd] w fun y w' => y = .returned (litV kd 0 [] (.slice none 0 0) (.slice none 0 0)) ∧ w.grownBy w' (some R) ∧
      ∃ k' e', RdA w' R s k' e' c ∧ ((W.data.toList.isPrefixOf (s.data.toList.drop k) = true ∧ e' = 0 ∧ k' = k + W.size) ∨ (W.data.toList.isPrefixOf (s.data.toList.drop k) = false ∧ e' = 1)) := by
  cases hp : W.data.toList.isPrefixOf (s.data.toList.drop k) with
  | true => exact (word_yes R s W k c kd w h hs hk hW hp).mono fun y w' ⟨h1, h2, h3⟩ => ⟨h1, h2, _, 0, h3, .inl ⟨rfl, rfl, rfl⟩⟩
  | false =>
    by_cases hl : s.size < k + W.size
    · exact (word_short R s W k c kd w h hs hk hW hl).mono fun y w' ⟨h1, h2, k', h3⟩ => ⟨h1, h2, k', 1, h3, .inr ⟨rfl, rfl⟩⟩
    · have hne : s.extract k (k + W.size) ≠ W := fun e => by rw [(pre_iff W s k hk).2 ⟨by omega, e⟩] at hp; cases hp
      exact (word_other R s W k c kd w h hs hk hW (by omega) hne).mono fun y w' ⟨h1, h2, k', h3⟩ => ⟨h1, h2, k', 1, h3, .inr ⟨rfl, rfl⟩⟩
theorem setc_size' (w : World) (p : Addr) (v : Value) : (w.setCell p v).heap.size = w.heap.size := by simp [World.setCell]
theorem I2.takeR_len {l : List UInt8} {v : Int} {z : Nat} {o : Option Nat} (h : I2.takeR l = (v, z, o)) : z ≤ l.length := by
  have h2 := I2.front_le l
  unfold I2.takeR at h
  split at h
  · simp only [Prod.mk.injEq] at h; omega
  · split at h
    · simp only [Prod.mk.injEq] at h; omega
    · simp only [Prod.mk.injEq] at h; omega
theorem nd_lit (k n : Int) (t : List UInt8) (A : Option Addr) (l c : Nat) (A2 : Option Addr) (l2 c2 : Nat) : NdV (.agg #[.int .i64 k, .int .i64 n, .string ⟨t.toArray⟩, .slice A l c, .slice A2 l2 c2]) := ⟨k, n, t, A, l, c, A2, l2, c2, rfl⟩
theorem nis_leaf (ok : Nat → Prop) (g : Nat) (w : World) (k n : Int) (t : List UInt8) : NIs ok (g + 1) w (.mk k n t [] []) (.agg #[.int .i64 k, .int .i64 n, .string ⟨t.toArray⟩, .slice none 0 0, .slice none 0 0]) :=
  ⟨.slice none 0 0, none, 0, rfl, ⟨none, 0, rfl, .inl rfl⟩, .inl rfl⟩
theorem num_drew {w wx : World} {R k1 c : Nat} {s : ByteArray} (h : wx.cell? ⟨R, 0, none⟩ = some (.string s) ∧ wx.cell? ⟨R, 1, none⟩ = some (.int .i64 k1) ∧ Hid (zeroBlk wx w.heap.size) ∧ Hid (RdA wx R s k1 0 (c + 1)) ∧ Hid (w.grownBy wx (some R))) :
    wx.drew.cell? ⟨R, 0, none⟩ = some (.string s) ∧ wx.drew.cell? ⟨R, 1, none⟩ = some (.int .i64 k1) ∧ Hid (zeroBlk wx.drew w.heap.size) ∧ Hid (RdA wx.drew R s k1 0 (c + 1)) ∧ Hid (w.grownBy wx.drew (some R)) :=
  ⟨h.1, h.2.1, h.2.2.1, h.2.2.2.1, gb_same h.2.2.2.2.out⟩
theorem zero_store {w : World} {X : Nat} (h : zeroBlk w X) (d : Nat) : zeroBlk (w.drewN d) X := h

set_option maxRecDepth 100000 in
set_option maxHeartbeats 8000000 in
theorem value_any (f : Nat) : ValC f := by
  induction f using Nat.strongRecOn with
  | ind f ih =>
  intro R s d k c w hs hd h hk hf hc20
  obtain ⟨g, rfl⟩ : ∃ g, f = g + 1 := ⟨f - 1, by omega⟩
  have HR := Lib.hid h
  have hRX : R < w.heap.size := h.lt
  obtain ⟨res, hres⟩ : ∃ res, pJ (g + 1) .val d c (s.data.toList.drop k) = res := ⟨_, rfl⟩
  rw [hres]
  unfold pJ at hres
  have HRS := Lib.hid hres
  have hiA := fun (k' : Nat) (w' : World) (h1 : RdA w' R s k' 0 (c + 1)) (h2 : k < k') (h3 : k' ≤ s.size) (hd32 : d < 32) (hc : c < 20000) => arr_any g (fun g' hg' => ih g' (by omega)) R s d k' (c + 1) w' hs (by omega) h1 h3 (by omega) (by omega)
  have hiO := fun (k' : Nat) (w' : World) (h1 : RdA w' R s k' 0 (c + 1)) (h2 : k < k') (h3 : k' ≤ s.size) (hd32 : d < 32) (hc : c < 20000) => obj_any g (fun g' hg' => ih g' (by omega)) R s d k' (c + 1) w' hs (by omega) h1 h3 (by omega) (by omega)
  have HIA := Lib.hid hiA
  have HIO := Lib.hid hiO
  obtain ⟨m, hm⟩ : ∃ m, headB (skipB (s.data.toList.drop k)) = m := ⟨_, rfl⟩
  have hN := next_hd R s k 0 c (w.alloc (.cells #[.int .i64 0, .int .i64 0, .string ⟨#[]⟩, .slice none 0 0, .slice none 0 0] 26)) (HR.out.alloc _) hs hk hm
  have HM := Lib.hid hm
  clear h ih hres hiA hiO hf hm
  go_enter Tryz.func17, Tryz.ntmps17
  go_wp2_with fail
  refine hN.mono ?_
  rintro y w1 ⟨rfl, k1, hR1, hk1, hd1, hg1⟩
  clear hN
  have HZ1 : Hid (zeroBlk w1 w.heap.size) := (hg1.block _ (by simp) (by simp; omega)).trans (heap_alloc_new w _)
  have HG1 : Hid (w.grownBy w1 (some R)) := gb_trans (gb_alloc (gb_refl w _) _) hg1
  have hkk : s.size - k1 ≤ s.size - k := drop_le hk1 hd1
  have HD1 := Lib.hid hd1
  have HR1 := Lib.hid hR1
  have c2 := HR1.out.c2
  have c3 := HR1.out.c3
  have f3 := HR1.out.fz 3 (by omega)
  have hs3 := HR1.out.set3 (c + 1)
  have hcn : ((c + 1 : Nat) : Int) = (c : Int) + 1 := by omega
  rw [hcn] at hs3
  have HS3 := Lib.hid hs3
  clear hR1 hd1 hg1 hs3
  go_upto_region 5 with fail
  refine wp_gen (fun w2 => Hid (zeroBlk w2 w.heap.size) ∧ Hid (RdA w2 R s k1 0 (c + 1)) ∧ Hid (w.grownBy w2 (some R))) ⟨HZ1.out.other (by omega) _, HS3.out, gb_set HG1.out _⟩ ?_
  rintro w2 ⟨HZ2, HR2, HG2⟩
  clear c2 c3 f3 HS3 HR1 HG1 HZ1
  have c0 := HR2.out.c0
  have c1 := HR2.out.c1
  have c3 := HR2.out.c3
  rw [hcn] at c3
  have hl1 : s.data.toList.drop k1 = skipB (s.data.toList.drop k) := HD1.out
  by_cases hcc : 20000 ≤ c ∧ skipB (s.data.toList.drop k) ≠ []
  · have hk1s : k1 < s.size := by
      rcases Nat.lt_or_ge k1 s.size with h1 | h1
      · exact h1
      · exact absurd (hl1.symm.trans (List.drop_eq_nil_of_le (by rw [size_list]; exact h1))) hcc.2
    have HE : Hid (res = .bad 3) := by
      show _ = _
      rw [← HRS.out, if_pos hcc]
    obtain rfl : c = 20000 := by omega
    have q2 : decide ((k1 : Int) < s.size) = true := decide_eq_true (by omega)
    have hF : ∀ W, RdA W R s k1 0 20001 → Calls Tryz.prog 19 #[.pointer (some ⟨R, 0, none⟩), .int .i64 3] W fun x w' => x = .returned (.tuple #[]) ∧ w' = W.setCell ⟨R, 2, none⟩ (.int .i64 3) := fun W hW => fail_any R s k1 20001 3 W hW
    clear hcc hl1
    go_quiet (fail)
    go_wp2_with fail
    refine (hF _ (by exact HR2.out)).mono ?_
    rintro y w4 ⟨rfl, hw⟩
    have HZ4 : Hid (zeroBlk w4 w.heap.size) := by show zeroBlk _ _; rw [hw]; exact Blk.other (w := w2) HZ2.out (by omega) _
    have HR4 : Hid (RdA w4 R s k1 3 20001) := by show RdA _ _ _ _ _ _; rw [hw]; exact RdA.set2 (w := w2) HR2.out 3
    have HG4 : Hid (w.grownBy w4 (some R)) := by show w.grownBy _ _; rw [hw]; exact gb_set (gb_drewN HG2.out _) _
    clear hw hF c0 c1 c3 q2
    have z0 := HZ4.out.cell 0 (by omega)
    have z1 := HZ4.out.cell 1 (by omega)
    have z2 := HZ4.out.cell 2 (by omega)
    have z3 := HZ4.out.cell 3 (by omega)
    have z4 := HZ4.out.cell 4 (by omega)
    have f0 := HZ4.out.fz
    go_wp2
    refine bp_gen (fun w5 => Hid (Blk w5 w.heap.size (.int .i64 0) (.int .i64 0) (.string ⟨#[]⟩) (.slice none 0 0) (.slice none 0 0)) ∧ Hid (RdA w5 R s k1 3 20001) ∧ Hid (w.grownBy w5 (some R)) ∧ Hid (w4.grownBy w5 (some w.heap.size))) ⟨HZ4.out.store _ _ _ _ _, ((((HR4.out.other (by omega) _).other (by omega) _).other (by omega) _).other (by omega) _).other (by omega) _, gb_new (gb_new (gb_new (gb_new (gb_new HG4.out (Nat.le_refl _) _) (Nat.le_refl _) _) (Nat.le_refl _) _) (Nat.le_refl _) _) (Nat.le_refl _) _, gb_set (gb_set (gb_set (gb_set (gb_set (gb_refl _ _) _) _) _) _) _⟩ ?_
    intro w5 ⟨HZ5, HR5, HG5, HG45⟩
    have y0 := HZ5.out.cell 0 (by omega)
    have y1 := HZ5.out.cell 1 (by omega)
    have y2 := HZ5.out.cell 2 (by omega)
    have y3 := HZ5.out.cell 3 (by omega)
    have y4 := HZ5.out.cell 4 (by omega)
    (try simp only [Exit.inBlock, Exit.then])
    refine bodyPost_ret (v := .agg #[.int .i64 0, .int .i64 0, .string ⟨#[]⟩, .slice none 0 0, .slice none 0 0]) ?_ rfl ?_
    · simp [results, Tryz.results17, go_sem, y0, y1, y2, y3, y4]
      try rfl
    · rw [HE.out]
      exact ⟨_, rfl, nd_lit 0 0 [] none 0 0 none 0 0, HG5.out, by omega, _, _, HR5.out⟩
  · go_cut [40] (fun b wx => b = .bool false ∧ Hid (zeroBlk wx w.heap.size) ∧ Hid (RdA wx R s k1 0 (c + 1)) ∧ Hid (w.grownBy wx (some R)))
    case first =>
      by_cases hc2 : c < 20000
      · have q : decide ((20000 : Int) < (c : Int) + 1) = false := decide_eq_false (by omega)
        clear hcc hl1
        go_quiet (fail)
        go_wp2
        go_meet
        exact ⟨rfl, HZ2.out, HR2.out, gb_drewN HG2.out _⟩
      · have hnil : skipB (s.data.toList.drop k) = [] := Decidable.byContradiction fun e => hcc ⟨by omega, e⟩
        have hks : k1 = s.size := by
          have := congrArg List.length (hl1.trans hnil)
          rw [List.length_drop, size_list] at this
          simp at this; omega
        have q : decide ((20000 : Int) < (c : Int) + 1) = true := decide_eq_true (by omega)
        have q2 : decide ((k1 : Int) < s.size) = false := decide_eq_false (by omega)
        clear hcc hl1 hnil
        go_quiet (fail)
        go_wp2
        go_meet
        exact ⟨rfl, HZ2.out, HR2.out, gb_drewN HG2.out _⟩
    case rest =>
    obtain ⟨rfl, HZ, HRc, HG⟩ := hcut
    have HCC := Lib.hid hcc
    have HL1 := Lib.hid hl1
    have hsz := HG.out.size
    have hzl := HZ.out.lt
    clear hcc hl1 c0 c1 c3 HZ2 HR2 HG2
    by_cases hm110 : m = 110
    · subst hm110
      obtain ⟨x, t, hxt, hx⟩ : ∃ y u, skipB (s.data.toList.drop k) = y :: u ∧ y.toNat = 110 := by
        have hm := HM.out
        cases hz : skipB (s.data.toList.drop k) with
        | nil => rw [hz] at hm; simp [headB] at hm
        | cons y u => rw [hz] at hm; exact ⟨y, u, rfl, hm⟩
      have hc2 : c < 20000 := by
        rcases Nat.lt_or_ge c 20000 with h1 | h1
        · exact h1
        · exact absurd ⟨h1, by rw [hxt]; simp⟩ HCC.out
      have hlt : k1 < s.size := by
        rcases Nat.lt_or_ge k1 s.size with h1 | h1
        · exact h1
        · have := HL1.out.symm.trans (List.drop_eq_nil_of_le (by rw [size_list]; exact h1)); rw [hxt] at this; cases this
      have hRES := HRS.out
      rw [if_neg HCC.out, hxt] at hRES
      simp only [] at hRES
      rw [if_pos hx] at hRES
      have hW := word_any R s ⟨#[110, 117, 108, 108]⟩ k1 (c + 1) 1 wc HRc.out hs hk1 (by decide)
      have HE : Hid (wordR wNull 1 (s.data.toList.drop k1) (c + 1) = res) := by show _ = _; rw [HL1.out, hxt]; exact hRES
      clear hRES hxt hx
      unfold litV at hW
      go_wp2_with fail
      refine hW.mono ?_
      rintro y w4 ⟨rfl, hg4, k4, e4, hR4, hor⟩
      have HR4 := Lib.hid hR4
      have HOR := Lib.hid hor
      have HZ4 : Hid (zeroBlk w4 w.heap.size) := (hg4.block _ hzl (by simp; omega)).trans HZ.out
      have HG4 : Hid (w.grownBy w4 (some R)) := gb_trans HG.out hg4
      clear hW hR4 hor hg4
      have z0 := HZ4.out.cell 0 (by omega)
      have z1 := HZ4.out.cell 1 (by omega)
      have z2 := HZ4.out.cell 2 (by omega)
      have z3 := HZ4.out.cell 3 (by omega)
      have z4 := HZ4.out.cell 4 (by omega)
      have f0 := HZ4.out.fz
      go_wp2
      refine bp_gen (fun w5 => Hid (Blk w5 w.heap.size (.int .i64 1) (.int .i64 0) (.string ⟨#[]⟩) (.slice none 0 0) (.slice none 0 0)) ∧ Hid (RdA w5 R s k4 e4 (c + 1)) ∧ Hid (w.grownBy w5 (some R)) ∧ Hid (w4.grownBy w5 (some w.heap.size))) ⟨HZ4.out.store _ _ _ _ _, ((((HR4.out.other (by omega) _).other (by omega) _).other (by omega) _).other (by omega) _).other (by omega) _, gb_new (gb_new (gb_new (gb_new (gb_new HG4.out (Nat.le_refl _) _) (Nat.le_refl _) _) (Nat.le_refl _) _) (Nat.le_refl _) _) (Nat.le_refl _) _, gb_set (gb_set (gb_set (gb_set (gb_set (gb_refl _ _) _) _) _) _) _⟩ ?_
      intro w5 ⟨HZ5, HR5, HG5, HG45⟩
      have y0 := HZ5.out.cell 0 (by omega)
      have y1 := HZ5.out.cell 1 (by omega)
      have y2 := HZ5.out.cell 2 (by omega)
      have y3 := HZ5.out.cell 3 (by omega)
      have y4 := HZ5.out.cell 4 (by omega)
      (try simp only [Exit.inBlock, Exit.then])
      refine bodyPost_ret (v := .agg #[.int .i64 1, .int .i64 0, .string ⟨#[]⟩, .slice none 0 0, .slice none 0 0]) ?_ rfl ?_
      · simp [results, Tryz.results17, go_sem, y0, y1, y2, y3, y4]
        try rfl
      · rcases HOR.out with ⟨hp, rfl, rfl⟩ | ⟨hp, rfl⟩
        · have hr : res = .ok (litN 1) (s.data.toList.drop (k1 + 4)) (c + 1) := by
            rw [← HE.out]
            unfold wordR
            rw [if_pos (show wNull.isPrefixOf (s.data.toList.drop k1) = true from hp), List.drop_drop]
            rfl
          have hle : k1 + 4 ≤ s.size := by
            have h1 := (List.isPrefixOf_iff_prefix.1 (show wNull.isPrefixOf (s.data.toList.drop k1) = true from hp)).length_le
            rw [List.length_drop, size_list] at h1
            have h2 : wNull.length = 4 := rfl
            omega
          rw [hr]
          exact ⟨_, rfl, nis_leaf _ g w5 1 0 [], HG5.out, _, HR5.out, hle, rfl⟩
        · have hr : res = .bad 1 := by
            rw [← HE.out]
            unfold wordR
            rw [if_neg (by rw [show wNull.isPrefixOf (s.data.toList.drop k1) = false from hp]; simp)]
          rw [hr]
          exact ⟨_, rfl, nd_lit 1 0 [] none 0 0 none 0 0, HG5.out, by omega, _, _, HR5.out⟩
    by_cases hm102 : m = 102
    · subst hm102
      obtain ⟨x, t, hxt, hx⟩ : ∃ y u, skipB (s.data.toList.drop k) = y :: u ∧ y.toNat = 102 := by
        have hm := HM.out
        cases hz : skipB (s.data.toList.drop k) with
        | nil => rw [hz] at hm; simp [headB] at hm
        | cons y u => rw [hz] at hm; exact ⟨y, u, rfl, hm⟩
      have hc2 : c < 20000 := by
        rcases Nat.lt_or_ge c 20000 with h1 | h1
        · exact h1
        · exact absurd ⟨h1, by rw [hxt]; simp⟩ HCC.out
      have hlt : k1 < s.size := by
        rcases Nat.lt_or_ge k1 s.size with h1 | h1
        · exact h1
        · have := HL1.out.symm.trans (List.drop_eq_nil_of_le (by rw [size_list]; exact h1)); rw [hxt] at this; cases this
      have hRES := HRS.out
      rw [if_neg HCC.out, hxt] at hRES
      simp only [] at hRES
      rw [if_neg (by omega : ¬ x.toNat = 110)] at hRES
      rw [if_pos hx] at hRES
      have hW := word_any R s ⟨#[102, 97, 108, 115, 101]⟩ k1 (c + 1) 2 wc HRc.out hs hk1 (by decide)
      have HE : Hid (wordR wFalse 2 (s.data.toList.drop k1) (c + 1) = res) := by show _ = _; rw [HL1.out, hxt]; exact hRES
      clear hRES hxt hx
      unfold litV at hW
      go_wp2_with fail
      refine hW.mono ?_
      rintro y w4 ⟨rfl, hg4, k4, e4, hR4, hor⟩
      have HR4 := Lib.hid hR4
      have HOR := Lib.hid hor
      have HZ4 : Hid (zeroBlk w4 w.heap.size) := (hg4.block _ hzl (by simp; omega)).trans HZ.out
      have HG4 : Hid (w.grownBy w4 (some R)) := gb_trans HG.out hg4
      clear hW hR4 hor hg4
      have z0 := HZ4.out.cell 0 (by omega)
      have z1 := HZ4.out.cell 1 (by omega)
      have z2 := HZ4.out.cell 2 (by omega)
      have z3 := HZ4.out.cell 3 (by omega)
      have z4 := HZ4.out.cell 4 (by omega)
      have f0 := HZ4.out.fz
      go_wp2
      refine bp_gen (fun w5 => Hid (Blk w5 w.heap.size (.int .i64 2) (.int .i64 0) (.string ⟨#[]⟩) (.slice none 0 0) (.slice none 0 0)) ∧ Hid (RdA w5 R s k4 e4 (c + 1)) ∧ Hid (w.grownBy w5 (some R)) ∧ Hid (w4.grownBy w5 (some w.heap.size))) ⟨HZ4.out.store _ _ _ _ _, ((((HR4.out.other (by omega) _).other (by omega) _).other (by omega) _).other (by omega) _).other (by omega) _, gb_new (gb_new (gb_new (gb_new (gb_new HG4.out (Nat.le_refl _) _) (Nat.le_refl _) _) (Nat.le_refl _) _) (Nat.le_refl _) _) (Nat.le_refl _) _, gb_set (gb_set (gb_set (gb_set (gb_set (gb_refl _ _) _) _) _) _) _⟩ ?_
      intro w5 ⟨HZ5, HR5, HG5, HG45⟩
      have y0 := HZ5.out.cell 0 (by omega)
      have y1 := HZ5.out.cell 1 (by omega)
      have y2 := HZ5.out.cell 2 (by omega)
      have y3 := HZ5.out.cell 3 (by omega)
      have y4 := HZ5.out.cell 4 (by omega)
      (try simp only [Exit.inBlock, Exit.then])
      refine bodyPost_ret (v := .agg #[.int .i64 2, .int .i64 0, .string ⟨#[]⟩, .slice none 0 0, .slice none 0 0]) ?_ rfl ?_
      · simp [results, Tryz.results17, go_sem, y0, y1, y2, y3, y4]
        try rfl
      · rcases HOR.out with ⟨hp, rfl, rfl⟩ | ⟨hp, rfl⟩
        · have hr : res = .ok (litN 2) (s.data.toList.drop (k1 + 5)) (c + 1) := by
            rw [← HE.out]
            unfold wordR
            rw [if_pos (show wFalse.isPrefixOf (s.data.toList.drop k1) = true from hp), List.drop_drop]
            rfl
          have hle : k1 + 5 ≤ s.size := by
            have h1 := (List.isPrefixOf_iff_prefix.1 (show wFalse.isPrefixOf (s.data.toList.drop k1) = true from hp)).length_le
            rw [List.length_drop, size_list] at h1
            have h2 : wFalse.length = 5 := rfl
            omega
          rw [hr]
          exact ⟨_, rfl, nis_leaf _ g w5 2 0 [], HG5.out, _, HR5.out, hle, rfl⟩
        · have hr : res = .bad 1 := by
            rw [← HE.out]
            unfold wordR
            rw [if_neg (by rw [show wFalse.isPrefixOf (s.data.toList.drop k1) = false from hp]; simp)]
          rw [hr]
          exact ⟨_, rfl, nd_lit 2 0 [] none 0 0 none 0 0, HG5.out, by omega, _, _, HR5.out⟩
    by_cases hm116 : m = 116
    · subst hm116
      obtain ⟨x, t, hxt, hx⟩ : ∃ y u, skipB (s.data.toList.drop k) = y :: u ∧ y.toNat = 116 := by
        have hm := HM.out
        cases hz : skipB (s.data.toList.drop k) with
        | nil => rw [hz] at hm; simp [headB] at hm
        | cons y u => rw [hz] at hm; exact ⟨y, u, rfl, hm⟩
      have hc2 : c < 20000 := by
        rcases Nat.lt_or_ge c 20000 with h1 | h1
        · exact h1
        · exact absurd ⟨h1, by rw [hxt]; simp⟩ HCC.out
      have hlt : k1 < s.size := by
        rcases Nat.lt_or_ge k1 s.size with h1 | h1
        · exact h1
        · have := HL1.out.symm.trans (List.drop_eq_nil_of_le (by rw [size_list]; exact h1)); rw [hxt] at this; cases this
      have hRES := HRS.out
      rw [if_neg HCC.out, hxt] at hRES
      simp only [] at hRES
      rw [if_neg (by omega : ¬ x.toNat = 110)] at hRES
      rw [if_neg (by omega : ¬ x.toNat = 102)] at hRES
      rw [if_pos hx] at hRES
      have hW := word_any R s ⟨#[116, 114, 117, 101]⟩ k1 (c + 1) 3 wc HRc.out hs hk1 (by decide)
      have HE : Hid (wordR wTrue 3 (s.data.toList.drop k1) (c + 1) = res) := by show _ = _; rw [HL1.out, hxt]; exact hRES
      clear hRES hxt hx
      unfold litV at hW
      go_wp2_with fail
      refine hW.mono ?_
      rintro y w4 ⟨rfl, hg4, k4, e4, hR4, hor⟩
      have HR4 := Lib.hid hR4
      have HOR := Lib.hid hor
      have HZ4 : Hid (zeroBlk w4 w.heap.size) := (hg4.block _ hzl (by simp; omega)).trans HZ.out
      have HG4 : Hid (w.grownBy w4 (some R)) := gb_trans HG.out hg4
      clear hW hR4 hor hg4
      have z0 := HZ4.out.cell 0 (by omega)
      have z1 := HZ4.out.cell 1 (by omega)
      have z2 := HZ4.out.cell 2 (by omega)
      have z3 := HZ4.out.cell 3 (by omega)
      have z4 := HZ4.out.cell 4 (by omega)
      have f0 := HZ4.out.fz
      go_wp2
      refine bp_gen (fun w5 => Hid (Blk w5 w.heap.size (.int .i64 3) (.int .i64 0) (.string ⟨#[]⟩) (.slice none 0 0) (.slice none 0 0)) ∧ Hid (RdA w5 R s k4 e4 (c + 1)) ∧ Hid (w.grownBy w5 (some R)) ∧ Hid (w4.grownBy w5 (some w.heap.size))) ⟨HZ4.out.store _ _ _ _ _, ((((HR4.out.other (by omega) _).other (by omega) _).other (by omega) _).other (by omega) _).other (by omega) _, gb_new (gb_new (gb_new (gb_new (gb_new HG4.out (Nat.le_refl _) _) (Nat.le_refl _) _) (Nat.le_refl _) _) (Nat.le_refl _) _) (Nat.le_refl _) _, gb_set (gb_set (gb_set (gb_set (gb_set (gb_refl _ _) _) _) _) _) _⟩ ?_
      intro w5 ⟨HZ5, HR5, HG5, HG45⟩
      have y0 := HZ5.out.cell 0 (by omega)
      have y1 := HZ5.out.cell 1 (by omega)
      have y2 := HZ5.out.cell 2 (by omega)
      have y3 := HZ5.out.cell 3 (by omega)
      have y4 := HZ5.out.cell 4 (by omega)
      (try simp only [Exit.inBlock, Exit.then])
      refine bodyPost_ret (v := .agg #[.int .i64 3, .int .i64 0, .string ⟨#[]⟩, .slice none 0 0, .slice none 0 0]) ?_ rfl ?_
      · simp [results, Tryz.results17, go_sem, y0, y1, y2, y3, y4]
        try rfl
      · rcases HOR.out with ⟨hp, rfl, rfl⟩ | ⟨hp, rfl⟩
        · have hr : res = .ok (litN 3) (s.data.toList.drop (k1 + 4)) (c + 1) := by
            rw [← HE.out]
            unfold wordR
            rw [if_pos (show wTrue.isPrefixOf (s.data.toList.drop k1) = true from hp), List.drop_drop]
            rfl
          have hle : k1 + 4 ≤ s.size := by
            have h1 := (List.isPrefixOf_iff_prefix.1 (show wTrue.isPrefixOf (s.data.toList.drop k1) = true from hp)).length_le
            rw [List.length_drop, size_list] at h1
            have h2 : wTrue.length = 4 := rfl
            omega
          rw [hr]
          exact ⟨_, rfl, nis_leaf _ g w5 3 0 [], HG5.out, _, HR5.out, hle, rfl⟩
        · have hr : res = .bad 1 := by
            rw [← HE.out]
            unfold wordR
            rw [if_neg (by rw [show wTrue.isPrefixOf (s.data.toList.drop k1) = false from hp]; simp)]
          rw [hr]
          exact ⟨_, rfl, nd_lit 3 0 [] none 0 0 none 0 0, HG5.out, by omega, _, _, HR5.out⟩
    by_cases hm34 : m = 34
    · subst hm34
      obtain ⟨x, t, hxt, hx⟩ : ∃ y u, skipB (s.data.toList.drop k) = y :: u ∧ y.toNat = 34 := by
        have hm := HM.out
        cases hz : skipB (s.data.toList.drop k) with
        | nil => rw [hz] at hm; simp [headB] at hm
        | cons y u => rw [hz] at hm; exact ⟨y, u, rfl, hm⟩
      have hc2 : c < 20000 := by
        rcases Nat.lt_or_ge c 20000 with h1 | h1
        · exact h1
        · exact absurd ⟨h1, by rw [hxt]; simp⟩ HCC.out
      have hlt : k1 < s.size := by
        rcases Nat.lt_or_ge k1 s.size with h1 | h1
        · exact h1
        · have := HL1.out.symm.trans (List.drop_eq_nil_of_le (by rw [size_list]; exact h1)); rw [hxt] at this; cases this
      have hRES := HRS.out
      rw [if_neg HCC.out, hxt] at hRES
      simp only [] at hRES
      rw [if_neg (by omega : ¬ x.toNat = 110)] at hRES
      rw [if_neg (by omega : ¬ x.toNat = 102)] at hRES
      rw [if_neg (by omega : ¬ x.toNat = 116)] at hRES
      rw [if_pos hx] at hRES
      have hsk : skipB (s.data.toList.drop k1) = s.data.toList.drop k1 := by rw [HL1.out, skipB_idem]
      have HE : Hid (strR (s.data.toList.drop k1) (c + 1) = res) := by show _ = _; rw [HL1.out, hxt]; exact hRES
      clear hRES hxt hx
      cases hT : takeL (s.data.toList.drop k1) with
      | some p =>
        obtain ⟨q, n⟩ := p
        have hX := text_yes R s k1 (c + 1) wc HRc.out hs hk1 (x := q) (n := n) (by rw [hsk]; exact hT)
        rw [hsk] at hX
        have hr : res = .ok (.mk 5 0 q [] []) ((s.data.toList.drop k1).drop n) (c + 1) := by
          rw [← HE.out]
          unfold strR
          rw [hT]
        have HRR := Lib.hid hr
        obtain ⟨Q, hQ⟩ : ∃ Q : ByteArray, (⟨q.toArray⟩ : ByteArray) = Q := ⟨_, rfl⟩
        rw [hQ] at hX
        have HQ := Lib.hid hQ
        clear hr hsk hT hQ
        go_wp2_with fail
        refine hX.mono ?_
        rintro y w4 ⟨rfl, hg4, k4, hR4, hk4, hd4⟩
        have HR4 := Lib.hid hR4
        have HD4 := Lib.hid hd4
        have HZ4 : Hid (zeroBlk w4 w.heap.size) := (hg4.block _ hzl (by simp; omega)).trans HZ.out
        have HG4 : Hid (w.grownBy w4 (some R)) := gb_trans HG.out hg4
        clear hX hR4 hg4 hd4
        have z0 := HZ4.out.cell 0 (by omega)
        have z1 := HZ4.out.cell 1 (by omega)
        have z2 := HZ4.out.cell 2 (by omega)
        have z3 := HZ4.out.cell 3 (by omega)
        have z4 := HZ4.out.cell 4 (by omega)
        have f0 := HZ4.out.fz
        go_wp2
        refine bp_gen (fun w5 => Hid (Blk w5 w.heap.size (.int .i64 5) (.int .i64 0) (.string Q) (.slice none 0 0) (.slice none 0 0)) ∧ Hid (RdA w5 R s k4 0 (c + 1)) ∧ Hid (w.grownBy w5 (some R)) ∧ Hid (w4.grownBy w5 (some w.heap.size))) ⟨HZ4.out.store _ _ _ _ _, ((((HR4.out.other (by omega) _).other (by omega) _).other (by omega) _).other (by omega) _).other (by omega) _, gb_new (gb_new (gb_new (gb_new (gb_new HG4.out (Nat.le_refl _) _) (Nat.le_refl _) _) (Nat.le_refl _) _) (Nat.le_refl _) _) (Nat.le_refl _) _, gb_set (gb_set (gb_set (gb_set (gb_set (gb_refl _ _) _) _) _) _) _⟩ ?_
        intro w5 ⟨HZ5, HR5, HG5, HG45⟩
        have y0 := HZ5.out.cell 0 (by omega)
        have y1 := HZ5.out.cell 1 (by omega)
        have y2 := HZ5.out.cell 2 (by omega)
        have y3 := HZ5.out.cell 3 (by omega)
        have y4 := HZ5.out.cell 4 (by omega)
        (try simp only [Exit.inBlock, Exit.then])
        refine bodyPost_ret (v := .agg #[.int .i64 5, .int .i64 0, .string Q, .slice none 0 0, .slice none 0 0]) ?_ rfl ?_
        · simp [results, Tryz.results17, go_sem, y0, y1, y2, y3, y4]
          try rfl
        · rw [HRR.out]
          exact ⟨_, rfl, HQ.out ▸ nis_leaf _ g w5 5 0 q, HG5.out, _, HR5.out, hk4, HD4.out⟩
      | none =>
        have hX := text_no R s k1 (c + 1) wc HRc.out hs hk1 (by rw [hsk]; exact hT)
        have hr : res = .bad 1 := by
          rw [← HE.out]
          unfold strR
          rw [hT]
        have HRR := Lib.hid hr
        clear hr hsk hT
        go_wp2_with fail
        refine hX.mono ?_
        rintro y w4 ⟨rfl, hg4, k4, hR4⟩
        have HR4 := Lib.hid hR4
        have HZ4 : Hid (zeroBlk w4 w.heap.size) := (hg4.block _ hzl (by simp; omega)).trans HZ.out
        have HG4 : Hid (w.grownBy w4 (some R)) := gb_trans HG.out hg4
        clear hX hR4 hg4
        have z0 := HZ4.out.cell 0 (by omega)
        have z1 := HZ4.out.cell 1 (by omega)
        have z2 := HZ4.out.cell 2 (by omega)
        have z3 := HZ4.out.cell 3 (by omega)
        have z4 := HZ4.out.cell 4 (by omega)
        have f0 := HZ4.out.fz
        go_wp2
        refine bp_gen (fun w5 => Hid (Blk w5 w.heap.size (.int .i64 5) (.int .i64 0) (.string ⟨#[]⟩) (.slice none 0 0) (.slice none 0 0)) ∧ Hid (RdA w5 R s k4 1 (c + 1)) ∧ Hid (w.grownBy w5 (some R)) ∧ Hid (w4.grownBy w5 (some w.heap.size))) ⟨HZ4.out.store _ _ _ _ _, ((((HR4.out.other (by omega) _).other (by omega) _).other (by omega) _).other (by omega) _).other (by omega) _, gb_new (gb_new (gb_new (gb_new (gb_new HG4.out (Nat.le_refl _) _) (Nat.le_refl _) _) (Nat.le_refl _) _) (Nat.le_refl _) _) (Nat.le_refl _) _, gb_set (gb_set (gb_set (gb_set (gb_set (gb_refl _ _) _) _) _) _) _⟩ ?_
        intro w5 ⟨HZ5, HR5, HG5, HG45⟩
        have y0 := HZ5.out.cell 0 (by omega)
        have y1 := HZ5.out.cell 1 (by omega)
        have y2 := HZ5.out.cell 2 (by omega)
        have y3 := HZ5.out.cell 3 (by omega)
        have y4 := HZ5.out.cell 4 (by omega)
        (try simp only [Exit.inBlock, Exit.then])
        refine bodyPost_ret (v := .agg #[.int .i64 5, .int .i64 0, .string ⟨#[]⟩, .slice none 0 0, .slice none 0 0]) ?_ rfl ?_
        · simp [results, Tryz.results17, go_sem, y0, y1, y2, y3, y4]
          try rfl
        · rw [HRR.out]
          exact ⟨_, rfl, nd_lit 5 0 [] none 0 0 none 0 0, HG5.out, by omega, _, _, HR5.out⟩
    by_cases hm91 : m = 91
    · subst hm91
      obtain ⟨x, t, hxt, hx⟩ : ∃ y u, skipB (s.data.toList.drop k) = y :: u ∧ y.toNat = 91 := by
        have hm := HM.out
        cases hz : skipB (s.data.toList.drop k) with
        | nil => rw [hz] at hm; simp [headB] at hm
        | cons y u => rw [hz] at hm; exact ⟨y, u, rfl, hm⟩
      have hc2 : c < 20000 := by
        rcases Nat.lt_or_ge c 20000 with h1 | h1
        · exact h1
        · exact absurd ⟨h1, by rw [hxt]; simp⟩ HCC.out
      have hlt : k1 < s.size := by
        rcases Nat.lt_or_ge k1 s.size with h1 | h1
        · exact h1
        · have := HL1.out.symm.trans (List.drop_eq_nil_of_le (by rw [size_list]; exact h1)); rw [hxt] at this; cases this
      have hRES := HRS.out
      rw [if_neg HCC.out, hxt] at hRES
      simp only [] at hRES
      rw [if_neg (by omega : ¬ x.toNat = 110)] at hRES
      rw [if_neg (by omega : ¬ x.toNat = 102)] at hRES
      rw [if_neg (by omega : ¬ x.toNat = 116)] at hRES
      rw [if_neg (by omega : ¬ x.toNat = 34)] at hRES
      rw [if_pos hx] at hRES
      by_cases h32 : 32 ≤ d
      · rw [if_pos h32] at hRES
        have HRR := Lib.hid hRES.symm
        have q32 : decide ((32 : Int) ≤ d) = true := decide_eq_true (by omega)
        have hF := fail_any R s k1 (c + 1) 2 wc HRc.out
        clear hRES hxt hx
        go_wp2_with fail
        refine hF.mono ?_
        rintro y w4 ⟨rfl, hw⟩
        have HZ4 : Hid (zeroBlk w4 w.heap.size) := by show zeroBlk _ _; rw [hw]; exact Blk.other HZ.out (by omega) _
        have HR4 : Hid (RdA w4 R s k1 2 (c + 1)) := by show RdA _ _ _ _ _ _; rw [hw]; exact HRc.out.set2 2
        have HG4 : Hid (w.grownBy w4 (some R)) := by show w.grownBy _ _; rw [hw]; exact gb_set HG.out _
        clear hw hF
        have z0 := HZ4.out.cell 0 (by omega)
        have z1 := HZ4.out.cell 1 (by omega)
        have z2 := HZ4.out.cell 2 (by omega)
        have z3 := HZ4.out.cell 3 (by omega)
        have z4 := HZ4.out.cell 4 (by omega)
        have f0 := HZ4.out.fz
        go_wp2
        refine bp_gen (fun w5 => Hid (Blk w5 w.heap.size (.int .i64 0) (.int .i64 0) (.string ⟨#[]⟩) (.slice none 0 0) (.slice none 0 0)) ∧ Hid (RdA w5 R s k1 2 (c + 1)) ∧ Hid (w.grownBy w5 (some R)) ∧ Hid (w4.grownBy w5 (some w.heap.size))) ⟨HZ4.out.store _ _ _ _ _, ((((HR4.out.other (by omega) _).other (by omega) _).other (by omega) _).other (by omega) _).other (by omega) _, gb_new (gb_new (gb_new (gb_new (gb_new HG4.out (Nat.le_refl _) _) (Nat.le_refl _) _) (Nat.le_refl _) _) (Nat.le_refl _) _) (Nat.le_refl _) _, gb_set (gb_set (gb_set (gb_set (gb_set (gb_refl _ _) _) _) _) _) _⟩ ?_
        intro w5 ⟨HZ5, HR5, HG5, HG45⟩
        have y0 := HZ5.out.cell 0 (by omega)
        have y1 := HZ5.out.cell 1 (by omega)
        have y2 := HZ5.out.cell 2 (by omega)
        have y3 := HZ5.out.cell 3 (by omega)
        have y4 := HZ5.out.cell 4 (by omega)
        (try simp only [Exit.inBlock, Exit.then])
        refine bodyPost_ret (v := .agg #[.int .i64 0, .int .i64 0, .string ⟨#[]⟩, .slice none 0 0, .slice none 0 0]) ?_ rfl ?_
        · simp [results, Tryz.results17, go_sem, y0, y1, y2, y3, y4]
          try rfl
        · rw [HRR.out]
          exact ⟨_, rfl, nd_lit 0 0 [] none 0 0 none 0 0, HG5.out, by omega, _, _, HR5.out⟩
      · rw [if_neg h32] at hRES
        have q32 : decide ((32 : Int) ≤ d) = false := decide_eq_false (by omega)
        obtain ⟨_, hu⟩ := drop_cons (HL1.out.trans hxt)
        have HRR : Hid (arrR g d (c + 1) (s.data.toList.drop (k1 + 1)) = res) := by
          show _ = _
          rw [← hu, ← hRES]
          rfl
        have c1 := HRc.out.c1
        have f1 := HRc.out.fz 1 (by omega)
        have hs1 := HRc.out.set1 (k1 + 1)
        have hk1c : ((k1 + 1 : Nat) : Int) = (k1 : Int) + 1 := by omega
        rw [hk1c] at hs1
        have HS1 := Lib.hid hs1
        clear hRES hxt hx hu hs1 hk1c
        go_upto_region 23 with fail
        refine wp_gen (fun w3 => Hid (zeroBlk w3 w.heap.size) ∧ Hid (RdA w3 R s (k1 + 1) 0 (c + 1)) ∧ Hid (w.grownBy w3 (some R)) ∧ w.heap.size < w3.heap.size) ⟨HZ.out.other (by omega) _, HS1.out, gb_set HG.out _, by rw [setc_size']; exact hzl⟩ ?_
        rintro w3 ⟨HZ3, HR3, HG3, hz3⟩
        have hC := HIA.out (k1 + 1) w3 HR3.out (by omega) (by omega) (by omega) hc2
        rw [HRR.out] at hC
        clear c1 f1 HS1
        cases res with
        | bad e0 =>
          go_wp2_with fail
          refine hC.mono ?_
          rintro y w4 ⟨v4, rfl, ⟨kk, nn, tt, A1, l1, m1, A2, l2, m2, rfl⟩, hg4, he0, k4, c4, hR4⟩
          have HR4 := Lib.hid hR4
          have HZ4 : Hid (zeroBlk w4 w.heap.size) := (hg4.block _ hz3 (by simp; omega)).trans HZ3.out
          have HG4 : Hid (w.grownBy w4 (some R)) := gb_trans HG3.out hg4
          clear hC hR4 hg4
          have z0 := HZ4.out.cell 0 (by omega)
          have z1 := HZ4.out.cell 1 (by omega)
          have z2 := HZ4.out.cell 2 (by omega)
          have z3 := HZ4.out.cell 3 (by omega)
          have z4 := HZ4.out.cell 4 (by omega)
          have f0 := HZ4.out.fz
          go_wp2
          refine bp_gen (fun w5 => Hid (Blk w5 w.heap.size (.int .i64 kk) (.int .i64 nn) (.string ⟨tt.toArray⟩) (.slice A1 l1 m1) (.slice A2 l2 m2)) ∧ Hid (RdA w5 R s k4 e0 c4) ∧ Hid (w.grownBy w5 (some R)) ∧ Hid (w4.grownBy w5 (some w.heap.size))) ⟨HZ4.out.store _ _ _ _ _, ((((HR4.out.other (by omega) _).other (by omega) _).other (by omega) _).other (by omega) _).other (by omega) _, gb_new (gb_new (gb_new (gb_new (gb_new HG4.out (Nat.le_refl _) _) (Nat.le_refl _) _) (Nat.le_refl _) _) (Nat.le_refl _) _) (Nat.le_refl _) _, gb_set (gb_set (gb_set (gb_set (gb_set (gb_refl _ _) _) _) _) _) _⟩ ?_
          intro w5 ⟨HZ5, HR5, HG5, HG45⟩
          have y0 := HZ5.out.cell 0 (by omega)
          have y1 := HZ5.out.cell 1 (by omega)
          have y2 := HZ5.out.cell 2 (by omega)
          have y3 := HZ5.out.cell 3 (by omega)
          have y4 := HZ5.out.cell 4 (by omega)
          (try simp only [Exit.inBlock, Exit.then])
          refine bodyPost_ret (v := .agg #[.int .i64 kk, .int .i64 nn, .string ⟨tt.toArray⟩, .slice A1 l1 m1, .slice A2 l2 m2]) ?_ rfl ?_
          · simp [results, Tryz.results17, go_sem, y0, y1, y2, y3, y4]
            try rfl
          · exact ⟨_, rfl, nd_lit _ _ _ _ _ _ _ _ _, HG5.out, he0, _, _, HR5.out⟩
        | ok t0 rest0 c9 =>
          go_wp2_with fail
          refine hC.mono ?_
          rintro y w4 ⟨v4, rfl, hN4, hg4, k4, hR4, hk4, hd4⟩
          obtain ⟨kk, nn, tt, A1, l1, m1, A2, l2, m2, rfl⟩ := hN4.nd
          have HR4 := Lib.hid hR4
          have HN4 := Lib.hid hN4
          have HD4 := Lib.hid hd4
          have HZ4 : Hid (zeroBlk w4 w.heap.size) := (hg4.block _ hz3 (by simp; omega)).trans HZ3.out
          have HG4 : Hid (w.grownBy w4 (some R)) := gb_trans HG3.out hg4
          clear hC hR4 hg4 hN4 hd4
          have z0 := HZ4.out.cell 0 (by omega)
          have z1 := HZ4.out.cell 1 (by omega)
          have z2 := HZ4.out.cell 2 (by omega)
          have z3 := HZ4.out.cell 3 (by omega)
          have z4 := HZ4.out.cell 4 (by omega)
          have f0 := HZ4.out.fz
          go_wp2
          refine bp_gen (fun w5 => Hid (Blk w5 w.heap.size (.int .i64 kk) (.int .i64 nn) (.string ⟨tt.toArray⟩) (.slice A1 l1 m1) (.slice A2 l2 m2)) ∧ Hid (RdA w5 R s k4 0 c9) ∧ Hid (w.grownBy w5 (some R)) ∧ Hid (w4.grownBy w5 (some w.heap.size))) ⟨HZ4.out.store _ _ _ _ _, ((((HR4.out.other (by omega) _).other (by omega) _).other (by omega) _).other (by omega) _).other (by omega) _, gb_new (gb_new (gb_new (gb_new (gb_new HG4.out (Nat.le_refl _) _) (Nat.le_refl _) _) (Nat.le_refl _) _) (Nat.le_refl _) _) (Nat.le_refl _) _, gb_set (gb_set (gb_set (gb_set (gb_set (gb_refl _ _) _) _) _) _) _⟩ ?_
          intro w5 ⟨HZ5, HR5, HG5, HG45⟩
          have y0 := HZ5.out.cell 0 (by omega)
          have y1 := HZ5.out.cell 1 (by omega)
          have y2 := HZ5.out.cell 2 (by omega)
          have y3 := HZ5.out.cell 3 (by omega)
          have y4 := HZ5.out.cell 4 (by omega)
          (try simp only [Exit.inBlock, Exit.then])
          refine bodyPost_ret (v := .agg #[.int .i64 kk, .int .i64 nn, .string ⟨tt.toArray⟩, .slice A1 l1 m1, .slice A2 l2 m2]) ?_ rfl ?_
          · simp [results, Tryz.results17, go_sem, y0, y1, y2, y3, y4]
            try rfl
          · exact ⟨_, rfl, HN4.out.kept HG45.out.size (fun b hb hlt => ⟨by omega, HG45.out.block b hlt (by simp; omega)⟩), HG5.out, _, HR5.out, hk4, HD4.out⟩
    by_cases hm123 : m = 123
    · subst hm123
      obtain ⟨x, t, hxt, hx⟩ : ∃ y u, skipB (s.data.toList.drop k) = y :: u ∧ y.toNat = 123 := by
        have hm := HM.out
        cases hz : skipB (s.data.toList.drop k) with
        | nil => rw [hz] at hm; simp [headB] at hm
        | cons y u => rw [hz] at hm; exact ⟨y, u, rfl, hm⟩
      have hc2 : c < 20000 := by
        rcases Nat.lt_or_ge c 20000 with h1 | h1
        · exact h1
        · exact absurd ⟨h1, by rw [hxt]; simp⟩ HCC.out
      have hlt : k1 < s.size := by
        rcases Nat.lt_or_ge k1 s.size with h1 | h1
        · exact h1
        · have := HL1.out.symm.trans (List.drop_eq_nil_of_le (by rw [size_list]; exact h1)); rw [hxt] at this; cases this
      have hRES := HRS.out
      rw [if_neg HCC.out, hxt] at hRES
      simp only [] at hRES
      rw [if_neg (by omega : ¬ x.toNat = 110)] at hRES
      rw [if_neg (by omega : ¬ x.toNat = 102)] at hRES
      rw [if_neg (by omega : ¬ x.toNat = 116)] at hRES
      rw [if_neg (by omega : ¬ x.toNat = 34)] at hRES
      rw [if_neg (by omega : ¬ x.toNat = 91)] at hRES
      rw [if_pos hx] at hRES
      by_cases h32 : 32 ≤ d
      · rw [if_pos h32] at hRES
        have HRR := Lib.hid hRES.symm
        have q32 : decide ((32 : Int) ≤ d) = true := decide_eq_true (by omega)
        have hF := fail_any R s k1 (c + 1) 2 wc HRc.out
        clear hRES hxt hx
        go_wp2_with fail
        refine hF.mono ?_
        rintro y w4 ⟨rfl, hw⟩
        have HZ4 : Hid (zeroBlk w4 w.heap.size) := by show zeroBlk _ _; rw [hw]; exact Blk.other HZ.out (by omega) _
        have HR4 : Hid (RdA w4 R s k1 2 (c + 1)) := by show RdA _ _ _ _ _ _; rw [hw]; exact HRc.out.set2 2
        have HG4 : Hid (w.grownBy w4 (some R)) := by show w.grownBy _ _; rw [hw]; exact gb_set HG.out _
        clear hw hF
        have z0 := HZ4.out.cell 0 (by omega)
        have z1 := HZ4.out.cell 1 (by omega)
        have z2 := HZ4.out.cell 2 (by omega)
        have z3 := HZ4.out.cell 3 (by omega)
        have z4 := HZ4.out.cell 4 (by omega)
        have f0 := HZ4.out.fz
        go_wp2
        refine bp_gen (fun w5 => Hid (Blk w5 w.heap.size (.int .i64 0) (.int .i64 0) (.string ⟨#[]⟩) (.slice none 0 0) (.slice none 0 0)) ∧ Hid (RdA w5 R s k1 2 (c + 1)) ∧ Hid (w.grownBy w5 (some R)) ∧ Hid (w4.grownBy w5 (some w.heap.size))) ⟨HZ4.out.store _ _ _ _ _, ((((HR4.out.other (by omega) _).other (by omega) _).other (by omega) _).other (by omega) _).other (by omega) _, gb_new (gb_new (gb_new (gb_new (gb_new HG4.out (Nat.le_refl _) _) (Nat.le_refl _) _) (Nat.le_refl _) _) (Nat.le_refl _) _) (Nat.le_refl _) _, gb_set (gb_set (gb_set (gb_set (gb_set (gb_refl _ _) _) _) _) _) _⟩ ?_
        intro w5 ⟨HZ5, HR5, HG5, HG45⟩
        have y0 := HZ5.out.cell 0 (by omega)
        have y1 := HZ5.out.cell 1 (by omega)
        have y2 := HZ5.out.cell 2 (by omega)
        have y3 := HZ5.out.cell 3 (by omega)
        have y4 := HZ5.out.cell 4 (by omega)
        (try simp only [Exit.inBlock, Exit.then])
        refine bodyPost_ret (v := .agg #[.int .i64 0, .int .i64 0, .string ⟨#[]⟩, .slice none 0 0, .slice none 0 0]) ?_ rfl ?_
        · simp [results, Tryz.results17, go_sem, y0, y1, y2, y3, y4]
          try rfl
        · rw [HRR.out]
          exact ⟨_, rfl, nd_lit 0 0 [] none 0 0 none 0 0, HG5.out, by omega, _, _, HR5.out⟩
      · rw [if_neg h32] at hRES
        have q32 : decide ((32 : Int) ≤ d) = false := decide_eq_false (by omega)
        obtain ⟨_, hu⟩ := drop_cons (HL1.out.trans hxt)
        have HRR : Hid (objR g d (c + 1) (s.data.toList.drop (k1 + 1)) = res) := by
          show _ = _
          rw [← hu, ← hRES]
          rfl
        have c1 := HRc.out.c1
        have f1 := HRc.out.fz 1 (by omega)
        have hs1 := HRc.out.set1 (k1 + 1)
        have hk1c : ((k1 + 1 : Nat) : Int) = (k1 : Int) + 1 := by omega
        rw [hk1c] at hs1
        have HS1 := Lib.hid hs1
        clear hRES hxt hx hu hs1 hk1c
        go_upto_region 23 with fail
        refine wp_gen (fun w3 => Hid (zeroBlk w3 w.heap.size) ∧ Hid (RdA w3 R s (k1 + 1) 0 (c + 1)) ∧ Hid (w.grownBy w3 (some R)) ∧ w.heap.size < w3.heap.size) ⟨HZ.out.other (by omega) _, HS1.out, gb_set HG.out _, by rw [setc_size']; exact hzl⟩ ?_
        rintro w3 ⟨HZ3, HR3, HG3, hz3⟩
        have hC := HIO.out (k1 + 1) w3 HR3.out (by omega) (by omega) (by omega) hc2
        rw [HRR.out] at hC
        clear c1 f1 HS1
        cases res with
        | bad e0 =>
          go_wp2_with fail
          refine hC.mono ?_
          rintro y w4 ⟨v4, rfl, ⟨kk, nn, tt, A1, l1, m1, A2, l2, m2, rfl⟩, hg4, he0, k4, c4, hR4⟩
          have HR4 := Lib.hid hR4
          have HZ4 : Hid (zeroBlk w4 w.heap.size) := (hg4.block _ hz3 (by simp; omega)).trans HZ3.out
          have HG4 : Hid (w.grownBy w4 (some R)) := gb_trans HG3.out hg4
          clear hC hR4 hg4
          have z0 := HZ4.out.cell 0 (by omega)
          have z1 := HZ4.out.cell 1 (by omega)
          have z2 := HZ4.out.cell 2 (by omega)
          have z3 := HZ4.out.cell 3 (by omega)
          have z4 := HZ4.out.cell 4 (by omega)
          have f0 := HZ4.out.fz
          go_wp2
          refine bp_gen (fun w5 => Hid (Blk w5 w.heap.size (.int .i64 kk) (.int .i64 nn) (.string ⟨tt.toArray⟩) (.slice A1 l1 m1) (.slice A2 l2 m2)) ∧ Hid (RdA w5 R s k4 e0 c4) ∧ Hid (w.grownBy w5 (some R)) ∧ Hid (w4.grownBy w5 (some w.heap.size))) ⟨HZ4.out.store _ _ _ _ _, ((((HR4.out.other (by omega) _).other (by omega) _).other (by omega) _).other (by omega) _).other (by omega) _, gb_new (gb_new (gb_new (gb_new (gb_new HG4.out (Nat.le_refl _) _) (Nat.le_refl _) _) (Nat.le_refl _) _) (Nat.le_refl _) _) (Nat.le_refl _) _, gb_set (gb_set (gb_set (gb_set (gb_set (gb_refl _ _) _) _) _) _) _⟩ ?_
          intro w5 ⟨HZ5, HR5, HG5, HG45⟩
          have y0 := HZ5.out.cell 0 (by omega)
          have y1 := HZ5.out.cell 1 (by omega)
          have y2 := HZ5.out.cell 2 (by omega)
          have y3 := HZ5.out.cell 3 (by omega)
          have y4 := HZ5.out.cell 4 (by omega)
          (try simp only [Exit.inBlock, Exit.then])
          refine bodyPost_ret (v := .agg #[.int .i64 kk, .int .i64 nn, .string ⟨tt.toArray⟩, .slice A1 l1 m1, .slice A2 l2 m2]) ?_ rfl ?_
          · simp [results, Tryz.results17, go_sem, y0, y1, y2, y3, y4]
            try rfl
          · exact ⟨_, rfl, nd_lit _ _ _ _ _ _ _ _ _, HG5.out, he0, _, _, HR5.out⟩
        | ok t0 rest0 c9 =>
          go_wp2_with fail
          refine hC.mono ?_
          rintro y w4 ⟨v4, rfl, hN4, hg4, k4, hR4, hk4, hd4⟩
          obtain ⟨kk, nn, tt, A1, l1, m1, A2, l2, m2, rfl⟩ := hN4.nd
          have HR4 := Lib.hid hR4
          have HN4 := Lib.hid hN4
          have HD4 := Lib.hid hd4
          have HZ4 : Hid (zeroBlk w4 w.heap.size) := (hg4.block _ hz3 (by simp; omega)).trans HZ3.out
          have HG4 : Hid (w.grownBy w4 (some R)) := gb_trans HG3.out hg4
          clear hC hR4 hg4 hN4 hd4
          have z0 := HZ4.out.cell 0 (by omega)
          have z1 := HZ4.out.cell 1 (by omega)
          have z2 := HZ4.out.cell 2 (by omega)
          have z3 := HZ4.out.cell 3 (by omega)
          have z4 := HZ4.out.cell 4 (by omega)
          have f0 := HZ4.out.fz
          go_wp2
          refine bp_gen (fun w5 => Hid (Blk w5 w.heap.size (.int .i64 kk) (.int .i64 nn) (.string ⟨tt.toArray⟩) (.slice A1 l1 m1) (.slice A2 l2 m2)) ∧ Hid (RdA w5 R s k4 0 c9) ∧ Hid (w.grownBy w5 (some R)) ∧ Hid (w4.grownBy w5 (some w.heap.size))) ⟨HZ4.out.store _ _ _ _ _, ((((HR4.out.other (by omega) _).other (by omega) _).other (by omega) _).other (by omega) _).other (by omega) _, gb_new (gb_new (gb_new (gb_new (gb_new HG4.out (Nat.le_refl _) _) (Nat.le_refl _) _) (Nat.le_refl _) _) (Nat.le_refl _) _) (Nat.le_refl _) _, gb_set (gb_set (gb_set (gb_set (gb_set (gb_refl _ _) _) _) _) _) _⟩ ?_
          intro w5 ⟨HZ5, HR5, HG5, HG45⟩
          have y0 := HZ5.out.cell 0 (by omega)
          have y1 := HZ5.out.cell 1 (by omega)
          have y2 := HZ5.out.cell 2 (by omega)
          have y3 := HZ5.out.cell 3 (by omega)
          have y4 := HZ5.out.cell 4 (by omega)
          (try simp only [Exit.inBlock, Exit.then])
          refine bodyPost_ret (v := .agg #[.int .i64 kk, .int .i64 nn, .string ⟨tt.toArray⟩, .slice A1 l1 m1, .slice A2 l2 m2]) ?_ rfl ?_
          · simp [results, Tryz.results17, go_sem, y0, y1, y2, y3, y4]
            try rfl
          · exact ⟨_, rfl, HN4.out.kept HG45.out.size (fun b hb hlt => ⟨by omega, HG45.out.block b hlt (by simp; omega)⟩), HG5.out, _, HR5.out, hk4, HD4.out⟩
    have q110 : ((m : Int) == 110) = false := by simp; omega
    have q102 : ((m : Int) == 102) = false := by simp; omega
    have q116 : ((m : Int) == 116) = false := by simp; omega
    have q34 : ((m : Int) == 34) = false := by simp; omega
    have q91 : ((m : Int) == 91) = false := by simp; omega
    have q123 : ((m : Int) == 123) = false := by simp; omega
    have HE : Hid (numR (s.data.toList.drop k1) (c + 1) = res) := by
      show _ = _
      have hRES := HRS.out
      rw [if_neg HCC.out] at hRES
      rw [HL1.out]
      have hm := HM.out
      cases hz : skipB (s.data.toList.drop k) with
      | nil =>
        rw [hz] at hRES
        rw [← hRES]
        rfl
      | cons x t =>
        rw [hz] at hRES hm
        simp only [headB] at hm
        simp only [] at hRES
        rw [if_neg (by omega : ¬ x.toNat = 110)] at hRES
        rw [if_neg (by omega : ¬ x.toNat = 102)] at hRES
        rw [if_neg (by omega : ¬ x.toNat = 116)] at hRES
        rw [if_neg (by omega : ¬ x.toNat = 34)] at hRES
        rw [if_neg (by omega : ¬ x.toNat = 91)] at hRES
        rw [if_neg (by omega : ¬ x.toNat = 123)] at hRES
        exact hRES
    rcases hR : I2.takeR (s.data.toList.drop k1) with ⟨v, z, o⟩
    have hT := fun W => I2.rtake_any s (k1 : Int) W hs (v := v) (z := z) (o := o) (by rw [I2.restL_in]; exact hR)
    have ho := I2.takeR_errs hR
    have c0 := HRc.out.c0
    have c1 := HRc.out.c1
    have hzk : o = none → k1 + z ≤ s.size ∧ res = .ok (.mk 4 v [] [] []) (s.data.toList.drop (k1 + z)) (c + 1) := by
      rintro rfl
      have h1 := HE.out
      unfold numR at h1
      rw [hR] at h1
      simp only [List.drop_drop] at h1
      refine ⟨?_, h1.symm⟩
      have h2 := numR_ok (l := s.data.toList.drop k1) (c := c + 1) (r := s.data.toList.drop (k1 + z)) (c' := c + 1) (v := .mk 4 v [] [] []) (by unfold numR; rw [hR]; simp only [List.drop_drop])
      have h3 := I2.takeR_len hR
      rw [List.length_drop, size_list] at h3
      omega
    have hbad : ∀ e, o = some e → z = 0 ∧ v = 0 ∧ res = .bad (e + 1) := by
      rintro e rfl
      have h1 := HE.out
      unfold numR at h1
      rw [hR] at h1
      refine ⟨?_, ?_, h1.symm⟩
      · unfold I2.takeR at hR; split at hR <;> (try split at hR) <;> simp_all
      · unfold I2.takeR at hR; split at hR <;> (try split at hR) <;> simp_all
    have HZK := Lib.hid hzk
    have HBD := Lib.hid hbad
    clear hR hzk hbad
    obtain ⟨E, hE⟩ : ∃ E, I2.numOf o = E := ⟨_, rfl⟩
    rw [hE] at hT
    have HEE := Lib.hid hE
    clear hE
    go_upto_region 26 with fail
    go_cut [6, 7, 8] (fun a b e wx => a = .int .i64 v ∧ b = .int .i64 z ∧ e = .int .i64 E ∧ Hid (zeroBlk wx w.heap.size) ∧ Hid (RdA wx R s k1 0 (c + 1)) ∧ Hid (w.grownBy wx (some R)))
    case first =>
      clear HZK HBD HCC HL1 HE HM HRS HIA HIO HD1 HR ho
      have hS0 : wc.cell? ⟨R, 0, none⟩ = some (.string s) ∧ wc.cell? ⟨R, 1, none⟩ = some (.int .i64 k1) ∧ Hid (zeroBlk wc w.heap.size) ∧ Hid (RdA wc R s k1 0 (c + 1)) ∧ Hid (w.grownBy wc (some R)) := ⟨c0, c1, HZ, HRc, HG⟩
      clear c0 c1 HZ HRc HG
      go_region_held3 (fun w' => w'.cell? ⟨R, 0, none⟩ = some (.string s) ∧ w'.cell? ⟨R, 1, none⟩ = some (.int .i64 k1) ∧ Hid (zeroBlk w' w.heap.size) ∧ Hid (RdA w' R s k1 0 (c + 1)) ∧ Hid (w.grownBy w' (some R))) (first | assumption | exact num_drew (by assumption))
        (first | (go_at_call 40; refine (hT _).mono ?_; rintro e wx ⟨rfl, hwx⟩; subst hwx))
      all_goals
        go_wp2_with fail
        go_meet
        rename_i hheld
        exact ⟨rfl, rfl, rfl, hheld.2.2⟩
    case rest =>
    obtain ⟨rfl, rfl, rfl, HZ9, HR9, HG9⟩ := hcut
    clear c0 c1 hT HZ HRc HG hsz hzl
    have c1 := HR9.out.c1
    cases o with
    | none =>
      obtain ⟨hkz, hr⟩ := HZK.out rfl
      have HRR := Lib.hid hr
      have hwz : IntKind.i64.wrap ((k1 : Int) + z) = (k1 : Int) + z := by rw [IntKind.wrap_i64]; omega
      have f1 := HR9.out.fz 1 (by omega)
      have hs1 := HR9.out.set1 (k1 + z)
      have hk1c : ((k1 + z : Nat) : Int) = (k1 : Int) + z := by omega
      rw [hk1c] at hs1
      have HS1 := Lib.hid hs1
      obtain rfl : E = 0 := HEE.out.symm
      clear hr ho hs1 hk1c HEE
      go_upto_region 30 with fail
      refine wp_gen (fun w4 => Hid (zeroBlk w4 w.heap.size) ∧ Hid (RdA w4 R s (k1 + z) 0 (c + 1)) ∧ Hid (w.grownBy w4 (some R))) ⟨HZ9.out.other (by omega) _, HS1.out, gb_set HG9.out _⟩ ?_
      rintro w4 ⟨HZ4, HR4, HG4⟩
      clear c1 f1 HS1
      have z0 := HZ4.out.cell 0 (by omega)
      have z1 := HZ4.out.cell 1 (by omega)
      have z2 := HZ4.out.cell 2 (by omega)
      have z3 := HZ4.out.cell 3 (by omega)
      have z4 := HZ4.out.cell 4 (by omega)
      have f0 := HZ4.out.fz
      go_wp2
      refine bp_gen (fun w5 => Hid (Blk w5 w.heap.size (.int .i64 4) (.int .i64 v) (.string ⟨#[]⟩) (.slice none 0 0) (.slice none 0 0)) ∧ Hid (RdA w5 R s (k1 + z) 0 (c + 1)) ∧ Hid (w.grownBy w5 (some R)) ∧ Hid (w4.grownBy w5 (some w.heap.size))) ⟨HZ4.out.store _ _ _ _ _, ((((HR4.out.other (by omega) _).other (by omega) _).other (by omega) _).other (by omega) _).other (by omega) _, gb_new (gb_new (gb_new (gb_new (gb_new HG4.out (Nat.le_refl _) _) (Nat.le_refl _) _) (Nat.le_refl _) _) (Nat.le_refl _) _) (Nat.le_refl _) _, gb_set (gb_set (gb_set (gb_set (gb_set (gb_refl _ _) _) _) _) _) _⟩ ?_
      intro w5 ⟨HZ5, HR5, HG5, HG45⟩
      have y0 := HZ5.out.cell 0 (by omega)
      have y1 := HZ5.out.cell 1 (by omega)
      have y2 := HZ5.out.cell 2 (by omega)
      have y3 := HZ5.out.cell 3 (by omega)
      have y4 := HZ5.out.cell 4 (by omega)
      (try simp only [Exit.inBlock, Exit.then])
      refine bodyPost_ret (v := .agg #[.int .i64 4, .int .i64 v, .string ⟨#[]⟩, .slice none 0 0, .slice none 0 0]) ?_ rfl ?_
      · simp [results, Tryz.results17, go_sem, y0, y1, y2, y3, y4]
        try rfl
      · rw [HRR.out]
        exact ⟨_, rfl, nis_leaf _ g w5 4 v [], HG5.out, _, HR5.out, hkz, rfl⟩
    | some e0 =>
      obtain ⟨rfl, rfl, hr⟩ := HBD.out e0 rfl
      have HRR := Lib.hid hr
      have hF := fail_any R s k1 (c + 1) (e0 + 1) _ HR9.out
      have qe : ((e0 : Int) + 1 != 0) = true := by simp; omega
      have hen : ((e0 + 1 : Nat) : Int) = (e0 : Int) + 1 := by omega
      rw [hen] at hF
      obtain rfl : E = (e0 : Int) + 1 := HEE.out.symm
      clear hr HZK HBD ho c1 HEE
      go_upto_region 28 with fail
      go_wp2_with fail
      refine hF.mono ?_
      rintro y w6 ⟨rfl, hw⟩
      have HZ6 : Hid (zeroBlk w6 w.heap.size) := by show zeroBlk _ _; rw [hw]; exact HZ9.out.other (by omega) _
      have HR6 : Hid (RdA w6 R s k1 (e0 + 1) (c + 1)) := by show RdA _ _ _ _ _ _; rw [hw, ← hen]; exact HR9.out.set2 (e0 + 1)
      have HG6 : Hid (w.grownBy w6 (some R)) := by show w.grownBy _ _; rw [hw]; exact gb_set HG9.out _
      clear hw hF
      have c1 := HR6.out.c1
      have f1 := HR6.out.fz 1 (by omega)
      have HS1 := Lib.hid (HR6.out.set1 k1)
      go_upto_region 30 with fail
      refine wp_gen (fun w4 => Hid (zeroBlk w4 w.heap.size) ∧ Hid (RdA w4 R s k1 (e0 + 1) (c + 1)) ∧ Hid (w.grownBy w4 (some R))) ⟨HZ6.out.other (by omega) _, HS1.out, gb_set HG6.out _⟩ ?_
      rintro w4 ⟨HZ4, HR4, HG4⟩
      clear c1 f1 HS1
      have z0 := HZ4.out.cell 0 (by omega)
      have z1 := HZ4.out.cell 1 (by omega)
      have z2 := HZ4.out.cell 2 (by omega)
      have z3 := HZ4.out.cell 3 (by omega)
      have z4 := HZ4.out.cell 4 (by omega)
      have f0 := HZ4.out.fz
      go_wp2
      refine bp_gen (fun w5 => Hid (Blk w5 w.heap.size (.int .i64 4) (.int .i64 0) (.string ⟨#[]⟩) (.slice none 0 0) (.slice none 0 0)) ∧ Hid (RdA w5 R s k1 (e0 + 1) (c + 1)) ∧ Hid (w.grownBy w5 (some R)) ∧ Hid (w4.grownBy w5 (some w.heap.size))) ⟨HZ4.out.store _ _ _ _ _, ((((HR4.out.other (by omega) _).other (by omega) _).other (by omega) _).other (by omega) _).other (by omega) _, gb_new (gb_new (gb_new (gb_new (gb_new HG4.out (Nat.le_refl _) _) (Nat.le_refl _) _) (Nat.le_refl _) _) (Nat.le_refl _) _) (Nat.le_refl _) _, gb_set (gb_set (gb_set (gb_set (gb_set (gb_refl _ _) _) _) _) _) _⟩ ?_
      intro w5 ⟨HZ5, HR5, HG5, HG45⟩
      have y0 := HZ5.out.cell 0 (by omega)
      have y1 := HZ5.out.cell 1 (by omega)
      have y2 := HZ5.out.cell 2 (by omega)
      have y3 := HZ5.out.cell 3 (by omega)
      have y4 := HZ5.out.cell 4 (by omega)
      (try simp only [Exit.inBlock, Exit.then])
      refine bodyPost_ret (v := .agg #[.int .i64 4, .int .i64 0, .string ⟨#[]⟩, .slice none 0 0, .slice none 0 0]) ?_ rfl ?_
      · simp [results, Tryz.results17, go_sem, y0, y1, y2, y3, y4]
        try rfl
      · rw [HRR.out]
        exact ⟨_, rfl, nd_lit 4 0 [] none 0 0 none 0 0, HG5.out, by omega, _, _, HR5.out⟩

end Go.Proofs.YtlaagdpanbineaaGreatDoor

