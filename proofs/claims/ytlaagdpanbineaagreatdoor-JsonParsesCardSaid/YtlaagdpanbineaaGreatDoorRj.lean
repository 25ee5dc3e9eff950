/- The document's reader of JSON: next, fail, must. -/
import Derived.Test.YtlaagdpanbineaaGreatDoorJa
import Derived.Test.YtlaagdpanbineaaGreatDoorQrt
import Derived.WalkSpells
import Derived.WalkLawsBesides
import Derived.Deep.QuietTactic
import Derived.BigQuiet
import Derived.Lib.Hide
import Derived.Deep.RegionWith
import Derived.Handy
import Derived.Deep.DeepCutAuto
import Derived.Lib.Strings
import Derived.Deep.AppendLies
namespace Go.Proofs.YtlaagdpanbineaaGreatDoor
open Go.RowKit

/-- the reader's four cells -/
def RdA (w : World) (R : Nat) (s : ByteArray) (k e c : Nat) : Prop := w.heap[R]? = some (.cells #[.string s, .int .i64 k, .int .i64 e, .int .i64 c] 48 (0, 0))
theorem RdA.c0 {w : World} {R : Nat} {s : ByteArray} {k e c : Nat} (h : RdA w R s k e c) : w.cell? ⟨R, 0, none⟩ = some (.string s) := by simp only [World.cell?]; rw [h]; rfl
theorem RdA.c1 {w : World} {R : Nat} {s : ByteArray} {k e c : Nat} (h : RdA w R s k e c) : w.cell? ⟨R, 1, none⟩ = some (.int .i64 k) := by simp only [World.cell?]; rw [h]; rfl
theorem RdA.c2 {w : World} {R : Nat} {s : ByteArray} {k e c : Nat} (h : RdA w R s k e c) : w.cell? ⟨R, 2, none⟩ = some (.int .i64 e) := by simp only [World.cell?]; rw [h]; rfl
theorem RdA.c3 {w : World} {R : Nat} {s : ByteArray} {k e c : Nat} (h : RdA w R s k e c) : w.cell? ⟨R, 3, none⟩ = some (.int .i64 c) := by simp only [World.cell?]; rw [h]; rfl
theorem RdA.fz {w : World} {R : Nat} {s : ByteArray} {k e c : Nat} (h : RdA w R s k e c) (j : Nat) (_hj : j < 4) : w.frozen? ⟨R, j, none⟩ = false := by
  simp only [World.frozen?]
  rw [h]
  simp
theorem RdA.lt {w : World} {R : Nat} {s : ByteArray} {k e c : Nat} (h : RdA w R s k e c) : R < w.heap.size := (Array.getElem?_eq_some_iff.1 h).1
theorem RdA.set1 {w : World} {R : Nat} {s : ByteArray} {k e c : Nat} (h : RdA w R s k e c) (k' : Nat) : RdA (w.setCell ⟨R, 1, none⟩ (.int .i64 k')) R s k' e c := by
  unfold RdA at h ⊢
  simp [World.setCell, Array.getElem?_modify, h]
theorem RdA.set2 {w : World} {R : Nat} {s : ByteArray} {k e c : Nat} (h : RdA w R s k e c) (e' : Nat) : RdA (w.setCell ⟨R, 2, none⟩ (.int .i64 e')) R s k e' c := by
  unfold RdA at h ⊢
  simp [World.setCell, Array.getElem?_modify, h]
theorem RdA.set3 {w : World} {R : Nat} {s : ByteArray} {k e c : Nat} (h : RdA w R s k e c) (c' : Nat) : RdA (w.setCell ⟨R, 3, none⟩ (.int .i64 c')) R s k e c' := by
  unfold RdA at h ⊢
  simp [World.setCell, Array.getElem?_modify, h]

/-! ### what a call leaves: only the reader's own block turns, new blocks are laid -/
theorem RdA.below {w w' : World} {R : Nat} {s : ByteArray} {k e c : Nat} (h : RdA w R s k e c) (hb : Below w.heap.size w w') : RdA w' R s k e c := (hb.block R h.lt).trans h

/-! ### next -/
def atOf (w : World) (R : Nat) : Nat := match w.cell? ⟨R, 1, none⟩ with
  | some (.int _ n) => n.toNat
  | _ => 0
theorem RdA.at {w : World} {R : Nat} {s : ByteArray} {k e c : Nat} (h : RdA w R s k e c) : atOf w R = k := by unfold atOf; rw [h.c1]; rfl

set_option maxRecDepth 100000 in
set_option maxHeartbeats 1000000 in
theorem next_any (R : Nat) (s : ByteArray) (k e c : Nat) (w : World) (h : RdA w R s k e c) (hs : s.size ≤ 200000) (hk : k ≤ s.size) :
    Calls Tryz.prog 18 #[.pointer (some ⟨R, 0, none⟩)] w fun x w' => ∃ k', x = .returned (.int .u8 (headB (s.data.toList.drop k'))) ∧ RdA w' R s k' e c ∧ k ≤ k' ∧ k' ≤ s.size ∧ s.data.toList.drop k' = skipB (s.data.toList.drop k) ∧ w.grownBy w' (some R) := by
  have H0 := Lib.hid h
  clear h
  go_enter Tryz.func18, Tryz.ntmps18
  go_wp2
  go_loopw [31] (fun _ wr => ∃ k' : Nat, Hid (RdA wr R s k' e c) ∧ k ≤ k' ∧ k' ≤ s.size ∧ Hid (skipB (s.data.toList.drop k') = skipB (s.data.toList.drop k)) ∧ w.grownBy wr (some R)) (fun _ wr => s.size - atOf wr R)
  case atStart => exact ⟨k, H0, Nat.le_refl _, hk, rfl, gb_refl _ _⟩
  case round =>
    obtain ⟨k', HR, hk1, hk2, HS, hg⟩ := hrel
    have c0 := HR.out.c0
    have c1 := HR.out.c1
    have f1 := HR.out.fz 1 (by omega)
    by_cases hlt : k' < s.size
    · have hd := drop_hd hlt
      by_cases hb : isBl s[k']
      · have HS2 : Hid (skipB (s.data.toList.drop (k' + 1)) = skipB (s.data.toList.drop k)) := by
          show _ = _
          rw [← HS.out, hd]
          conv => rhs; unfold skipB
          rw [if_pos hb]
        have HX : Hid (RdA (wr.setCell ⟨R, 1, none⟩ (.int .i64 ((k' + 1 : Nat) : Int))) R s (k' + 1) e c) := HR.out.set1 (k' + 1)
        have hc : ((k' + 1 : Nat) : Int) = (k' : Int) + 1 := by omega
        rw [hc] at HX
        have HM := Lib.hid HR.out.at
        clear hd hc
        rcases hb with hb | hb | hb | hb
        · have t9 : ((s[k'].toNat : Int) == 9) = true := by rw [hb]; rfl
          clear hb
          go_wp2
          go_quiet (fail)
          go_wp2
          go_quiet (fail)
          go_wp2
          go_roundw
          case rel => exact ⟨k' + 1, HX, by omega, by omega, HS2, gb_set (gb_same hg) _⟩
          case measure =>
            rw [HM.out]
            have := HX.out.at
            show s.size - atOf (wr.setCell ⟨R, 1, none⟩ (.int .i64 ((k' : Int) + 1))) R < _
            rw [this]
            omega
        · have t9 : ((s[k'].toNat : Int) == 9) = false := by rw [hb]; rfl
          have t10 : ((s[k'].toNat : Int) == 10) = true := by rw [hb]; rfl
          clear hb
          go_wp2
          go_quiet (fail)
          go_wp2
          go_quiet (fail)
          go_wp2
          go_roundw
          case rel => exact ⟨k' + 1, HX, by omega, by omega, HS2, gb_set (gb_same hg) _⟩
          case measure =>
            rw [HM.out]
            have := HX.out.at
            show s.size - atOf (wr.setCell ⟨R, 1, none⟩ (.int .i64 ((k' : Int) + 1))) R < _
            rw [this]
            omega
        · have t9 : ((s[k'].toNat : Int) == 9) = false := by rw [hb]; rfl
          have t10 : ((s[k'].toNat : Int) == 10) = false := by rw [hb]; rfl
          have t13 : ((s[k'].toNat : Int) == 13) = true := by rw [hb]; rfl
          clear hb
          go_wp2
          go_quiet (fail)
          go_wp2
          go_quiet (fail)
          go_wp2
          go_roundw
          case rel => exact ⟨k' + 1, HX, by omega, by omega, HS2, gb_set (gb_same hg) _⟩
          case measure =>
            rw [HM.out]
            have := HX.out.at
            show s.size - atOf (wr.setCell ⟨R, 1, none⟩ (.int .i64 ((k' : Int) + 1))) R < _
            rw [this]
            omega
        · have t9 : ((s[k'].toNat : Int) == 9) = false := by rw [hb]; rfl
          have t10 : ((s[k'].toNat : Int) == 10) = false := by rw [hb]; rfl
          have t13 : ((s[k'].toNat : Int) == 13) = false := by rw [hb]; rfl
          have t32 : ((s[k'].toNat : Int) == 32) = true := by rw [hb]; rfl
          clear hb
          go_wp2
          go_quiet (fail)
          go_wp2
          go_quiet (fail)
          go_wp2
          go_roundw
          case rel => exact ⟨k' + 1, HX, by omega, by omega, HS2, gb_set (gb_same hg) _⟩
          case measure =>
            rw [HM.out]
            have := HX.out.at
            show s.size - atOf (wr.setCell ⟨R, 1, none⟩ (.int .i64 ((k' : Int) + 1))) R < _
            rw [this]
            omega
      · have hE : Hid (s.data.toList.drop k' = skipB (s.data.toList.drop k)) := by
          show _ = _
          rw [← HS.out, hd]
          conv => rhs; unfold skipB
          rw [if_neg hb]
        have hh : headB (s.data.toList.drop k') = s[k'].toNat := by rw [hd]; rfl
        unfold isBl at hb
        have t9 : ((s[k'].toNat : Int) == 9) = false := by simp; omega
        have t10 : ((s[k'].toNat : Int) == 10) = false := by simp; omega
        have t13 : ((s[k'].toNat : Int) == 13) = false := by simp; omega
        have t32 : ((s[k'].toNat : Int) == 32) = false := by simp; omega
        have HH := Lib.hid hh
        clear hd hb hh
        go_wp2
        go_quiet (fail)
        go_wp2
        go_quiet (fail)
        go_wp2
        go_quiet (fail)
        go_wp2
        go_ret
        exact ⟨k', by rw [HH.out]; rfl, HR.out, hk1, hk2, hE.out, gb_same hg⟩
    · have hE : Hid (s.data.toList.drop k' = skipB (s.data.toList.drop k)) := by
        show _ = _
        rw [← HS.out, drop_nl hlt]
        rfl
      have HH := Lib.hid (drop_nl hlt)
      go_wp2
      go_quiet (fail)
      go_wp2
      go_ret
      exact ⟨k', by rw [HH.out]; rfl, HR.out, hk1, hk2, hE.out, gb_same hg⟩

end Go.Proofs.YtlaagdpanbineaaGreatDoor

/- The document's reader of JSON: fail, must, text, word. -/
namespace Go.Proofs.YtlaagdpanbineaaGreatDoor
open Go.RowKit

set_option maxHeartbeats 400000 in
theorem fail_any (R : Nat) (s : ByteArray) (k c n : Nat) (w : World) (h : RdA w R s k 0 c) :
    Calls Tryz.prog 19 #[.pointer (some ⟨R, 0, none⟩), .int .i64 n] w fun x w' => x = .returned (.tuple #[]) ∧ w' = w.setCell ⟨R, 2, none⟩ (.int .i64 n) := by
  have c2 := h.c2
  have f2 := h.fz 2 (by omega)
  clear h
  go_enter Tryz.func19, Tryz.ntmps19
  go_wp2
  go_end0
  exact ⟨rfl, rfl⟩

/-- what is asked of must -/
def mustR (l : List UInt8) (b : Nat) : Option (List UInt8) := match skipB l with
  | [] => none
  | y :: u => if y.toNat = b then some u else none

/-- next, its answer first -/
theorem next_hd (R : Nat) (s : ByteArray) (k e c : Nat) (w : World) (h : RdA w R s k e c) (hs : s.size ≤ 200000) (hk : k ≤ s.size) {m : Nat} (hm : headB (skipB (s.data.toList.drop k)) = m) :
    Calls Tryz.prog 18 #[.pointer (some ⟨R, 0, none⟩)] w fun x w' => x = .returned (.int .u8 m) ∧ ∃ k', RdA w' R s k' e c ∧ k' ≤ s.size ∧ s.data.toList.drop k' = skipB (s.data.toList.drop k) ∧ w.grownBy w' (some R) :=
  (next_any R s k e c w h hs hk).mono fun x w' ⟨k', hx, h1, _, h3, h4, h5⟩ => ⟨by rw [hx, h4, hm], k', h1, h3, h4, h5⟩

set_option maxRecDepth 100000 in
set_option maxHeartbeats 1000000 in
theorem must_yes (R : Nat) (s : ByteArray) (k c b : Nat) (w : World) (h : RdA w R s k 0 c) (hs : s.size ≤ 200000) (hk : k ≤ s.size) {y : UInt8} {u : List UInt8} (hy : skipB (s.data.toList.drop k) = y :: u) (hb : y.toNat = b) :
    Calls Tryz.prog 56 #[.pointer (some ⟨R, 0, none⟩), .int .u8 b] w fun x w' => x = .returned (.tuple #[]) ∧ w.grownBy w' (some R) ∧
      ∃ k', RdA w' R s k' 0 c ∧ k' ≤ s.size ∧ s.data.toList.drop k' = u := by
  have hN := fun w (h : RdA w R s k 0 c) => next_hd R s k 0 c w h hs hk (m := b) (by rw [hy]; exact hb)
  have HR := Lib.hid h
  have HY := Lib.hid hy
  clear h hy hb
  go_enter Tryz.func56, Tryz.ntmps56
  go_upto_region 1 with fail
  go_cut [19] (fun v wx => v = .bool false ∧ Hid (w.grownBy wx (some R)) ∧ ∃ k1, Hid (RdA wx R s k1 0 c) ∧ k1 < s.size ∧ Hid (u = s.data.toList.drop (k1 + 1)))
  case first =>
    go_region_with (go_at_call 18; refine (hN w.drew HR.out).mono ?_; rintro x w1 ⟨rfl, k1, hR1, hk2, hd, hg1⟩; have c0 := hR1.c0; have c1 := hR1.c1; have hlt := (drop_cons (hd.trans HY.out)).1)
    all_goals
      go_wp2_with fail
      go_meet
      exact ⟨by rw [decide_eq_false (by omega)], gb_of1 hg1, k1, hR1, hlt, (drop_cons (hd.trans HY.out)).2⟩
  case rest =>
  obtain ⟨rfl, hg, k1, HR1, hk1, HU⟩ := hcut
  have c1 := HR1.out.c1
  have f1 := HR1.out.fz 1 (by omega)
  have hs2 := HR1.out.set1 (k1 + 1)
  have hc : ((k1 + 1 : Nat) : Int) = (k1 : Int) + 1 := by omega
  rw [hc] at hs2
  have HS2 := Lib.hid hs2
  clear hs2 hc hN HR
  go_wp2
  go_end0
  exact ⟨rfl, gb_set (gb_same hg.out) _, k1 + 1, HS2.out, by omega, HU.out.symm⟩

set_option maxRecDepth 100000 in
set_option maxHeartbeats 8000000 in
theorem must_no (R : Nat) (s : ByteArray) (k c b : Nat) (w : World) (h : RdA w R s k 0 c) (hs : s.size ≤ 200000) (hk : k ≤ s.size) (hy : NoB (s.data.toList.drop k) b) (hb : 0 < b) :
    Calls Tryz.prog 56 #[.pointer (some ⟨R, 0, none⟩), .int .u8 b] w fun x w' => x = .returned (.tuple #[]) ∧ w.grownBy w' (some R) ∧ ∃ k', RdA w' R s k' 1 c := by
  obtain ⟨m, hm⟩ : ∃ m, headB (skipB (s.data.toList.drop k)) = m := ⟨_, rfl⟩
  have hmb : m ≠ b := by
    intro e
    cases hz : skipB (s.data.toList.drop k) with
    | nil => rw [hz] at hm; simp only [headB] at hm; omega
    | cons y u => rw [hz] at hm; simp only [headB] at hm; exact hy y u hz (by omega)
  have hN := fun w (h : RdA w R s k 0 c) => next_hd R s k 0 c w h hs hk (m := m) hm
  have HR := Lib.hid h
  have q : ((m : Int) != (b : Int)) = true := by simp; omega
  clear h hy hb hm hmb
  go_enter Tryz.func56, Tryz.ntmps56
  go_upto_region 1 with fail
  go_cut [19] (fun v wx => v = .bool true ∧ Hid (w.grownBy wx (some R)) ∧ ∃ k1, Hid (RdA wx R s k1 0 c))
  case first =>
    first
      | go_region_with (go_at_call 18; refine (hN w.drew HR.out).mono ?_; rintro x w1 ⟨rfl, k1, hR1, hk2, hd, hg1⟩)
      | fail
    all_goals
      go_wp2_with fail
      go_meet
      exact ⟨rfl, gb_of1 hg1, k1, hR1⟩
  case rest =>
  obtain ⟨rfl, hg, k1, HR1⟩ := hcut
  have hF := fail_any R s k1 c 1 wc HR1.out
  have hs2 := HR1.out.set2 1
  have HS2 := Lib.hid hs2
  clear hs2 hN HR
  go_wp2_with (go_at_call 19; refine hF.mono ?_; rintro x w2 ⟨rfl, rfl⟩)
  go_returns
  exact ⟨rfl, gb_set hg.out _, k1, HS2.out⟩

end Go.Proofs.YtlaagdpanbineaaGreatDoor

/- The document's reader of JSON: text. -/
namespace Go.Proofs.YtlaagdpanbineaaGreatDoor
open Go.RowKit

theorem RdA.gb {w w' : World} {R : Nat} {s : ByteArray} {k e c : Nat} (_h : RdA w R s k e c) (hb : Below w.heap.size w w') : w.grownBy w' (some R) := gb_below (gb_refl w _) hb

set_option maxRecDepth 100000 in
set_option maxHeartbeats 4000000 in
theorem text_yes (R : Nat) (s : ByteArray) (k c : Nat) (w : World) (h : RdA w R s k 0 c) (hs : s.size ≤ 200000) (hk : k ≤ s.size) {x : List UInt8} {n : Nat} (hT : takeL (skipB (s.data.toList.drop k)) = some (x, n)) :
    Calls Tryz.prog 37 #[.pointer (some ⟨R, 0, none⟩)] w fun y w' => y = .returned (.string ⟨x.toArray⟩) ∧ w.grownBy w' (some R) ∧
      ∃ k', RdA w' R s k' 0 c ∧ k' ≤ s.size ∧ s.data.toList.drop k' = (skipB (s.data.toList.drop k)).drop n := by
  have hN := next_any R s k 0 c w h hs hk
  have HT := Lib.hid hT
  have hn : n ≤ (skipB (s.data.toList.drop k)).length ∧ 2 ≤ n := by
    obtain ⟨b, t, ps, hl, _, _, hn⟩ := takeL_of hT
    rw [hl, hn]
    refine ⟨?_, by omega⟩
    simp only [List.length_cons, List.length_append]
    omega
  have HN := Lib.hid hn
  have hn2 := hn.2
  have q : ((n : Int) == 0) = false := by simp; omega
  clear h hT hn
  generalize hx : (⟨x.toArray⟩ : ByteArray) = X at *
  have HX := Lib.hid hx
  clear hx
  go_enter Tryz.func37, Tryz.ntmps37
  go_wp2_with fail
  refine hN.mono ?_
  rintro y w1 ⟨k1, rfl, hR1, hk1, hk2, hd, hg1⟩
  have HR1 := Lib.hid hR1
  have HD := Lib.hid hd
  have HG1 := Lib.hid hg1
  have hnk : k1 + n ≤ s.size := by
    have h1 := HN.out.1
    rw [← hd, List.length_drop, size_list] at h1
    omega
  have hQ := fun w => rtake_any s ((k1 : Nat) : Int) w hs (o := some (x, n)) (by rw [restQ_in, hd]; exact HT.out)
  simp only [takeRV] at hQ
  rw [HX.out] at hQ
  have c0 := hR1.c0
  have c1 := hR1.c1
  clear hN hR1 hd hg1
  generalize headB (s.data.toList.drop k1) = hb at *
  go_upto_region 3 with fail
  go_cut [3, 4] (fun v u wx => v = .string X ∧ u = .int .i64 n ∧ Hid (w1.grownBy wx (some R)) ∧ Hid (RdA wx R s k1 0 c))
  case first =>
    first
      | go_region_with (go_at_call 55; refine (hQ _).mono ?_; rintro y w2 ⟨rfl, hb2⟩)
      | fail
    all_goals
      go_wp2_with fail
      go_meet
      exact ⟨rfl, rfl, RdA.gb HR1.out (by first | exact hb2 | exact ⟨hb2.os, hb2.tape, hb2.output, hb2.size, hb2.block⟩), HR1.out.below (by first | exact hb2 | exact ⟨hb2.os, hb2.tape, hb2.output, hb2.size, hb2.block⟩)⟩
  case rest =>
  obtain ⟨rfl, rfl, hg2, HR2⟩ := hcut
  have c1 := HR2.out.c1
  have f1 := HR2.out.fz 1 (by omega)
  have hs2 := HR2.out.set1 (k1 + n)
  have hc : ((k1 + n : Nat) : Int) = (k1 : Int) + n := by omega
  rw [hc] at hs2
  have HS2 := Lib.hid hs2
  clear hs2 hc hQ
  go_wp2
  go_ret
  refine ⟨rfl, gb_set (gb_trans HG1.out hg2.out) _, k1 + n, HS2.out, hnk, ?_⟩
  rw [← HD.out, List.drop_drop]

set_option maxRecDepth 100000 in
set_option maxHeartbeats 4000000 in
theorem text_no (R : Nat) (s : ByteArray) (k c : Nat) (w : World) (h : RdA w R s k 0 c) (hs : s.size ≤ 200000) (hk : k ≤ s.size) (hT : takeL (skipB (s.data.toList.drop k)) = none) :
    Calls Tryz.prog 37 #[.pointer (some ⟨R, 0, none⟩)] w fun y w' => y = .returned (.string ⟨#[]⟩) ∧ w.grownBy w' (some R) ∧ ∃ k', RdA w' R s k' 1 c := by
  have hN := next_any R s k 0 c w h hs hk
  have HT := Lib.hid hT
  clear h hT
  go_enter Tryz.func37, Tryz.ntmps37
  go_wp2_with fail
  refine hN.mono ?_
  rintro y w1 ⟨k1, rfl, hR1, hk1, hk2, hd, hg1⟩
  have HR1 := Lib.hid hR1
  have HG1 := Lib.hid hg1
  have hQ := fun w => rtake_any s ((k1 : Nat) : Int) w hs (o := none) (by rw [restQ_in, hd]; exact HT.out)
  simp only [takeRV] at hQ
  have c0 := hR1.c0
  have c1 := hR1.c1
  clear hN hR1 hd hg1
  generalize headB (s.data.toList.drop k1) = hb at *
  go_upto_region 3 with fail
  go_cut [3, 4] (fun v u wx => v = .string ⟨#[]⟩ ∧ u = .int .i64 0 ∧ Hid (w1.grownBy wx (some R)) ∧ Hid (RdA wx R s k1 0 c))
  case first =>
    first
      | go_region_with (go_at_call 55; refine (hQ _).mono ?_; rintro y w2 ⟨rfl, hb2⟩)
      | fail
    all_goals
      go_wp2_with fail
      go_meet
      exact ⟨rfl, rfl, RdA.gb HR1.out (by first | exact hb2 | exact ⟨hb2.os, hb2.tape, hb2.output, hb2.size, hb2.block⟩), HR1.out.below (by first | exact hb2 | exact ⟨hb2.os, hb2.tape, hb2.output, hb2.size, hb2.block⟩)⟩
  case rest =>
  obtain ⟨rfl, rfl, hg2, HR2⟩ := hcut
  have hF := fail_any R s k1 c 1 wc HR2.out
  have hs1 := HR2.out.set2 1
  have hs2 := hs1.set1 k1
  have c1 := HR2.out.c1
  have f1 := HR2.out.fz 1 (by omega)
  have HS2 := Lib.hid hs2
  clear hs1 hs2 hQ
  go_wp2_with fail
  refine hF.mono ?_
  rintro y w3 ⟨rfl, rfl⟩
  clear hF
  go_wp2
  go_ret
  exact ⟨rfl, gb_set (gb_set (gb_trans HG1.out hg2.out) _) _, k1, HS2.out⟩

end Go.Proofs.YtlaagdpanbineaaGreatDoor

/- The document's reader of JSON: word. -/
namespace Go.Proofs.YtlaagdpanbineaaGreatDoor
open Go.RowKit

theorem pre_iff (W : ByteArray) (s : ByteArray) (k : Nat) (hk : k ≤ s.size) : W.data.toList.isPrefixOf (s.data.toList.drop k) = true ↔ (k + W.size ≤ s.size ∧ s.extract k (k + W.size) = W) := by
  rw [List.isPrefixOf_iff_prefix, List.prefix_iff_eq_take]
  have hx : (s.extract k (k + W.size)).data.toList = (s.data.toList.drop k).take W.size := by
    rw [Lib.extract_data]
    congr 1
    omega
  rw [size_list]
  constructor
  · intro h
    have hl := congrArg List.length h
    rw [List.length_take, List.length_drop, size_list, size_list] at hl
    exact ⟨by omega, ba_eq (by rw [hx, ← h])⟩
  · intro h
    rw [← hx, h.2]

theorem RdA.alloc {w : World} {R : Nat} {s : ByteArray} {k e c : Nat} (h : RdA w R s k e c) (o : Obj) : RdA (w.alloc o) R s k e c := (Below.heap_alloc w o R h.lt).trans h

theorem RdA.other {w : World} {R b j : Nat} {s : ByteArray} {k e c : Nat} (h : RdA w R s k e c) (hb : b ≠ R) (v : Value) : RdA (w.setCell ⟨b, j, none⟩ v) R s k e c := by
  unfold RdA at h ⊢
  simp only [World.setCell]
  rw [Array.getElem?_modify, if_neg hb]
  exact h

set_option maxRecDepth 100000 in
set_option maxHeartbeats 4000000 in
theorem word_yes (R : Nat) (s W : ByteArray) (k c : Nat) (kd : Int) (w : World) (h : RdA w R s k 0 c) (hs : s.size ≤ 200000) (hk : k ≤ s.size) (hW : W.size ≤ 10) (hp : W.data.toList.isPrefixOf (s.data.toList.drop k) = true) :
    Calls Tryz.prog 36 #[.pointer (some ⟨R, 0, none⟩), .string W, .int .i64 kd] w fun y w' => y = .returned (litV kd 0 [] (.slice none 0 0) (.slice none 0 0)) ∧ w.grownBy w' (some R) ∧ RdA w' R s (k + W.size) 0 c := by
  obtain ⟨h1, h2⟩ := (pre_iff W s k hk).1 hp
  have HR := Lib.hid h
  have hRX : R ≠ w.heap.size := by have := h.lt; omega
  have q1 : decide ((s.size : Int) - k < W.size) = false := decide_eq_false (by omega)
  have c0 := fun o => (h.alloc o).c0
  have c1 := fun o => (h.alloc o).c1
  have f1 := fun o => (h.alloc o).fz 1 (by omega)
  have hc : ((k + W.size : Nat) : Int) = (k : Int) + W.size := by omega
  have HS := Lib.hid (fun o => (h.alloc o).set1 (k + W.size))
  rw [hc] at HS
  clear h hp
  go_enter Tryz.func36, Tryz.ntmps36
  go_wp2
  go_quiet (fail)
  go_upto_region 4 with fail
  refine wp_gen (fun w3 => Hid (zeroBlk w3 w.heap.size) ∧ Hid (RdA w3 R s (k + W.size) 0 c) ∧ Hid (w.grownBy w3 (some R))) ⟨(Blk.other (heap_alloc_new w _) hRX _), HS.out _, gb_set (gb_same (gb_alloc (gb_refl w _) _)) _⟩ ?_
  intro w3 ⟨HZ, HR3, HG3⟩
  have z0 := HZ.out.cell 0 (by omega)
  have z1 := HZ.out.cell 1 (by omega)
  have z2 := HZ.out.cell 2 (by omega)
  have z3 := HZ.out.cell 3 (by omega)
  have z4 := HZ.out.cell 4 (by omega)
  have f0 := HZ.out.fz
  clear c0 c1 f1 HS
  go_wp2
  refine bp_gen (fun w5 => Hid (Blk w5 w.heap.size (.int .i64 kd) (.int .i64 0) (.string ⟨#[]⟩) (.slice none 0 0) (.slice none 0 0)) ∧ Hid (RdA w5 R s (k + W.size) 0 c) ∧ Hid (w.grownBy w5 (some R))) ⟨HZ.out.store _ _ _ _ _, ((((HR3.out.other hRX.symm _).other hRX.symm _).other hRX.symm _).other hRX.symm _).other hRX.symm _, gb_new (gb_new (gb_new (gb_new (gb_new HG3.out (Nat.le_refl _) _) (Nat.le_refl _) _) (Nat.le_refl _) _) (Nat.le_refl _) _) (Nat.le_refl _) _⟩ ?_
  intro w5 ⟨HZ5, HR5, HG5⟩
  have y0 := HZ5.out.cell 0 (by omega)
  have y1 := HZ5.out.cell 1 (by omega)
  have y2 := HZ5.out.cell 2 (by omega)
  have y3 := HZ5.out.cell 3 (by omega)
  have y4 := HZ5.out.cell 4 (by omega)
  (try simp only [Exit.inBlock, Exit.then])
  refine bodyPost_ret (v := litV kd 0 [] (.slice none 0 0) (.slice none 0 0)) ?_ rfl ⟨rfl, HG5.out, HR5.out⟩
  simp [results, Tryz.results36, go_sem, y0, y1, y2, y3, y4]
  rfl

set_option maxRecDepth 100000 in
set_option maxHeartbeats 4000000 in
theorem word_short (R : Nat) (s W : ByteArray) (k c : Nat) (kd : Int) (w : World) (h : RdA w R s k 0 c) (hs : s.size ≤ 200000) (hk : k ≤ s.size) (hW : W.size ≤ 10) (hp : s.size < k + W.size) :
    Calls Tryz.prog 36 #[.pointer (some ⟨R, 0, none⟩), .string W, .int .i64 kd] w fun y w' => y = .returned (litV kd 0 [] (.slice none 0 0) (.slice none 0 0)) ∧ w.grownBy w' (some R) ∧ ∃ k', RdA w' R s k' 1 c := by
  have HR := Lib.hid h
  have hRX : R ≠ w.heap.size := by have := h.lt; omega
  have q1 : decide ((s.size : Int) - k < W.size) = true := decide_eq_true (by omega)
  have c0 := fun o => (h.alloc o).c0
  have c1 := fun o => (h.alloc o).c1
  have f1 := fun o => (h.alloc o).fz 1 (by omega)
  have hc : ((k + W.size : Nat) : Int) = (k : Int) + W.size := by omega
  have HS := Lib.hid (fun o n => ((h.alloc o).set2 1).set1 n)
  clear h
  go_enter Tryz.func36, Tryz.ntmps36
  go_wp2
  go_quiet (fail)
  go_upto_region 2 with fail
  refine wp_gen (fun w2 => Hid (zeroBlk w2 w.heap.size) ∧ Hid (RdA w2 R s k 0 c) ∧ Hid (w.grownBy w2 (some R))) ⟨heap_alloc_new w _, HR.out.alloc _, gb_same (gb_alloc (gb_refl w _) _)⟩ ?_
  intro w2 ⟨HZ2, HR2, HG2⟩
  have hF := fail_any R s k c 1 w2 HR2.out
  have c1 := HR2.out.c1
  have f1 := HR2.out.fz 1 (by omega)
  have HS3 := Lib.hid ((HR2.out.set2 1).set1 (k + W.size))
  rw [hc] at HS3
  clear c0 HS
  go_wp2_with fail
  refine hF.mono ?_
  rintro e w3' ⟨rfl, rfl⟩
  clear hF
  go_upto_region 4 with fail
  refine wp_gen (fun w3 => Hid (zeroBlk w3 w.heap.size) ∧ Hid (RdA w3 R s (k + W.size) 1 c) ∧ Hid (w.grownBy w3 (some R))) ⟨((Blk.other HZ2.out hRX _).other hRX _), HS3.out, gb_set (gb_set HG2.out _) _⟩ ?_
  intro w3 ⟨HZ, HR3, HG3⟩
  have z0 := HZ.out.cell 0 (by omega)
  have z1 := HZ.out.cell 1 (by omega)
  have z2 := HZ.out.cell 2 (by omega)
  have z3 := HZ.out.cell 3 (by omega)
  have z4 := HZ.out.cell 4 (by omega)
  have f0 := HZ.out.fz
  clear c1 f1
  go_wp2
  refine bp_gen (fun w5 => Hid (Blk w5 w.heap.size (.int .i64 kd) (.int .i64 0) (.string ⟨#[]⟩) (.slice none 0 0) (.slice none 0 0)) ∧ Hid (RdA w5 R s (k + W.size) 1 c) ∧ Hid (w.grownBy w5 (some R))) ⟨HZ.out.store _ _ _ _ _, ((((HR3.out.other hRX.symm _).other hRX.symm _).other hRX.symm _).other hRX.symm _).other hRX.symm _, gb_new (gb_new (gb_new (gb_new (gb_new HG3.out (Nat.le_refl _) _) (Nat.le_refl _) _) (Nat.le_refl _) _) (Nat.le_refl _) _) (Nat.le_refl _) _⟩ ?_
  intro w5 ⟨HZ5, HR5, HG5⟩
  have y0 := HZ5.out.cell 0 (by omega)
  have y1 := HZ5.out.cell 1 (by omega)
  have y2 := HZ5.out.cell 2 (by omega)
  have y3 := HZ5.out.cell 3 (by omega)
  have y4 := HZ5.out.cell 4 (by omega)
  (try simp only [Exit.inBlock, Exit.then])
  refine bodyPost_ret (v := litV kd 0 [] (.slice none 0 0) (.slice none 0 0)) ?_ rfl ⟨rfl, HG5.out, _, HR5.out⟩
  simp [results, Tryz.results36, go_sem, y0, y1, y2, y3, y4]
  rfl

set_option maxRecDepth 100000 in
set_option maxHeartbeats 4000000 in
theorem word_other (R : Nat) (s W : ByteArray) (k c : Nat) (kd : Int) (w : World) (h : RdA w R s k 0 c) (hs : s.size ≤ 200000) (hk : k ≤ s.size) (hW : W.size ≤ 10) (h1 : k + W.size ≤ s.size) (hp : s.extract k (k + W.size) ≠ W) :
    Calls Tryz.prog 36 #[.pointer (some ⟨R, 0, none⟩), .string W, .int .i64 kd] w fun y w' => y = .returned (litV kd 0 [] (.slice none 0 0) (.slice none 0 0)) ∧ w.grownBy w' (some R) ∧ ∃ k', RdA w' R s k' 1 c := by
  have HR := Lib.hid h
  have hRX : R ≠ w.heap.size := by have := h.lt; omega
  have q1 : decide ((s.size : Int) - k < W.size) = false := decide_eq_false (by omega)
  have q2 : ¬ (s.extract k (k + W.size)).toList = W.toList := by
    intro e
    rw [ByteArray.toList_eq, ByteArray.toList_eq] at e
    exact hp (ba_eq e)
  have q3 : ((s.extract k (k + W.size)).toList == W.toList) = false := by rw [beq_eq_false_iff_ne]; exact q2
  have c0 := fun o => (h.alloc o).c0
  have c1 := fun o => (h.alloc o).c1
  have f1 := fun o => (h.alloc o).fz 1 (by omega)
  have hc : ((k + W.size : Nat) : Int) = (k : Int) + W.size := by omega
  have HS := Lib.hid (fun o n => ((h.alloc o).set2 1).set1 n)
  clear h
  go_enter Tryz.func36, Tryz.ntmps36
  go_wp2
  go_quiet (fail)
  go_upto_region 2 with fail
  refine wp_gen (fun w2 => Hid (zeroBlk w2 w.heap.size) ∧ Hid (RdA w2 R s k 0 c) ∧ Hid (w.grownBy w2 (some R))) ⟨heap_alloc_new w _, HR.out.alloc _, gb_same (gb_alloc (gb_refl w _) _)⟩ ?_
  intro w2 ⟨HZ2, HR2, HG2⟩
  have hF := fail_any R s k c 1 w2 HR2.out
  have c1 := HR2.out.c1
  have f1 := HR2.out.fz 1 (by omega)
  have HS3 := Lib.hid ((HR2.out.set2 1).set1 (k + W.size))
  rw [hc] at HS3
  clear c0 HS
  go_wp2_with fail
  refine hF.mono ?_
  rintro e w3' ⟨rfl, rfl⟩
  clear hF
  go_upto_region 4 with fail
  refine wp_gen (fun w3 => Hid (zeroBlk w3 w.heap.size) ∧ Hid (RdA w3 R s (k + W.size) 1 c) ∧ Hid (w.grownBy w3 (some R))) ⟨((Blk.other HZ2.out hRX _).other hRX _), HS3.out, gb_set (gb_set HG2.out _) _⟩ ?_
  intro w3 ⟨HZ, HR3, HG3⟩
  have z0 := HZ.out.cell 0 (by omega)
  have z1 := HZ.out.cell 1 (by omega)
  have z2 := HZ.out.cell 2 (by omega)
  have z3 := HZ.out.cell 3 (by omega)
  have z4 := HZ.out.cell 4 (by omega)
  have f0 := HZ.out.fz
  clear c1 f1
  go_wp2
  refine bp_gen (fun w5 => Hid (Blk w5 w.heap.size (.int .i64 kd) (.int .i64 0) (.string ⟨#[]⟩) (.slice none 0 0) (.slice none 0 0)) ∧ Hid (RdA w5 R s (k + W.size) 1 c) ∧ Hid (w.grownBy w5 (some R))) ⟨HZ.out.store _ _ _ _ _, ((((HR3.out.other hRX.symm _).other hRX.symm _).other hRX.symm _).other hRX.symm _).other hRX.symm _, gb_new (gb_new (gb_new (gb_new (gb_new HG3.out (Nat.le_refl _) _) (Nat.le_refl _) _) (Nat.le_refl _) _) (Nat.le_refl _) _) (Nat.le_refl _) _⟩ ?_
  intro w5 ⟨HZ5, HR5, HG5⟩
  have y0 := HZ5.out.cell 0 (by omega)
  have y1 := HZ5.out.cell 1 (by omega)
  have y2 := HZ5.out.cell 2 (by omega)
  have y3 := HZ5.out.cell 3 (by omega)
  have y4 := HZ5.out.cell 4 (by omega)
  (try simp only [Exit.inBlock, Exit.then])
  refine bodyPost_ret (v := litV kd 0 [] (.slice none 0 0) (.slice none 0 0)) ?_ rfl ⟨rfl, HG5.out, _, HR5.out⟩
  simp [results, Tryz.results36, go_sem, y0, y1, y2, y3, y4]
  rfl

end Go.Proofs.YtlaagdpanbineaaGreatDoor

/- The document's reader of JSON: what an appended value leaves. -/
namespace Go.Proofs.YtlaagdpanbineaaGreatDoor
open Go.RowKit

theorem RdA.grown {w w' : World} {R : Nat} {r : Option Nat} {s : ByteArray} {k e c : Nat} (h : RdA w R s k e c) (hg : w.grownBy w' r) (hr : some R ≠ r) : RdA w' R s k e c := (hg.block R h.lt hr).trans h
theorem arr_append {R : Nat} {s : ByteArray} {w wr w1 w9 : World} {G k' c' gg cap e0 : Nat} {kids : List NT} {t : NT} {cv a b c d c0 c1 c2 c3 c4 : Value} {xs : List Value} {o : Obj}
    (hRX : R < w.heap.size) (hs : w.heap.size + 2 ≤ wr.heap.size) (HZ : zeroBlk wr w.heap.size) (HX : Blk wr (w.heap.size + 1) a b c d cv) (own : wr.ownsRow (w.heap.size + 2) 26 5 cv kids.length xs)
    (cis : CIs (fun b => w.heap.size + 2 ≤ b ∧ cv.ownBlock ≠ some b) G wr kids xs) (gb : w.grownBy wr (some R)) (hg1 : wr.grownBy w1 (some R))
    (hN : NIs (fun b => wr.heap.size ≤ b) G w1 t (.agg #[c0, c1, c2, c3, c4])) (hR1 : RdA w1 R s k' e0 c') (hgrow : (w1.alloc o).grownBy w9 cv.ownBlock) (hat : cv.ownBlock = some gg ∨ gg = w1.heap.size + 1) (_hlt : gg < w9.heap.size)
    (hown9 : w9.ownsRow (w.heap.size + 2) 26 5 (.slice (some ⟨gg, 0, none⟩) (kids.length + 1) cap) (kids.length + 1) (xs ++ [c0, c1, c2, c3, c4])) :
    zeroBlk (w9.setCell ⟨w.heap.size + 1, 4, none⟩ (.slice (some ⟨gg, 0, none⟩) (kids.length + 1) cap)) w.heap.size ∧
    RdA (w9.setCell ⟨w.heap.size + 1, 4, none⟩ (.slice (some ⟨gg, 0, none⟩) (kids.length + 1) cap)) R s k' e0 c' ∧
    Blk (w9.setCell ⟨w.heap.size + 1, 4, none⟩ (.slice (some ⟨gg, 0, none⟩) (kids.length + 1) cap)) (w.heap.size + 1) a b c d (.slice (some ⟨gg, 0, none⟩) (kids.length + 1) cap) ∧
    (w9.setCell ⟨w.heap.size + 1, 4, none⟩ (.slice (some ⟨gg, 0, none⟩) (kids.length + 1) cap)).ownsRow (w.heap.size + 2) 26 5 (.slice (some ⟨gg, 0, none⟩) (kids.length + 1) cap) (kids.length + 1) (xs ++ [c0, c1, c2, c3, c4]) ∧
    CIs (fun b => w.heap.size + 2 ≤ b ∧ (Value.slice (some ⟨gg, 0, none⟩) (kids.length + 1) cap).ownBlock ≠ some b) G (w9.setCell ⟨w.heap.size + 1, 4, none⟩ (.slice (some ⟨gg, 0, none⟩) (kids.length + 1) cap)) (kids ++ [t]) (xs ++ [c0, c1, c2, c3, c4]) ∧
    w.grownBy (w9.setCell ⟨w.heap.size + 1, 4, none⟩ (.slice (some ⟨gg, 0, none⟩) (kids.length + 1) cap)) (some R) := by
  have hcv : ∀ g, cv.ownBlock = some g → w.heap.size + 2 ≤ g ∧ g < wr.heap.size := own.lt
  have s1 := hg1.size
  have s9 := hgrow.size
  have sa : (w1.alloc o).heap.size = w1.heap.size + 1 := by simp
  have hne : ∀ X, X < w.heap.size + 2 → some X ≠ cv.ownBlock := fun X hX e => by have := (hcv X e.symm).1; omega
  have hset : w9.grownBy (w9.setCell ⟨w.heap.size + 1, 4, none⟩ (.slice (some ⟨gg, 0, none⟩) (kids.length + 1) cap)) (some (w.heap.size + 1)) := gb_set (gb_refl _ _) _
  generalize hv9 : (Value.slice (some ⟨gg, 0, none⟩) (kids.length + 1) cap) = v9 at hown9 hset ⊢
  have hob : v9.ownBlock = some gg := by rw [← hv9]; rfl
  have hgl : gg < wr.heap.size ∧ cv.ownBlock = some gg ∨ w1.heap.size + 1 ≤ gg := by
    rcases hat with h | h
    · exact .inl ⟨(hcv gg h).2, h⟩
    · exact .inr (by omega)
  have hgm : w.heap.size + 2 ≤ gg := by
    rcases hgl with ⟨_, h⟩ | h
    · exact (hcv gg h).1
    · omega
  refine ⟨?_, ?_, ?_, ?_, ?_, ?_⟩
  · exact (((HZ.grown hg1 (by simp; omega)).grown (gb_alloc (gb_refl _ (some R)) o) (by simp; omega)).grown hgrow (hne _ (by omega))).other (by omega) _
  · exact ((hR1.alloc o).grown hgrow (hne _ (by omega))).other (by omega) _
  · exact (((HX.grown hg1 (by simp; omega)).grown (gb_alloc (gb_refl _ (some R)) o) (by simp; omega)).grown hgrow (hne _ (by omega))).set4 _
  · exact own_gb hown9 hset (by omega)
  · refine CIs.snoc (cis.kept ?_ ?_) (hN.kept ?_ ?_)
    · have := hset.size; omega
    · intro b ⟨h1, h2⟩ hb
      have e1 := hg1.block b hb (by simp; omega)
      have e2 : (w1.alloc o).heap[b]? = w1.heap[b]? := Below.heap_alloc _ _ _ (by omega)
      have e3 := hgrow.block b (by omega) (fun e => h2 e.symm)
      have e4 := hset.block b (by omega) (by simp; omega)
      refine ⟨⟨h1, ?_⟩, e4.trans (e3.trans (e2.trans e1))⟩
      rw [hob]
      intro e
      injection e with e
      rcases hgl with ⟨_, h⟩ | h
      · exact h2 (by rw [h, e])
      · omega
    · have := hset.size; omega
    · intro b h1 hb
      have e2 : (w1.alloc o).heap[b]? = w1.heap[b]? := Below.heap_alloc _ _ _ (by omega)
      have e3 := hgrow.block b (by omega) (fun e => by have := (hcv b e.symm).2; omega)
      have e4 := hset.block b (by omega) (by simp; omega)
      refine ⟨⟨by omega, ?_⟩, e4.trans (e3.trans e2)⟩
      rw [hob]
      intro e
      injection e with e
      rcases hgl with ⟨h, _⟩ | h
      · omega
      · omega
  · refine gb_row (gb_row (gb_trans gb (gb_alloc hg1 o)) hgrow ?_) hset ?_
    · intro g hg; have := (hcv g hg).1; omega
    · intro g hg; injection hg with hg; omega

/-- the same without the values, where an error is told -/
theorem arr_append_bad {R : Nat} {s : ByteArray} {w wr w1 w9 : World} {k' c' e0 n : Nat} {cv a b c d v9 : Value} {xs : List Value} {o : Obj}
    (hRX : R < w.heap.size) (_hs : w.heap.size + 2 ≤ wr.heap.size) (HZ : zeroBlk wr w.heap.size) (HX : Blk wr (w.heap.size + 1) a b c d cv) (own : wr.ownsRow (w.heap.size + 2) 26 5 cv n xs)
    (gb : w.grownBy wr (some R)) (hg1 : wr.grownBy w1 (some R)) (hR1 : RdA w1 R s k' e0 c') (hgrow : (w1.alloc o).grownBy w9 cv.ownBlock) :
    zeroBlk (w9.setCell ⟨w.heap.size + 1, 4, none⟩ v9) w.heap.size ∧ RdA (w9.setCell ⟨w.heap.size + 1, 4, none⟩ v9) R s k' e0 c' ∧
    Blk (w9.setCell ⟨w.heap.size + 1, 4, none⟩ v9) (w.heap.size + 1) a b c d v9 ∧ w.grownBy (w9.setCell ⟨w.heap.size + 1, 4, none⟩ v9) (some R) := by
  have hcv : ∀ g, cv.ownBlock = some g → w.heap.size + 2 ≤ g ∧ g < wr.heap.size := own.lt
  have s1 := hg1.size
  have s9 := hgrow.size
  have sa : (w1.alloc o).heap.size = w1.heap.size + 1 := by simp
  have hne : ∀ X, X < w.heap.size + 2 → some X ≠ cv.ownBlock := fun X hX e => by have := (hcv X e.symm).1; omega
  have hset : w9.grownBy (w9.setCell ⟨w.heap.size + 1, 4, none⟩ v9) (some (w.heap.size + 1)) := gb_set (gb_refl _ _) _
  refine ⟨?_, ?_, ?_, ?_⟩
  · exact (((HZ.grown hg1 (by simp; omega)).grown (gb_alloc (gb_refl _ (some R)) o) (by simp; omega)).grown hgrow (hne _ (by omega))).other (by omega) _
  · exact ((hR1.alloc o).grown hgrow (hne _ (by omega))).other (by omega) _
  · exact (((HX.grown hg1 (by simp; omega)).grown (gb_alloc (gb_refl _ (some R)) o) (by simp; omega)).grown hgrow (hne _ (by omega))).set4 _
  · refine gb_row (gb_row (gb_trans gb (gb_alloc hg1 o)) hgrow ?_) hset ?_
    · intro g hg; have := (hcv g hg).1; omega
    · intro g hg; injection hg with hg; omega

end Go.Proofs.YtlaagdpanbineaaGreatDoor

