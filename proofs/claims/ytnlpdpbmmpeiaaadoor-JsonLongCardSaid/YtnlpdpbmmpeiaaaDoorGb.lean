/- The program's reader of JSON: blanks, take, begin, end. -/
import Derived.Test.YtnlpdpbmmpeiaaaDoorGm
import Derived.Test.YtnlpdpbmmpeiaaaDoorQcd
import Derived.WalkSpells
import Derived.WalkLawsBesides
import Derived.Deep.QuietTactic
import Derived.BigQuiet
import Derived.Lib.Hide
namespace Go.Proofs.YtnlpdpbmmpeiaaaDoor
open Go.RowKit

def atP (w : World) (R : Nat) : Nat := match w.cell? ⟨R, 1, none⟩ with
  | some (.int _ n) => n.toNat
  | _ => 0
theorem RdP.at {w : World} {R : Nat} {s : ByteArray} {k c : Nat} {hv : Value} {L : LV} (h : RdP w R s k c hv L) : atP w R = k := by unfold atP; rw [h.c1]; rfl

set_option maxRecDepth 100000 in
set_option maxHeartbeats 1000000 in
theorem blanks_any (R : Nat) (s : ByteArray) (k c : Nat) (hv : Value) (L : LV) (w : World) (h : RdP w R s k c hv L) (hs : s.size ≤ 200000) (hk : k ≤ s.size) :
    Calls Tryd.prog 30 #[.pointer (some ⟨R, 0, none⟩)] w fun x w' => x = .returned (.tuple #[]) ∧ ∃ k', RdP w' R s k' c hv L ∧ k' ≤ s.size ∧ s.data.toList.drop k' = skipB (s.data.toList.drop k) ∧ w.grownBy w' (some R) := by
  have H0 := Lib.hid h
  clear h
  go_enter Tryd.func30, Tryd.ntmps30
  go_wp2
  go_loopw [] (fun wr => ∃ k' : Nat, Hid (RdP wr R s k' c hv L) ∧ k' ≤ s.size ∧ Hid (skipB (s.data.toList.drop k') = skipB (s.data.toList.drop k)) ∧ w.grownBy wr (some R)) (fun wr => s.size - atP wr R)
  case atStart => exact ⟨k, H0, hk, rfl, gb_refl _ _⟩
  case round =>
    obtain ⟨k', HR, hk2, HS, hg⟩ := hrel
    have c0 := HR.out.c0
    have c1 := HR.out.c1
    have f1 := HR.out.fz 1
    by_cases hlt : k' < s.size
    · have hd := drop_hd hlt
      by_cases hb : isBl s[k']
      · have HS2 : Hid (skipB (s.data.toList.drop (k' + 1)) = skipB (s.data.toList.drop k)) := by
          show _ = _
          rw [← HS.out, hd]
          conv => rhs; unfold skipB
          rw [if_pos hb]
        have HX : Hid (RdP (wr.setCell ⟨R, 1, none⟩ (.int .i64 ((k' + 1 : Nat) : Int))) R s (k' + 1) c hv L) := HR.out.set1 (k' + 1)
        have hc : ((k' + 1 : Nat) : Int) = (k' : Int) + 1 := by omega
        rw [hc] at HX
        have HM := Lib.hid HR.out.at
        clear hd hc
        rcases hb with hb | hb | hb | hb
        · have t9 : ((s[k'].toNat : Int) == 9) = true := by rw [hb]; rfl
          clear hb
          go_wp2
          go_quiet (fail)
          go_wp2
          go_quiet (fail)
          go_wp2
          go_roundw
          case rel => exact ⟨k' + 1, HX, by omega, HS2, gb_set (gb_same hg) _⟩
          case measure =>
            rw [HM.out]
            have := HX.out.at
            show s.size - atP (wr.setCell ⟨R, 1, none⟩ (.int .i64 ((k' : Int) + 1))) R < _
            rw [this]
            omega
        · have t9 : ((s[k'].toNat : Int) == 9) = false := by rw [hb]; rfl
          have t10 : ((s[k'].toNat : Int) == 10) = true := by rw [hb]; rfl
          clear hb
          go_wp2
          go_quiet (fail)
          go_wp2
          go_quiet (fail)
          go_wp2
          go_roundw
          case rel => exact ⟨k' + 1, HX, by omega, HS2, gb_set (gb_same hg) _⟩
          case measure =>
            rw [HM.out]
            have := HX.out.at
            show s.size - atP (wr.setCell ⟨R, 1, none⟩ (.int .i64 ((k' : Int) + 1))) R < _
            rw [this]
            omega
        · have t9 : ((s[k'].toNat : Int) == 9) = false := by rw [hb]; rfl
          have t10 : ((s[k'].toNat : Int) == 10) = false := by rw [hb]; rfl
          have t13 : ((s[k'].toNat : Int) == 13) = true := by rw [hb]; rfl
          clear hb
          go_wp2
          go_quiet (fail)
          go_wp2
          go_quiet (fail)
          go_wp2
          go_roundw
          case rel => exact ⟨k' + 1, HX, by omega, HS2, gb_set (gb_same hg) _⟩
          case measure =>
            rw [HM.out]
            have := HX.out.at
            show s.size - atP (wr.setCell ⟨R, 1, none⟩ (.int .i64 ((k' : Int) + 1))) R < _
            rw [this]
            omega
        · have t9 : ((s[k'].toNat : Int) == 9) = false := by rw [hb]; rfl
          have t10 : ((s[k'].toNat : Int) == 10) = false := by rw [hb]; rfl
          have t13 : ((s[k'].toNat : Int) == 13) = false := by rw [hb]; rfl
          have t32 : ((s[k'].toNat : Int) == 32) = true := by rw [hb]; rfl
          clear hb
          go_wp2
          go_quiet (fail)
          go_wp2
          go_quiet (fail)
          go_wp2
          go_roundw
          case rel => exact ⟨k' + 1, HX, by omega, HS2, gb_set (gb_same hg) _⟩
          case measure =>
            rw [HM.out]
            have := HX.out.at
            show s.size - atP (wr.setCell ⟨R, 1, none⟩ (.int .i64 ((k' : Int) + 1))) R < _
            rw [this]
            omega
      · have hE : Hid (s.data.toList.drop k' = skipB (s.data.toList.drop k)) := by
          show _ = _
          rw [← HS.out, hd]
          conv => rhs; unfold skipB
          rw [if_neg hb]
        unfold isBl at hb
        have t9 : ((s[k'].toNat : Int) == 9) = false := by simp; omega
        have t10 : ((s[k'].toNat : Int) == 10) = false := by simp; omega
        have t13 : ((s[k'].toNat : Int) == 13) = false := by simp; omega
        have t32 : ((s[k'].toNat : Int) == 32) = false := by simp; omega
        clear hd hb
        go_wp2
        go_quiet (fail)
        go_wp2
        go_quiet (fail)
        go_wp2
        refine bodyPost_ret (v := .tuple #[]) (by simp [results, Tryd.results30, go_sem]) rfl ?_
        exact ⟨rfl, k', HR.out, hk2, hE.out, gb_same hg⟩
    · have hE : Hid (s.data.toList.drop k' = skipB (s.data.toList.drop k)) := by
        show _ = _
        rw [← HS.out, drop_nl hlt]
        rfl
      go_wp2
      go_quiet (fail)
      go_wp2
      go_end0
      exact ⟨rfl, k', HR.out, hk2, hE.out, gb_same hg⟩

theorem drop_eq_nil {s : ByteArray} {k : Nat} (hk : k ≤ s.size) (h : s.data.toList.drop k = []) : k = s.size := by
  rw [List.drop_eq_nil_iff, size_list] at h
  omega
theorem drop_at {s : ByteArray} {k : Nat} {y : UInt8} {u : List UInt8} (h : s.data.toList.drop k = y :: u) : ∃ hlt : k < s.size, s[k] = y := by
  have hlt := (drop_cons h).1
  have h2 := drop_hd hlt
  rw [h] at h2
  simp only [List.cons.injEq] at h2
  exact ⟨hlt, h2.1.symm⟩

/-- blanks, and where that leads -/
theorem blanks_hd (R : Nat) (s : ByteArray) (k c : Nat) (hv : Value) (L : LV) (w : World) (h : RdP w R s k c hv L) (hs : s.size ≤ 200000) (hk : k ≤ s.size) :
    Calls Tryd.prog 30 #[.pointer (some ⟨R, 0, none⟩)] w fun x w' => x = .returned (.tuple #[]) ∧ ∃ k', Hid (RdP w' R s k' c hv L) ∧ k' ≤ s.size ∧ Hid (s.data.toList.drop k' = skipB (s.data.toList.drop k)) ∧ Hid (w.grownBy w' (some R)) :=
  (blanks_any R s k c hv L w h hs hk).mono fun _ _ ⟨hx, k', h1, h2, h3, h4⟩ => ⟨hx, k', h1, h2, h3, h4⟩

set_option maxRecDepth 100000 in
set_option maxHeartbeats 1000000 in
theorem take_yes (R : Nat) (s : ByteArray) (k c b : Nat) (hv : Value) (L : LV) (w : World) (h : RdP w R s k c hv L) (hs : s.size ≤ 200000) (hk : k ≤ s.size) {y : UInt8} {u : List UInt8} (hy : skipB (s.data.toList.drop k) = y :: u) (hb : y.toNat = b) :
    Calls Tryd.prog 21 #[.pointer (some ⟨R, 0, none⟩), .int .u8 b] w fun x w' => x = .returned (.bool true) ∧ ∃ k', RdP w' R s k' c hv L ∧ k' ≤ s.size ∧ s.data.toList.drop k' = u ∧ w.grownBy w' (some R) := by
  have hB := blanks_hd R s k c hv L w h hs hk
  have HY := Lib.hid hy
  have HB := Lib.hid hb
  clear h hy hb
  go_enter Tryd.func21, Tryd.ntmps21
  go_wp2_with fail
  refine hB.mono ?_
  rintro x w1 ⟨rfl, k1, HR, hk1, HD, HG⟩
  clear hB
  obtain ⟨hlt, hs1⟩ := drop_at (HD.out.trans HY.out)
  have HU := Lib.hid (drop_cons (HD.out.trans HY.out)).2
  have c0 := HR.out.c0
  have c1 := HR.out.c1
  have f1 := HR.out.fz 1
  have q1 : ((k1 : Int) == (s.size : Int)) = false := by simp; omega
  have q2 : ((s[k1].toNat : Int) != (b : Int)) = false := by rw [hs1, HB.out]; simp
  have hs2 := HR.out.set1 (k1 + 1)
  have hc : ((k1 + 1 : Nat) : Int) = (k1 : Int) + 1 := by omega
  rw [hc] at hs2
  have HS2 := Lib.hid hs2
  clear hs2 hc hs1
  go_wp2
  go_quiet (fail)
  go_wp2
  go_ret
  exact ⟨rfl, k1 + 1, HS2.out, by omega, HU.out.symm, gb_set (gb_same HG.out) _⟩

set_option maxRecDepth 100000 in
set_option maxHeartbeats 1000000 in
theorem take_no (R : Nat) (s : ByteArray) (k c b : Nat) (hv : Value) (L : LV) (w : World) (h : RdP w R s k c hv L) (hs : s.size ≤ 200000) (hk : k ≤ s.size) (hy : NoB (s.data.toList.drop k) b) :
    Calls Tryd.prog 21 #[.pointer (some ⟨R, 0, none⟩), .int .u8 b] w fun x w' => x = .returned (.bool false) ∧ ∃ k', RdP w' R s k' c hv L ∧ k' ≤ s.size ∧ s.data.toList.drop k' = skipB (s.data.toList.drop k) ∧ w.grownBy w' (some R) := by
  have hB := blanks_hd R s k c hv L w h hs hk
  have HY := Lib.hid hy
  clear h hy
  go_enter Tryd.func21, Tryd.ntmps21
  go_wp2_with fail
  refine hB.mono ?_
  rintro x w1 ⟨rfl, k1, HR, hk1, HD, HG⟩
  clear hB
  have c0 := HR.out.c0
  have c1 := HR.out.c1
  by_cases hlt : k1 < s.size
  · have q1 : ((k1 : Int) == (s.size : Int)) = false := by simp; omega
    have hh := drop_hd hlt
    have hne := HY.out _ _ (HD.out.symm.trans hh)
    have q2 : ((s[k1].toNat : Int) != (b : Int)) = true := by simp; omega
    clear hh hne
    go_wp2
    go_quiet (fail)
    go_wp2
    go_ret
    exact ⟨rfl, k1, HR.out, hk1, HD.out, gb_same HG.out⟩
  · have q1 : ((k1 : Int) == (s.size : Int)) = true := by simp; omega
    go_wp2
    go_quiet (fail)
    go_wp2
    go_ret
    exact ⟨rfl, k1, HR.out, hk1, HD.out, gb_same HG.out⟩

end Go.Proofs.YtnlpdpbmmpeiaaaDoor
