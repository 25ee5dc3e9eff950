/- The law of package glob on what is filled in, walked: it returns true, in any world. -/
import Derived.Test.YtpkhcelakfdjfaaDoorDc
namespace Go.Proofs.YtpkhcelakfdjfaaDoor
open Go.RowKit Go.Shelf

theorem str_cells (f : ByteArray) : Lib.strCells f = bv f.data.toList := rfl
theorem take_mB (p : ByteArray) (i : Nat) (h : i < p.size) : p.data.toList.take (i + 1) = p.data.toList.take i ++ [p[i]] := by
  rw [List.take_succ_eq_append_getElem (by rw [size_list]; exact h), getL _ _ h]
/-- what was filled so far -/
def Fl (p : ByteArray) (i : Nat) (l : List UInt8) : Prop := mB (p.data.toList.take i) l = true
theorem Fl.one {p : ByteArray} {i : Nat} {l : List UInt8} (h : Fl p i l) (hi : i < p.size) (hc : p[i] ≠ 42) : Fl p (i + 1) (l ++ [p[i]]) := by
  unfold Fl; rw [take_mB p i hi]; exact fill_one h hc
theorem Fl.star {p : ByteArray} {i : Nat} {l : List UInt8} (h : Fl p i l) (hi : i < p.size) (hc : p[i] = 42) (f : List UInt8) : Fl p (i + 1) (l ++ f) := by
  unfold Fl; rw [take_mB p i hi, hc]; exact fill_star h f
theorem Fl.skip {p : ByteArray} {i : Nat} {l : List UInt8} (h : Fl p i l) (hi : i < p.size) (hc : p[i] = 42) : Fl p (i + 1) l := by
  have := h.star hi hc []
  rwa [List.append_nil] at this
theorem Fl.all {p : ByteArray} {l : List UInt8} (h : Fl p p.size l) : mB p.data.toList l = true := by
  unfold Fl at h
  rwa [List.take_of_length_le (by rw [size_list]; exact Nat.le_refl _)] at h

set_option maxRecDepth 100000 in
set_option maxHeartbeats 4000000 in
theorem filled_none (p : ByteArray) (ao : Option Addr) (cap : Nat) (m : Int) (w : World) (hp : p.size ≤ 100) (hm : w.cell? ⟨0, 0, none⟩ = some (.int .i64 m)) : Calls Tryd.prog 4 #[.string p, .slice ao 0 cap] w (Yes w) := by
  obtain ⟨i0, hi, hz0, hz1, hz2⟩ := info_parts byteInfo
  have HM := Lib.hid hm
  clear hm
  go_enter Tryd.func4, Tryd.ntmps4
  go_wp2_with (go_at_call 5; refine (alive_any _).mono ?_; rintro e w' ⟨rfl, n, rfl⟩)
  have B0 : Hid (Below w.heap.size w (w.drewN n)) := below_dr
  go_loopw [5, 6, 7, 21] (fun v vk _ vi wr => ∃ (i kk : Nat) (l : List UInt8), i ≤ p.size ∧ vi = .int .i64 i ∧ vk = .int .i64 kk ∧ kk ≤ i ∧ l.length ≤ 50 * i ∧ Below w.heap.size w wr ∧ wr.ownsRow w.heap.size 5 1 v l.length (bv l) ∧ Hid (Fl p i l)) (fun _ _ _ vi _ => p.size - (intOf vi).toNat)
  case atStart => exact ⟨0, 0, [], Nat.zero_le _, rfl, rfl, Nat.le_refl _, Nat.le_refl _, below_dr.alloc (Nat.le_refl _) _, World.ownsRow_lit (w.drewN n) #[] 0 (Nat.le_refl _) (by unfold maxLen; omega) rfl, rfl⟩
  case round =>
    clear B0
    obtain ⟨i, kk, l, hi2, rfl, rfl, hki, hll, HB, hown, HF⟩ := hrel
    have hsz := HB.size
    have HBB := Lib.hid HB
    have hlt2 := hown.lt
    have HLT := Lib.hid hlt2
    clear hlt2 HB
    by_cases hlt : i < p.size
    · by_cases hc : p[i] = 42
      · have e1 : ((p[i].toNat : Int) != 42) = false := by rw [bne, byte_lit, decide_eq_true hc]; rfl
        have HF2 : Hid (Fl p (i + 1) l) := HF.out.skip hlt hc
        have e2 : decide ((kk : Int) < 0) = false := decide_eq_false (by omega)
        clear hc HF
        go_wp2
        all_goals (try (exfalso; omega))
        go_roundw
        case rel => exact ⟨i + 1, kk, l, by omega, by go_num, rfl, by omega, by omega, HBB.out, hown, HF2⟩
        case measure => simp [intOf]; omega
      · have e1 : ((p[i].toNat : Int) != 42) = true := by rw [bne, byte_lit, decide_eq_false hc]; rfl
        have HF2 : Hid (Fl p (i + 1) (l ++ [p[i]])) := HF.out.one hlt hc
        have HV : Hid (bv l ++ [.int .u8 (p[i].toNat : Int)] = bv (l ++ [p[i]])) := by rw [bv_append]; exact rfl
        clear hc HF
        go_wp2_with (at_builtin; refine wpList_append_own _ rfl _ _ 27 rfl w.heap.size 5 i0 (.int .u8 0) 1 1 Tryd.underlying27 hi hz0 hz1 hz2 rfl (by decide) _ _ _ rfl (hown.alloc _) ⟨wr.heap.size, 0, none⟩ 1 1 [.int .u8 (p[i].toNat : Int)] rfl rfl ?c1 ?c2 ?c3 ?c4 ?c5 ?_)
        case c1 =>
          intro j u hu
          have h1 := cell_of_row _ wr.heap.size j _ 5 (0, 0) (heap_alloc_new wr (.cells #[.int .u8 (p[i].toNat : Int)] 5))
          rw [add_none, h1]
          simpa using hu
        case c2 => intro u hu; simp at hu; subst hu; rfl
        case c3 => unfold maxLen; omega
        case c4 => omega
        case c5 => simp; omega
        intro v' w2 hown2 hg2 _
        have HB2 := Lib.hid ((HBB.out.alloc hsz _).grown hg2 (by simp; omega) (fun g hg' => (HLT.out g hg').1))
        rw [HV.out] at hown2
        have HO2 : Hid (w2.ownsRow w.heap.size 5 1 v' (l ++ [p[i]]).length (bv (l ++ [p[i]]))) := by
          refine Lib.hid ?_
          rw [List.length_append, List.length_singleton]; exact hown2
        clear hown2 hg2 hown
        go_wp2
        go_roundw
        case rel => exact ⟨i + 1, kk, l ++ [p[i]], by omega, by go_num, rfl, by omega, by simp; omega, HB2.out, HO2.out, HF2⟩
        case measure => simp [intOf]; omega
    · have hz : i = p.size := by omega
      have hcv := cv_bytes hown
      have h1 : mB p.data.toList l = true := by have := HF.out; rw [hz] at this; exact this.all
      have M1 : Hid (wr.cell? ⟨0, 0, none⟩ = some (.int .i64 m)) := max_at HM.out HBB.out
      have q1 := fun w => match_is p ⟨l.toArray⟩ true h1 w (by omega) (by rw [← size_list]; show l.length ≤ _; omega)
      have q2 := fun w hm => least_any p m w hm (by omega)
      have q3 := fun w => match_is p ⟨(p.data.toList.filter (· != 42)).toArray⟩ true (least_ok _) w (by omega) (by rw [← size_list]; show (List.filter _ _).length ≤ _; have := List.length_filter_le (fun c : UInt8 => c != 42) p.data.toList; rw [size_list] at this; omega)
      obtain ⟨S1, hS1⟩ : ∃ S : ByteArray, (⟨l.toArray⟩ : ByteArray) = S := ⟨_, rfl⟩
      obtain ⟨S2, hS2⟩ : ∃ S : ByteArray, (⟨(p.data.toList.filter (· != 42)).toArray⟩ : ByteArray) = S := ⟨_, rfl⟩
      rw [hS1] at q1 hcv
      rw [hS2] at q2 q3
      clear hS1 hS2 h1 HF hz
      go_wp2_with fail
      refine (q1 _).mono ?_
      rintro e w2 ⟨rfl, n2, rfl⟩
      have B2 : Hid (Below w.heap.size w (wr.drewN n2)) := HBB.out.trans below_dr
      have M2 := Lib.hid (max_at HM.out B2.out)
      clear hcv q1 M1
      go_wp2_with fail
      refine (q2 _ M2.out).mono ?_
      rintro e w3 ⟨rfl, h3⟩
      have B3 := Lib.hid (B2.out.trans (h3.mono B2.out.size))
      clear h3 B2 q2
      go_wp2_with fail
      refine (q3 _).mono ?_
      rintro e w4 ⟨rfl, n4, rfl⟩
      have B4 : Hid (Below w.heap.size w (w3.drewN n4)) := B3.out.trans below_dr
      clear q3
      go_wp2
      go_ret
      exact ⟨rfl, B4.out⟩

set_option maxRecDepth 100000 in
set_option maxHeartbeats 4000000 in
theorem filled_some (p : ByteArray) (b off : Nat) (cap : Nat) (nf : Nat) (ss : List ByteArray) (m : Int) (w : World) (hp : p.size ≤ 100) (hm : w.cell? ⟨0, 0, none⟩ = some (.int .i64 m)) (hnf : nf ≤ 100) (_hncap : nf ≤ cap) (_hcm : cap ≤ maxLen) (hb : b < w.heap.size) (hcell : ∀ j, j < nf → w.cell? ⟨b, off + j, none⟩ = some (.string (ss.getD j ByteArray.empty))) (hss : ∀ j, j < nf → (ss.getD j ByteArray.empty).size ≤ maxLen) : Calls Tryd.prog 4 #[.string p, .slice (some ⟨b, off, none⟩) nf cap] w (Yes w) := by
  obtain ⟨i0, hi, hz0, hz1, hz2⟩ := info_parts byteInfo
  have HM := Lib.hid hm
  have HCE := Lib.hid hcell
  have HSS := Lib.hid hss
  clear hcell hss
  unfold maxLen at _hcm
  clear hm
  go_enter Tryd.func4, Tryd.ntmps4
  go_wp2_with (go_at_call 5; refine (alive_any _).mono ?_; rintro e w' ⟨rfl, n, rfl⟩)
  have B0 : Hid (Below w.heap.size w (w.drewN n)) := below_dr
  go_loopw [5, 6, 7, 21] (fun v vk _ vi wr => ∃ (i kk : Nat) (l : List UInt8), i ≤ p.size ∧ vi = .int .i64 i ∧ vk = .int .i64 kk ∧ kk ≤ i ∧ l.length ≤ 50 * i ∧ Below w.heap.size w wr ∧ wr.ownsRow w.heap.size 5 1 v l.length (bv l) ∧ Hid (Fl p i l)) (fun _ _ _ vi _ => p.size - (intOf vi).toNat)
  case atStart => exact ⟨0, 0, [], Nat.zero_le _, rfl, rfl, Nat.le_refl _, Nat.le_refl _, below_dr.alloc (Nat.le_refl _) _, World.ownsRow_lit (w.drewN n) #[] 0 (Nat.le_refl _) (by unfold maxLen; omega) rfl, rfl⟩
  case round =>
    clear B0
    obtain ⟨i, kk, l, hi2, rfl, rfl, hki, hll, HB, hown, HF⟩ := hrel
    have hsz := HB.size
    have HBB := Lib.hid HB
    have hlt2 := hown.lt
    have HLT := Lib.hid hlt2
    clear hlt2 HB
    by_cases hlt : i < p.size
    · by_cases hc : p[i] = 42
      · have e1 : ((p[i].toNat : Int) != 42) = false := by rw [bne, byte_lit, decide_eq_true hc]; rfl
        by_cases hkn : kk < nf
        · have e2 : decide (kk < nf) = true := decide_eq_true hkn
          obtain ⟨f, hf⟩ : ∃ f, ss.getD kk ByteArray.empty = f := ⟨_, rfl⟩
          have hfs : f.size ≤ 9223372036854775807 := by have := HSS.out kk hkn; rw [hf] at this; exact this
          have hcf : wr.cell? ⟨b, off + kk, none⟩ = some (.string f) := by
            rw [← hf]
            exact (HBB.out.cell (p := ⟨b, off + kk, none⟩) hb).trans (HCE.out kk hkn)
          clear hf
          by_cases h50 : 50 < f.size
          · clear hc HF
            go_wp2
            go_ret
            exact ⟨rfl, HBB.out⟩
          · have h51 : f.size ≤ 50 := by omega
            have HF2 : Hid (Fl p (i + 1) (l ++ f.data.toList)) := HF.out.star hlt hc _
            clear hc HF h50
            go_wp2_with (at_builtin; refine Lib.wpList_append_own_string _ rfl _ _ 27 9 rfl w.heap.size 5 i0 Tryd.underlying27 Tryd.underlying9 hi hz0 hz1 hz2 _ _ _ rfl hown f rfl ?d1 ?d2 ?d3 ?_)
            case d1 => unfold maxLen; omega
            case d2 => omega
            case d3 => exact hsz
            intro v' w2 hown2 hg2 _
            have HB2 := Lib.hid (HBB.out.grown hg2 hsz (fun g hg' => (HLT.out g hg').1))
            rw [str_cells, ← bv_append] at hown2
            have HO2 : Hid (w2.ownsRow w.heap.size 5 1 v' (l ++ f.data.toList).length (bv (l ++ f.data.toList))) := by
              refine Lib.hid ?_
              rw [List.length_append, size_list]; exact hown2
            clear hown2 hg2 hown hcf
            go_wp2
            go_roundw
            case rel => exact ⟨i + 1, kk + 1, l ++ f.data.toList, by omega, by go_num, by go_num, by omega, by rw [List.length_append, size_list]; omega, HB2.out, HO2.out, HF2⟩
            case measure => simp [intOf]; omega
        · have e2 : decide (kk < nf) = false := decide_eq_false hkn
          have HF2 : Hid (Fl p (i + 1) l) := HF.out.skip hlt hc
          clear hc HF
          go_wp2
          go_roundw
          case rel => exact ⟨i + 1, kk, l, by omega, by go_num, rfl, by omega, by omega, HBB.out, hown, HF2⟩
          case measure => simp [intOf]; omega
      · have e1 : ((p[i].toNat : Int) != 42) = true := by rw [bne, byte_lit, decide_eq_false hc]; rfl
        have HF2 : Hid (Fl p (i + 1) (l ++ [p[i]])) := HF.out.one hlt hc
        have HV : Hid (bv l ++ [.int .u8 (p[i].toNat : Int)] = bv (l ++ [p[i]])) := by rw [bv_append]; exact rfl
        clear hc HF
        go_wp2_with (at_builtin; refine wpList_append_own _ rfl _ _ 27 rfl w.heap.size 5 i0 (.int .u8 0) 1 1 Tryd.underlying27 hi hz0 hz1 hz2 rfl (by decide) _ _ _ rfl (hown.alloc _) ⟨wr.heap.size, 0, none⟩ 1 1 [.int .u8 (p[i].toNat : Int)] rfl rfl ?c1 ?c2 ?c3 ?c4 ?c5 ?_)
        case c1 =>
          intro j u hu
          have h1 := cell_of_row _ wr.heap.size j _ 5 (0, 0) (heap_alloc_new wr (.cells #[.int .u8 (p[i].toNat : Int)] 5))
          rw [add_none, h1]
          simpa using hu
        case c2 => intro u hu; simp at hu; subst hu; rfl
        case c3 => unfold maxLen; omega
        case c4 => omega
        case c5 => simp; omega
        intro v' w2 hown2 hg2 _
        have HB2 := Lib.hid ((HBB.out.alloc hsz _).grown hg2 (by simp; omega) (fun g hg' => (HLT.out g hg').1))
        rw [HV.out] at hown2
        have HO2 : Hid (w2.ownsRow w.heap.size 5 1 v' (l ++ [p[i]]).length (bv (l ++ [p[i]]))) := by
          refine Lib.hid ?_
          rw [List.length_append, List.length_singleton]; exact hown2
        clear hown2 hg2 hown
        go_wp2
        go_roundw
        case rel => exact ⟨i + 1, kk, l ++ [p[i]], by omega, by go_num, rfl, by omega, by simp; omega, HB2.out, HO2.out, HF2⟩
        case measure => simp [intOf]; omega
    · have hz : i = p.size := by omega
      have hcv := cv_bytes hown
      have h1 : mB p.data.toList l = true := by have := HF.out; rw [hz] at this; exact this.all
      have M1 : Hid (wr.cell? ⟨0, 0, none⟩ = some (.int .i64 m)) := max_at HM.out HBB.out
      have q1 := fun w => match_is p ⟨l.toArray⟩ true h1 w (by omega) (by rw [← size_list]; show l.length ≤ _; omega)
      have q2 := fun w hm => least_any p m w hm (by omega)
      have q3 := fun w => match_is p ⟨(p.data.toList.filter (· != 42)).toArray⟩ true (least_ok _) w (by omega) (by rw [← size_list]; show (List.filter _ _).length ≤ _; have := List.length_filter_le (fun c : UInt8 => c != 42) p.data.toList; rw [size_list] at this; omega)
      obtain ⟨S1, hS1⟩ : ∃ S : ByteArray, (⟨l.toArray⟩ : ByteArray) = S := ⟨_, rfl⟩
      obtain ⟨S2, hS2⟩ : ∃ S : ByteArray, (⟨(p.data.toList.filter (· != 42)).toArray⟩ : ByteArray) = S := ⟨_, rfl⟩
      rw [hS1] at q1 hcv
      rw [hS2] at q2 q3
      clear hS1 hS2 h1 HF hz
      go_wp2_with fail
      refine (q1 _).mono ?_
      rintro e w2 ⟨rfl, n2, rfl⟩
      have B2 : Hid (Below w.heap.size w (wr.drewN n2)) := HBB.out.trans below_dr
      have M2 := Lib.hid (max_at HM.out B2.out)
      clear hcv q1 M1
      go_wp2_with fail
      refine (q2 _ M2.out).mono ?_
      rintro e w3 ⟨rfl, h3⟩
      have B3 := Lib.hid (B2.out.trans (h3.mono B2.out.size))
      clear h3 B2 q2
      go_wp2_with fail
      refine (q3 _).mono ?_
      rintro e w4 ⟨rfl, n4, rfl⟩
      have B4 : Hid (Below w.heap.size w (w3.drewN n4)) := B3.out.trans below_dr
      clear q3
      go_wp2
      go_ret
      exact ⟨rfl, B4.out⟩

set_option maxHeartbeats 2000000 in
theorem filled_long (p : ByteArray) (ao : Option Addr) (nf cap : Nat) (w : World) (hp0 : p.size ≤ maxLen) (hn0 : nf ≤ maxLen) (hl : 100 < p.size ∨ 100 < nf) : Calls Tryd.prog 4 #[.string p, .slice ao nf cap] w (Yes w) := by
  unfold maxLen at hp0 hn0
  by_cases h1 : 100 < p.size
  · clear hl
    go_enter Tryd.func4, Tryd.ntmps4
    go_wp2_with (go_at_call 5; refine (alive_any _).mono ?_; rintro e w' ⟨rfl, n, rfl⟩)
    go_ret
    exact ⟨rfl, below_dr⟩
  · have h2 : 100 < nf := by omega
    clear hl
    go_enter Tryd.func4, Tryd.ntmps4
    go_wp2_with (go_at_call 5; refine (alive_any _).mono ?_; rintro e w' ⟨rfl, n, rfl⟩)
    go_ret
    exact ⟨rfl, below_dr⟩

end Go.Proofs.YtpkhcelakfdjfaaDoor
