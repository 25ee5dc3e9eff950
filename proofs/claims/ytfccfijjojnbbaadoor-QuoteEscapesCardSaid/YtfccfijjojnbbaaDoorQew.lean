/- QuoteEscapes' walk at a code point. -/
import Derived.Test.YtfccfijjojnbbaaDoorQem
import Derived.Test.YtfccfijjojnbbaaDoorWalks
namespace Go.Proofs.YtfccfijjojnbbaaDoor
open Go.RowKit

theorem wq (y : Int) (c : Int) (h0 : 0 ≤ y) (h1 : y < 4294967296) (hc : 0 < c) : wrap64 (y.tdiv c) = y / c := by
  rw [Int.tdiv_eq_ediv_of_nonneg h0]
  have h2 : 0 ≤ y / c := Int.ediv_nonneg h0 (by omega)
  have h3 : y / c ≤ y := Int.ediv_le_self _ h0
  unfold wrap64
  generalize y / c = q at *
  omega
theorem tm (y c : Int) (h0 : 0 ≤ y) : y.tmod c = y % c := Int.tmod_eq_emod_of_nonneg h0
/-- a row of numbers that has just been laid -/
theorem row_cell (w : World) (l : List Int) (t : TypeId) (j : Nat) (h : j < l.length) : (w.alloc (.cells (l.map (Value.int .i64)).toArray t)).cell? ⟨w.heap.size, j, none⟩ = some (.int .i64 (l.getD j 0)) := by
  rw [cell_of_row _ w.heap.size j _ t (0, 0) (heap_alloc_new w _)]
  simp [List.getD, h]
theorem alloc_cell {w : World} {b j : Nat} {v : Value} (o : Obj) (hb : b < w.heap.size) (h : w.cell? ⟨b, j, none⟩ = some v) : (w.alloc o).cell? ⟨b, j, none⟩ = some v := by
  rw [World.cell?_alloc_old w o _ (Nat.ne_of_lt hb)]
  exact h

set_option maxRecDepth 100000 in
set_option maxHeartbeats 4000000 in
theorem esc_one (r : Nat) (w : World) (a : Addr) (hC : CondS w a) (hp : isPt r) (h1 : r < 65536) :
    Calls Tryd.prog 6 #[.int .i64 r, .bool false] w fun e w' => e = .returned (.bool true) ∧ Below w.heap.size w w' := by
  have hL := fun w hC => alive_any w a hC
  have HC := Lib.hid hC
  have hr : r ≤ 1114111 := by unfold isPt at hp; omega
  obtain ⟨ul, hul⟩ : ∃ ul, ul = unitsOf r := ⟨_, rfl⟩
  have HV : Hid (∀ j, j < 1 → ul.getD j 0 < 65536) := by
    show ∀ j, j < 1 → ul.getD j 0 < 65536
    rw [hul]
    unfold unitsOf
    rw [if_pos h1]
    intro j hj
    obtain rfl : j = 0 := by omega
    exact h1
  have HN : Hid (ul.length = 1) := by
    show ul.length = 1
    rw [hul]
    unfold unitsOf
    rw [if_pos h1]
    rfl
  have HU : Hid (ul = [r]) := by
    show ul = _
    rw [hul]
    unfold unitsOf
    rw [if_pos h1]
  have HP : Hid (∀ O : ByteArray, Ui false ul 1 O.data.toList → (O ++ ⟨#[34]⟩ : ByteArray).data.toList = escText false r) := by
    intro O hO
    rw [app_list, hO.eq, List.take_of_length_le (by rw [HN.out]; exact Nat.le_refl _), hul]
    rfl
  have HT : Hid (⟨(encB r).toArray⟩ = strOfNums (encZ r)) := (encB_ba r).symm
  have hPR := fun (O : ByteArray) (hs : O.size ≤ 8000) (hO : Ui false ul 1 O.data.toList) (hs2 : (O ++ ⟨#[34]⟩ : ByteArray).size ≤ 8000) w hC => parse_any (O ++ ⟨#[34]⟩) w a hC hs2 (o := some (encB r)) (by rw [HP.out O hO]; exact escText_parse false hp)
  simp only [parseV] at hPR
  rw [HT.out] at hPR
  have hen := fun w => ref_encode_yes r w hp
  obtain ⟨z, hz⟩ : ∃ z : Int, z = (r : Int) := ⟨_, rfl⟩
  rw [← hz]
  have hpo := fun w => point_yes z w (by rw [hz]; exact hp)
  rw [← hz] at hen hPR
  have HZ := Lib.hid hz
  have z0 : 0 ≤ z := by omega
  have z1 : z < 65536 := by omega
  have q1 : decide (65535 < z) = false := decide_eq_false (by omega)
  clear hC hz hp h1 hr hul
  generalize strOfNums (encZ r) = T at *
  go_enter Tryd.func6, Tryd.ntmps6
  go_wp2_with fail
  refine (hL _ HC.out).mono ?_
  rintro e w1 ⟨rfl, hb1⟩
  have HC1 := Lib.hid (HC.out.below hb1)
  have HB1 := Lib.hid hb1
  clear hL hb1 HC
  go_wp2_with fail
  refine (hpo _).mono ?_
  rintro e w2 ⟨rfl, rfl⟩
  clear hpo
  go_wp2
  go_loopw [7, 9, 11, 35, 53] (fun s _ _ i _ wr => ∃ (k : Nat) (O : ByteArray), s = .string O ∧ i = .int .i64 k ∧ k ≤ 1 ∧ Hid (Ui false ul k O.data.toList) ∧ Hid (∀ j, j < 1 → wr.cell? ⟨w1.heap.size, j, none⟩ = some (.int .i64 ((ul.getD j 0 : Nat) : Int))) ∧ w1.heap.size < wr.heap.size ∧ Below w1.heap.size w1 wr) (fun _ _ _ i _ _ => 1 - (intOf i).toNat)
  case atStart =>
    refine ⟨0, ⟨#[34]⟩, rfl, rfl, by omega, ⟨rfl⟩, ?_, by simp, ?_⟩
    · intro j hj
      have hc := row_cell w1 [z] 3 j hj
      refine hc.trans ?_
      rw [HU.out]
      obtain rfl : j = 0 := by omega
      show some (Value.int .i64 z) = some (.int .i64 ((r : Nat) : Int))
      rw [HZ.out]
    · exact (Below.refl _ _).alloc (Nat.le_refl _) _
  case round =>
    obtain ⟨k, O, rfl, rfl, hk, HUI, HCE, hb0, HB⟩ := hrel
    have hBs := HB.size
    have hos := HUI.out.len
    rw [size_list] at hos
    by_cases hlt : k < 1
    · have c1 := HCE.out k hlt
      have hv := HV.out k hlt
      have HST := Lib.hid (fun O2 => HUI.out.step (O2 := O2) (by rw [HN.out]; exact hlt))
      generalize ul.getD k 0 = v at *
      obtain ⟨y, hy⟩ : ∃ y : Int, y = (v : Int) := ⟨_, rfl⟩
      rw [← hy] at c1
      have y0 : 0 ≤ y := by omega
      have y1 : y < 65536 := by omega
      obtain ⟨d0, h0⟩ : ∃ d : Int, d = y % 16 := ⟨_, rfl⟩
      have g0 : y.tmod 16 = d0 := by rw [tm _ _ y0, h0]
      have HDV : Hid (∀ j, j < 4 → [y / 4096, y / 256 % 16, y / 16 % 16, d0].getD j 0 = (((dgL v).getD j 0 : Nat) : Int)) := by
        intro j hj
        rcases (show j = 0 ∨ j = 1 ∨ j = 2 ∨ j = 3 by omega) with rfl | rfl | rfl | rfl
        · show y / 4096 = ((v / 4096 : Nat) : Int); omega
        · show y / 256 % 16 = ((v / 256 % 16 : Nat) : Int); omega
        · show y / 16 % 16 = ((v / 16 % 16 : Nat) : Int); omega
        · show d0 = ((v % 16 : Nat) : Int); omega
      have HDL := Lib.hid (dgL_lt hv)
      clear hy h0 hv
      go_wp2
      go_loopw [7, 11, 53] (fun s _ i wx => ∃ (m : Nat) (O2 : ByteArray), s = .string O2 ∧ i = .int .i64 m ∧ m ≤ 4 ∧ Hid (Di false (O.data.toList ++ [92, 117]) v m O2.data.toList) ∧ O2.size ≤ O.size + 2 + m ∧ Hid (∀ j, j < 4 → wx.cell? ⟨wr.heap.size, j, none⟩ = some (.int .i64 (((dgL v).getD j 0 : Nat) : Int))) ∧ Hid (∀ j, j < 1 → wx.cell? ⟨w1.heap.size, j, none⟩ = some (.int .i64 ((ul.getD j 0 : Nat) : Int))) ∧ w1.heap.size < wx.heap.size ∧ Below w1.heap.size w1 wx) (fun _ _ i _ => 4 - (intOf i).toNat)
      case atStart =>
        refine ⟨0, O ++ ⟨#[92, 117]⟩, rfl, rfl, by omega, ⟨?_⟩, ?_, ?_, ?_, ?_, ?_⟩
        · rw [app_list]; show _ = (O.data.toList ++ [92, 117]) ++ []; rw [List.append_nil]
        · rw [ByteArray.size_append]; exact Nat.le_refl _
        · intro j hj
          exact (row_cell wr [y / 4096, y / 256 % 16, y / 16 % 16, d0] 3 j hj).trans (by rw [HDV.out j hj])
        · intro j hj
          exact alloc_cell _ hb0 (HCE.out j hj)
        · simp; omega
        · exact HB.alloc hBs _
      case round =>
        obtain ⟨m, O2, rfl, rfl, hm, HDI, ho2, HDC, HCE2, hb02, HB2⟩ := hrel
        by_cases hm4 : m < 4
        · have c2 := HDC.out m hm4
          have hd16 := HDL.out m hm4
          have HDS := Lib.hid (fun x => HDI.out.step (x := x) hm4)
          generalize (dgL v).getD m 0 = d at *
          have hx : ((⟨#[48, 49, 50, 51, 52, 53, 54, 55, 56, 57, 97, 98, 99, 100, 101, 102]⟩ : ByteArray).extract d (d + 1)).data.toList = [hexc false d] := digT_cut false hd16
          have hxs : ((⟨#[48, 49, 50, 51, 52, 53, 54, 55, 56, 57, 97, 98, 99, 100, 101, 102]⟩ : ByteArray).extract d (d + 1)).size = 1 := by rw [← size_list, hx]; rfl
          have HX : Hid (Di false (O.data.toList ++ [92, 117]) v (m + 1) (O2 ++ (⟨#[48, 49, 50, 51, 52, 53, 54, 55, 56, 57, 97, 98, 99, 100, 101, 102]⟩ : ByteArray).extract d (d + 1)).data.toList) := by
            rw [app_list]; exact HDS.out _ hx
          have has := ByteArray.size_append (a := O2) (b := (⟨#[48, 49, 50, 51, 52, 53, 54, 55, 56, 57, 97, 98, 99, 100, 101, 102]⟩ : ByteArray).extract d (d + 1))
          rw [hxs] at has
          clear hx
          go_wp2
          go_roundw
          case rel => exact ⟨m + 1, _, rfl, by go_num, by omega, HX, by omega, HDC, HCE2, hb02, HB2⟩
          case measure => simp [intOf]; omega
        · obtain rfl : m = 4 := by omega
          have HX := Lib.hid (HST.out _ HDI.out)
          go_wp2
          go_roundw
          case rel => exact ⟨k + 1, O2, rfl, by go_num, by omega, HX, HCE2, hb02, HB2⟩
          case measure => simp [intOf]; omega
    · obtain rfl : k = 1 := by omega
      have hP := hPR O (by omega) HUI.out (by rw [ByteArray.size_append]; show O.size + 1 ≤ 8000; omega)
      have hnl := fun (w : World) => @run_eql_nil_nil_at Tryd.prog w 24 (by kernel_rfl)
      have HCr := Lib.hid (HC1.out.below HB)
      clear hPR
      go_wp2_with fail
      refine (hP _ HCr.out).mono ?_
      rintro e w5 ⟨rfl, hb5⟩
      clear hP
      go_wp2_with fail
      refine (hen _).mono ?_
      rintro e w6 ⟨rfl, hb6⟩
      clear hen
      go_wp2
      go_ret
      have h1 := HB1.out
      have h2 := h1.trans (HB.mono h1.size)
      have h3 := h2.trans (hb5.mono h2.size)
      exact ⟨ret_bool (by simp), h3.trans (hb6.mono h3.size)⟩

set_option maxRecDepth 100000 in
set_option maxHeartbeats 4000000 in
theorem esc_one_cap (r : Nat) (w : World) (a : Addr) (hC : CondS w a) (hp : isPt r) (h1 : r < 65536) :
    Calls Tryd.prog 6 #[.int .i64 r, .bool true] w fun e w' => e = .returned (.bool true) ∧ Below w.heap.size w w' := by
  have hL := fun w hC => alive_any w a hC
  have HC := Lib.hid hC
  have hr : r ≤ 1114111 := by unfold isPt at hp; omega
  obtain ⟨ul, hul⟩ : ∃ ul, ul = unitsOf r := ⟨_, rfl⟩
  have HV : Hid (∀ j, j < 1 → ul.getD j 0 < 65536) := by
    show ∀ j, j < 1 → ul.getD j 0 < 65536
    rw [hul]
    unfold unitsOf
    rw [if_pos h1]
    intro j hj
    obtain rfl : j = 0 := by omega
    exact h1
  have HN : Hid (ul.length = 1) := by
    show ul.length = 1
    rw [hul]
    unfold unitsOf
    rw [if_pos h1]
    rfl
  have HU : Hid (ul = [r]) := by
    show ul = _
    rw [hul]
    unfold unitsOf
    rw [if_pos h1]
  have HP : Hid (∀ O : ByteArray, Ui true ul 1 O.data.toList → (O ++ ⟨#[34]⟩ : ByteArray).data.toList = escText true r) := by
    intro O hO
    rw [app_list, hO.eq, List.take_of_length_le (by rw [HN.out]; exact Nat.le_refl _), hul]
    rfl
  have HT : Hid (⟨(encB r).toArray⟩ = strOfNums (encZ r)) := (encB_ba r).symm
  have hPR := fun (O : ByteArray) (hs : O.size ≤ 8000) (hO : Ui true ul 1 O.data.toList) (hs2 : (O ++ ⟨#[34]⟩ : ByteArray).size ≤ 8000) w hC => parse_any (O ++ ⟨#[34]⟩) w a hC hs2 (o := some (encB r)) (by rw [HP.out O hO]; exact escText_parse true hp)
  simp only [parseV] at hPR
  rw [HT.out] at hPR
  have hen := fun w => ref_encode_yes r w hp
  obtain ⟨z, hz⟩ : ∃ z : Int, z = (r : Int) := ⟨_, rfl⟩
  rw [← hz]
  have hpo := fun w => point_yes z w (by rw [hz]; exact hp)
  rw [← hz] at hen hPR
  have HZ := Lib.hid hz
  have z0 : 0 ≤ z := by omega
  have z1 : z < 65536 := by omega
  have q1 : decide (65535 < z) = false := decide_eq_false (by omega)
  clear hC hz hp h1 hr hul
  generalize strOfNums (encZ r) = T at *
  go_enter Tryd.func6, Tryd.ntmps6
  go_wp2_with fail
  refine (hL _ HC.out).mono ?_
  rintro e w1 ⟨rfl, hb1⟩
  have HC1 := Lib.hid (HC.out.below hb1)
  have HB1 := Lib.hid hb1
  clear hL hb1 HC
  go_wp2_with fail
  refine (hpo _).mono ?_
  rintro e w2 ⟨rfl, rfl⟩
  clear hpo
  go_wp2
  go_loopw [7, 9, 11, 35, 53] (fun s _ _ i _ wr => ∃ (k : Nat) (O : ByteArray), s = .string O ∧ i = .int .i64 k ∧ k ≤ 1 ∧ Hid (Ui true ul k O.data.toList) ∧ Hid (∀ j, j < 1 → wr.cell? ⟨w1.heap.size, j, none⟩ = some (.int .i64 ((ul.getD j 0 : Nat) : Int))) ∧ w1.heap.size < wr.heap.size ∧ Below w1.heap.size w1 wr) (fun _ _ _ i _ _ => 1 - (intOf i).toNat)
  case atStart =>
    refine ⟨0, ⟨#[34]⟩, rfl, rfl, by omega, ⟨rfl⟩, ?_, by simp, ?_⟩
    · intro j hj
      have hc := row_cell w1 [z] 3 j hj
      refine hc.trans ?_
      rw [HU.out]
      obtain rfl : j = 0 := by omega
      show some (Value.int .i64 z) = some (.int .i64 ((r : Nat) : Int))
      rw [HZ.out]
    · exact (Below.refl _ _).alloc (Nat.le_refl _) _
  case round =>
    obtain ⟨k, O, rfl, rfl, hk, HUI, HCE, hb0, HB⟩ := hrel
    have hBs := HB.size
    have hos := HUI.out.len
    rw [size_list] at hos
    by_cases hlt : k < 1
    · have c1 := HCE.out k hlt
      have hv := HV.out k hlt
      have HST := Lib.hid (fun O2 => HUI.out.step (O2 := O2) (by rw [HN.out]; exact hlt))
      generalize ul.getD k 0 = v at *
      obtain ⟨y, hy⟩ : ∃ y : Int, y = (v : Int) := ⟨_, rfl⟩
      rw [← hy] at c1
      have y0 : 0 ≤ y := by omega
      have y1 : y < 65536 := by omega
      obtain ⟨d0, h0⟩ : ∃ d : Int, d = y % 16 := ⟨_, rfl⟩
      have g0 : y.tmod 16 = d0 := by rw [tm _ _ y0, h0]
      have HDV : Hid (∀ j, j < 4 → [y / 4096, y / 256 % 16, y / 16 % 16, d0].getD j 0 = (((dgL v).getD j 0 : Nat) : Int)) := by
        intro j hj
        rcases (show j = 0 ∨ j = 1 ∨ j = 2 ∨ j = 3 by omega) with rfl | rfl | rfl | rfl
        · show y / 4096 = ((v / 4096 : Nat) : Int); omega
        · show y / 256 % 16 = ((v / 256 % 16 : Nat) : Int); omega
        · show y / 16 % 16 = ((v / 16 % 16 : Nat) : Int); omega
        · show d0 = ((v % 16 : Nat) : Int); omega
      have HDL := Lib.hid (dgL_lt hv)
      clear hy h0 hv
      go_wp2
      go_loopw [7, 11, 53] (fun s _ i wx => ∃ (m : Nat) (O2 : ByteArray), s = .string O2 ∧ i = .int .i64 m ∧ m ≤ 4 ∧ Hid (Di true (O.data.toList ++ [92, 117]) v m O2.data.toList) ∧ O2.size ≤ O.size + 2 + m ∧ Hid (∀ j, j < 4 → wx.cell? ⟨wr.heap.size, j, none⟩ = some (.int .i64 (((dgL v).getD j 0 : Nat) : Int))) ∧ Hid (∀ j, j < 1 → wx.cell? ⟨w1.heap.size, j, none⟩ = some (.int .i64 ((ul.getD j 0 : Nat) : Int))) ∧ w1.heap.size < wx.heap.size ∧ Below w1.heap.size w1 wx) (fun _ _ i _ => 4 - (intOf i).toNat)
      case atStart =>
        refine ⟨0, O ++ ⟨#[92, 117]⟩, rfl, rfl, by omega, ⟨?_⟩, ?_, ?_, ?_, ?_, ?_⟩
        · rw [app_list]; show _ = (O.data.toList ++ [92, 117]) ++ []; rw [List.append_nil]
        · rw [ByteArray.size_append]; exact Nat.le_refl _
        · intro j hj
          exact (row_cell wr [y / 4096, y / 256 % 16, y / 16 % 16, d0] 3 j hj).trans (by rw [HDV.out j hj])
        · intro j hj
          exact alloc_cell _ hb0 (HCE.out j hj)
        · simp; omega
        · exact HB.alloc hBs _
      case round =>
        obtain ⟨m, O2, rfl, rfl, hm, HDI, ho2, HDC, HCE2, hb02, HB2⟩ := hrel
        by_cases hm4 : m < 4
        · have c2 := HDC.out m hm4
          have hd16 := HDL.out m hm4
          have HDS := Lib.hid (fun x => HDI.out.step (x := x) hm4)
          generalize (dgL v).getD m 0 = d at *
          have hx : ((⟨#[48, 49, 50, 51, 52, 53, 54, 55, 56, 57, 65, 66, 67, 68, 69, 70]⟩ : ByteArray).extract d (d + 1)).data.toList = [hexc true d] := digT_cut true hd16
          have hxs : ((⟨#[48, 49, 50, 51, 52, 53, 54, 55, 56, 57, 65, 66, 67, 68, 69, 70]⟩ : ByteArray).extract d (d + 1)).size = 1 := by rw [← size_list, hx]; rfl
          have HX : Hid (Di true (O.data.toList ++ [92, 117]) v (m + 1) (O2 ++ (⟨#[48, 49, 50, 51, 52, 53, 54, 55, 56, 57, 65, 66, 67, 68, 69, 70]⟩ : ByteArray).extract d (d + 1)).data.toList) := by
            rw [app_list]; exact HDS.out _ hx
          have has := ByteArray.size_append (a := O2) (b := (⟨#[48, 49, 50, 51, 52, 53, 54, 55, 56, 57, 65, 66, 67, 68, 69, 70]⟩ : ByteArray).extract d (d + 1))
          rw [hxs] at has
          clear hx
          go_wp2
          go_roundw
          case rel => exact ⟨m + 1, _, rfl, by go_num, by omega, HX, by omega, HDC, HCE2, hb02, HB2⟩
          case measure => simp [intOf]; omega
        · obtain rfl : m = 4 := by omega
          have HX := Lib.hid (HST.out _ HDI.out)
          go_wp2
          go_roundw
          case rel => exact ⟨k + 1, O2, rfl, by go_num, by omega, HX, HCE2, hb02, HB2⟩
          case measure => simp [intOf]; omega
    · obtain rfl : k = 1 := by omega
      have hP := hPR O (by omega) HUI.out (by rw [ByteArray.size_append]; show O.size + 1 ≤ 8000; omega)
      have hnl := fun (w : World) => @run_eql_nil_nil_at Tryd.prog w 24 (by kernel_rfl)
      have HCr := Lib.hid (HC1.out.below HB)
      clear hPR
      go_wp2_with fail
      refine (hP _ HCr.out).mono ?_
      rintro e w5 ⟨rfl, hb5⟩
      clear hP
      go_wp2_with fail
      refine (hen _).mono ?_
      rintro e w6 ⟨rfl, hb6⟩
      clear hen
      go_wp2
      go_ret
      have h1 := HB1.out
      have h2 := h1.trans (HB.mono h1.size)
      have h3 := h2.trans (hb5.mono h2.size)
      exact ⟨ret_bool (by simp), h3.trans (hb6.mono h3.size)⟩

set_option maxRecDepth 100000 in
set_option maxHeartbeats 4000000 in
theorem esc_two (r : Nat) (w : World) (a : Addr) (hC : CondS w a) (hp : isPt r) (h1 : ¬ r < 65536) :
    Calls Tryd.prog 6 #[.int .i64 r, .bool false] w fun e w' => e = .returned (.bool true) ∧ Below w.heap.size w w' := by
  have hL := fun w hC => alive_any w a hC
  have HC := Lib.hid hC
  have hr : r ≤ 1114111 := by unfold isPt at hp; omega
  obtain ⟨ul, hul⟩ : ∃ ul, ul = unitsOf r := ⟨_, rfl⟩
  have HV : Hid (∀ j, j < 2 → ul.getD j 0 < 65536) := by
    show ∀ j, j < 2 → ul.getD j 0 < 65536
    rw [hul]
    unfold unitsOf
    rw [if_neg h1]
    intro j hj
    rcases (show j = 0 ∨ j = 1 by omega) with rfl | rfl
    · show 55296 + (r - 65536) / 1024 < 65536; omega
    · show 56320 + (r - 65536) % 1024 < 65536; omega
  have HN : Hid (ul.length = 2) := by
    show ul.length = 2
    rw [hul]
    unfold unitsOf
    rw [if_neg h1]
    rfl
  have HU : Hid (ul = [55296 + (r - 65536) / 1024, 56320 + (r - 65536) % 1024]) := by
    show ul = _
    rw [hul]
    unfold unitsOf
    rw [if_neg h1]
  have HP : Hid (∀ O : ByteArray, Ui false ul 2 O.data.toList → (O ++ ⟨#[34]⟩ : ByteArray).data.toList = escText false r) := by
    intro O hO
    rw [app_list, hO.eq, List.take_of_length_le (by rw [HN.out]; exact Nat.le_refl _), hul]
    rfl
  have HT : Hid (⟨(encB r).toArray⟩ = strOfNums (encZ r)) := (encB_ba r).symm
  have hPR := fun (O : ByteArray) (hs : O.size ≤ 8000) (hO : Ui false ul 2 O.data.toList) (hs2 : (O ++ ⟨#[34]⟩ : ByteArray).size ≤ 8000) w hC => parse_any (O ++ ⟨#[34]⟩) w a hC hs2 (o := some (encB r)) (by rw [HP.out O hO]; exact escText_parse false hp)
  simp only [parseV] at hPR
  rw [HT.out] at hPR
  have hen := fun w => ref_encode_yes r w hp
  obtain ⟨z, hz⟩ : ∃ z : Int, z = (r : Int) := ⟨_, rfl⟩
  rw [← hz]
  have hpo := fun w => point_yes z w (by rw [hz]; exact hp)
  rw [← hz] at hen hPR
  have HZ := Lib.hid hz
  have z0 : 65536 ≤ z := by omega
  have z1 : z ≤ 1114111 := by omega
  have q1 : decide (65535 < z) = true := decide_eq_true (by omega)
  obtain ⟨q, hqq⟩ : ∃ q : Int, q = (z - 65536) % 1024 := ⟨_, rfl⟩
  have e2 : (z - 65536).tmod 1024 = q := by rw [tm _ _ (by omega), hqq]
  have q0 : 0 ≤ q := by omega
  have q2 : q < 1024 := by omega
  have HPZ : Hid ((z - 65536) / 1024 = ((r - 65536) / 1024 : Nat) ∧ q = ((r - 65536) % 1024 : Nat)) := by
    show (z - 65536) / 1024 = _ ∧ q = _
    omega
  clear hqq
  clear hC hz hp h1 hr hul
  generalize strOfNums (encZ r) = T at *
  go_enter Tryd.func6, Tryd.ntmps6
  go_wp2_with fail
  refine (hL _ HC.out).mono ?_
  rintro e w1 ⟨rfl, hb1⟩
  have HC1 := Lib.hid (HC.out.below hb1)
  have HB1 := Lib.hid hb1
  clear hL hb1 HC
  go_wp2_with fail
  refine (hpo _).mono ?_
  rintro e w2 ⟨rfl, rfl⟩
  clear hpo
  go_wp2
  go_loopw [7, 9, 11, 35, 53] (fun s _ _ i _ wr => ∃ (k : Nat) (O : ByteArray), s = .string O ∧ i = .int .i64 k ∧ k ≤ 2 ∧ Hid (Ui false ul k O.data.toList) ∧ Hid (∀ j, j < 2 → wr.cell? ⟨(w1.heap.size + 1), j, none⟩ = some (.int .i64 ((ul.getD j 0 : Nat) : Int))) ∧ (w1.heap.size + 1) < wr.heap.size ∧ Below w1.heap.size w1 wr) (fun _ _ _ i _ _ => 2 - (intOf i).toNat)
  case atStart =>
    refine ⟨0, ⟨#[34]⟩, rfl, rfl, by omega, ⟨rfl⟩, ?_, by simp, ?_⟩
    · intro j hj
      have hc := row_cell (w1.alloc (.cells #[.int .i64 z] 3)) [55296 + (z - 65536) / 1024, 56320 + q] 3 j hj
      have hsz : (w1.alloc (.cells #[.int .i64 z] 3)).heap.size = w1.heap.size + 1 := by simp
      rw [hsz] at hc
      refine hc.trans ?_
      obtain ⟨i1, i2⟩ := HPZ.out
      rw [HU.out]
      rcases (show j = 0 ∨ j = 1 by omega) with rfl | rfl
      · show some (Value.int .i64 (55296 + (z - 65536) / 1024)) = some (.int .i64 ((55296 + (r - 65536) / 1024 : Nat) : Int))
        rw [i1]; rfl
      · show some (Value.int .i64 (56320 + q)) = some (.int .i64 ((56320 + (r - 65536) % 1024 : Nat) : Int))
        rw [i2]; rfl
    · exact ((Below.refl _ _).alloc (Nat.le_refl _) _).alloc (by simp) _
  case round =>
    obtain ⟨k, O, rfl, rfl, hk, HUI, HCE, hb0, HB⟩ := hrel
    have hBs := HB.size
    have hos := HUI.out.len
    rw [size_list] at hos
    by_cases hlt : k < 2
    · have c1 := HCE.out k hlt
      have hv := HV.out k hlt
      have HST := Lib.hid (fun O2 => HUI.out.step (O2 := O2) (by rw [HN.out]; exact hlt))
      generalize ul.getD k 0 = v at *
      obtain ⟨y, hy⟩ : ∃ y : Int, y = (v : Int) := ⟨_, rfl⟩
      rw [← hy] at c1
      have y0 : 0 ≤ y := by omega
      have y1 : y < 65536 := by omega
      obtain ⟨d0, h0⟩ : ∃ d : Int, d = y % 16 := ⟨_, rfl⟩
      have g0 : y.tmod 16 = d0 := by rw [tm _ _ y0, h0]
      have HDV : Hid (∀ j, j < 4 → [y / 4096, y / 256 % 16, y / 16 % 16, d0].getD j 0 = (((dgL v).getD j 0 : Nat) : Int)) := by
        intro j hj
        rcases (show j = 0 ∨ j = 1 ∨ j = 2 ∨ j = 3 by omega) with rfl | rfl | rfl | rfl
        · show y / 4096 = ((v / 4096 : Nat) : Int); omega
        · show y / 256 % 16 = ((v / 256 % 16 : Nat) : Int); omega
        · show y / 16 % 16 = ((v / 16 % 16 : Nat) : Int); omega
        · show d0 = ((v % 16 : Nat) : Int); omega
      have HDL := Lib.hid (dgL_lt hv)
      clear hy h0 hv
      go_wp2
      go_loopw [7, 11, 53] (fun s _ i wx => ∃ (m : Nat) (O2 : ByteArray), s = .string O2 ∧ i = .int .i64 m ∧ m ≤ 4 ∧ Hid (Di false (O.data.toList ++ [92, 117]) v m O2.data.toList) ∧ O2.size ≤ O.size + 2 + m ∧ Hid (∀ j, j < 4 → wx.cell? ⟨wr.heap.size, j, none⟩ = some (.int .i64 (((dgL v).getD j 0 : Nat) : Int))) ∧ Hid (∀ j, j < 2 → wx.cell? ⟨(w1.heap.size + 1), j, none⟩ = some (.int .i64 ((ul.getD j 0 : Nat) : Int))) ∧ (w1.heap.size + 1) < wx.heap.size ∧ Below w1.heap.size w1 wx) (fun _ _ i _ => 4 - (intOf i).toNat)
      case atStart =>
        refine ⟨0, O ++ ⟨#[92, 117]⟩, rfl, rfl, by omega, ⟨?_⟩, ?_, ?_, ?_, ?_, ?_⟩
        · rw [app_list]; show _ = (O.data.toList ++ [92, 117]) ++ []; rw [List.append_nil]
        · rw [ByteArray.size_append]; exact Nat.le_refl _
        · intro j hj
          exact (row_cell wr [y / 4096, y / 256 % 16, y / 16 % 16, d0] 3 j hj).trans (by rw [HDV.out j hj])
        · intro j hj
          exact alloc_cell _ hb0 (HCE.out j hj)
        · simp; omega
        · exact HB.alloc hBs _
      case round =>
        obtain ⟨m, O2, rfl, rfl, hm, HDI, ho2, HDC, HCE2, hb02, HB2⟩ := hrel
        by_cases hm4 : m < 4
        · have c2 := HDC.out m hm4
          have hd16 := HDL.out m hm4
          have HDS := Lib.hid (fun x => HDI.out.step (x := x) hm4)
          generalize (dgL v).getD m 0 = d at *
          have hx : ((⟨#[48, 49, 50, 51, 52, 53, 54, 55, 56, 57, 97, 98, 99, 100, 101, 102]⟩ : ByteArray).extract d (d + 1)).data.toList = [hexc false d] := digT_cut false hd16
          have hxs : ((⟨#[48, 49, 50, 51, 52, 53, 54, 55, 56, 57, 97, 98, 99, 100, 101, 102]⟩ : ByteArray).extract d (d + 1)).size = 1 := by rw [← size_list, hx]; rfl
          have HX : Hid (Di false (O.data.toList ++ [92, 117]) v (m + 1) (O2 ++ (⟨#[48, 49, 50, 51, 52, 53, 54, 55, 56, 57, 97, 98, 99, 100, 101, 102]⟩ : ByteArray).extract d (d + 1)).data.toList) := by
            rw [app_list]; exact HDS.out _ hx
          have has := ByteArray.size_append (a := O2) (b := (⟨#[48, 49, 50, 51, 52, 53, 54, 55, 56, 57, 97, 98, 99, 100, 101, 102]⟩ : ByteArray).extract d (d + 1))
          rw [hxs] at has
          clear hx
          go_wp2
          go_roundw
          case rel => exact ⟨m + 1, _, rfl, by go_num, by omega, HX, by omega, HDC, HCE2, hb02, HB2⟩
          case measure => simp [intOf]; omega
        · obtain rfl : m = 4 := by omega
          have HX := Lib.hid (HST.out _ HDI.out)
          go_wp2
          go_roundw
          case rel => exact ⟨k + 1, O2, rfl, by go_num, by omega, HX, HCE2, hb02, HB2⟩
          case measure => simp [intOf]; omega
    · obtain rfl : k = 2 := by omega
      have hP := hPR O (by omega) HUI.out (by rw [ByteArray.size_append]; show O.size + 1 ≤ 8000; omega)
      have hnl := fun (w : World) => @run_eql_nil_nil_at Tryd.prog w 24 (by kernel_rfl)
      have HCr := Lib.hid (HC1.out.below HB)
      clear hPR
      go_wp2_with fail
      refine (hP _ HCr.out).mono ?_
      rintro e w5 ⟨rfl, hb5⟩
      clear hP
      go_wp2_with fail
      refine (hen _).mono ?_
      rintro e w6 ⟨rfl, hb6⟩
      clear hen
      go_wp2
      go_ret
      have h1 := HB1.out
      have h2 := h1.trans (HB.mono h1.size)
      have h3 := h2.trans (hb5.mono h2.size)
      exact ⟨ret_bool (by simp), h3.trans (hb6.mono h3.size)⟩

set_option maxRecDepth 100000 in
set_option maxHeartbeats 4000000 in
theorem esc_two_cap (r : Nat) (w : World) (a : Addr) (hC : CondS w a) (hp : isPt r) (h1 : ¬ r < 65536) :
    Calls Tryd.prog 6 #[.int .i64 r, .bool true] w fun e w' => e = .returned (.bool true) ∧ Below w.heap.size w w' := by
  have hL := fun w hC => alive_any w a hC
  have HC := Lib.hid hC
  have hr : r ≤ 1114111 := by unfold isPt at hp; omega
  obtain ⟨ul, hul⟩ : ∃ ul, ul = unitsOf r := ⟨_, rfl⟩
  have HV : Hid (∀ j, j < 2 → ul.getD j 0 < 65536) := by
    show ∀ j, j < 2 → ul.getD j 0 < 65536
    rw [hul]
    unfold unitsOf
    rw [if_neg h1]
    intro j hj
    rcases (show j = 0 ∨ j = 1 by omega) with rfl | rfl
    · show 55296 + (r - 65536) / 1024 < 65536; omega
    · show 56320 + (r - 65536) % 1024 < 65536; omega
  have HN : Hid (ul.length = 2) := by
    show ul.length = 2
    rw [hul]
    unfold unitsOf
    rw [if_neg h1]
    rfl
  have HU : Hid (ul = [55296 + (r - 65536) / 1024, 56320 + (r - 65536) % 1024]) := by
    show ul = _
    rw [hul]
    unfold unitsOf
    rw [if_neg h1]
  have HP : Hid (∀ O : ByteArray, Ui true ul 2 O.data.toList → (O ++ ⟨#[34]⟩ : ByteArray).data.toList = escText true r) := by
    intro O hO
    rw [app_list, hO.eq, List.take_of_length_le (by rw [HN.out]; exact Nat.le_refl _), hul]
    rfl
  have HT : Hid (⟨(encB r).toArray⟩ = strOfNums (encZ r)) := (encB_ba r).symm
  have hPR := fun (O : ByteArray) (hs : O.size ≤ 8000) (hO : Ui true ul 2 O.data.toList) (hs2 : (O ++ ⟨#[34]⟩ : ByteArray).size ≤ 8000) w hC => parse_any (O ++ ⟨#[34]⟩) w a hC hs2 (o := some (encB r)) (by rw [HP.out O hO]; exact escText_parse true hp)
  simp only [parseV] at hPR
  rw [HT.out] at hPR
  have hen := fun w => ref_encode_yes r w hp
  obtain ⟨z, hz⟩ : ∃ z : Int, z = (r : Int) := ⟨_, rfl⟩
  rw [← hz]
  have hpo := fun w => point_yes z w (by rw [hz]; exact hp)
  rw [← hz] at hen hPR
  have HZ := Lib.hid hz
  have z0 : 65536 ≤ z := by omega
  have z1 : z ≤ 1114111 := by omega
  have q1 : decide (65535 < z) = true := decide_eq_true (by omega)
  obtain ⟨q, hqq⟩ : ∃ q : Int, q = (z - 65536) % 1024 := ⟨_, rfl⟩
  have e2 : (z - 65536).tmod 1024 = q := by rw [tm _ _ (by omega), hqq]
  have q0 : 0 ≤ q := by omega
  have q2 : q < 1024 := by omega
  have HPZ : Hid ((z - 65536) / 1024 = ((r - 65536) / 1024 : Nat) ∧ q = ((r - 65536) % 1024 : Nat)) := by
    show (z - 65536) / 1024 = _ ∧ q = _
    omega
  clear hqq
  clear hC hz hp h1 hr hul
  generalize strOfNums (encZ r) = T at *
  go_enter Tryd.func6, Tryd.ntmps6
  go_wp2_with fail
  refine (hL _ HC.out).mono ?_
  rintro e w1 ⟨rfl, hb1⟩
  have HC1 := Lib.hid (HC.out.below hb1)
  have HB1 := Lib.hid hb1
  clear hL hb1 HC
  go_wp2_with fail
  refine (hpo _).mono ?_
  rintro e w2 ⟨rfl, rfl⟩
  clear hpo
  go_wp2
  go_loopw [7, 9, 11, 35, 53] (fun s _ _ i _ wr => ∃ (k : Nat) (O : ByteArray), s = .string O ∧ i = .int .i64 k ∧ k ≤ 2 ∧ Hid (Ui true ul k O.data.toList) ∧ Hid (∀ j, j < 2 → wr.cell? ⟨(w1.heap.size + 1), j, none⟩ = some (.int .i64 ((ul.getD j 0 : Nat) : Int))) ∧ (w1.heap.size + 1) < wr.heap.size ∧ Below w1.heap.size w1 wr) (fun _ _ _ i _ _ => 2 - (intOf i).toNat)
  case atStart =>
    refine ⟨0, ⟨#[34]⟩, rfl, rfl, by omega, ⟨rfl⟩, ?_, by simp, ?_⟩
    · intro j hj
      have hc := row_cell (w1.alloc (.cells #[.int .i64 z] 3)) [55296 + (z - 65536) / 1024, 56320 + q] 3 j hj
      have hsz : (w1.alloc (.cells #[.int .i64 z] 3)).heap.size = w1.heap.size + 1 := by simp
      rw [hsz] at hc
      refine hc.trans ?_
      obtain ⟨i1, i2⟩ := HPZ.out
      rw [HU.out]
      rcases (show j = 0 ∨ j = 1 by omega) with rfl | rfl
      · show some (Value.int .i64 (55296 + (z - 65536) / 1024)) = some (.int .i64 ((55296 + (r - 65536) / 1024 : Nat) : Int))
        rw [i1]; rfl
      · show some (Value.int .i64 (56320 + q)) = some (.int .i64 ((56320 + (r - 65536) % 1024 : Nat) : Int))
        rw [i2]; rfl
    · exact ((Below.refl _ _).alloc (Nat.le_refl _) _).alloc (by simp) _
  case round =>
    obtain ⟨k, O, rfl, rfl, hk, HUI, HCE, hb0, HB⟩ := hrel
    have hBs := HB.size
    have hos := HUI.out.len
    rw [size_list] at hos
    by_cases hlt : k < 2
    · have c1 := HCE.out k hlt
      have hv := HV.out k hlt
      have HST := Lib.hid (fun O2 => HUI.out.step (O2 := O2) (by rw [HN.out]; exact hlt))
      generalize ul.getD k 0 = v at *
      obtain ⟨y, hy⟩ : ∃ y : Int, y = (v : Int) := ⟨_, rfl⟩
      rw [← hy] at c1
      have y0 : 0 ≤ y := by omega
      have y1 : y < 65536 := by omega
      obtain ⟨d0, h0⟩ : ∃ d : Int, d = y % 16 := ⟨_, rfl⟩
      have g0 : y.tmod 16 = d0 := by rw [tm _ _ y0, h0]
      have HDV : Hid (∀ j, j < 4 → [y / 4096, y / 256 % 16, y / 16 % 16, d0].getD j 0 = (((dgL v).getD j 0 : Nat) : Int)) := by
        intro j hj
        rcases (show j = 0 ∨ j = 1 ∨ j = 2 ∨ j = 3 by omega) with rfl | rfl | rfl | rfl
        · show y / 4096 = ((v / 4096 : Nat) : Int); omega
        · show y / 256 % 16 = ((v / 256 % 16 : Nat) : Int); omega
        · show y / 16 % 16 = ((v / 16 % 16 : Nat) : Int); omega
        · show d0 = ((v % 16 : Nat) : Int); omega
      have HDL := Lib.hid (dgL_lt hv)
      clear hy h0 hv
      go_wp2
      go_loopw [7, 11, 53] (fun s _ i wx => ∃ (m : Nat) (O2 : ByteArray), s = .string O2 ∧ i = .int .i64 m ∧ m ≤ 4 ∧ Hid (Di true (O.data.toList ++ [92, 117]) v m O2.data.toList) ∧ O2.size ≤ O.size + 2 + m ∧ Hid (∀ j, j < 4 → wx.cell? ⟨wr.heap.size, j, none⟩ = some (.int .i64 (((dgL v).getD j 0 : Nat) : Int))) ∧ Hid (∀ j, j < 2 → wx.cell? ⟨(w1.heap.size + 1), j, none⟩ = some (.int .i64 ((ul.getD j 0 : Nat) : Int))) ∧ (w1.heap.size + 1) < wx.heap.size ∧ Below w1.heap.size w1 wx) (fun _ _ i _ => 4 - (intOf i).toNat)
      case atStart =>
        refine ⟨0, O ++ ⟨#[92, 117]⟩, rfl, rfl, by omega, ⟨?_⟩, ?_, ?_, ?_, ?_, ?_⟩
        · rw [app_list]; show _ = (O.data.toList ++ [92, 117]) ++ []; rw [List.append_nil]
        · rw [ByteArray.size_append]; exact Nat.le_refl _
        · intro j hj
          exact (row_cell wr [y / 4096, y / 256 % 16, y / 16 % 16, d0] 3 j hj).trans (by rw [HDV.out j hj])
        · intro j hj
          exact alloc_cell _ hb0 (HCE.out j hj)
        · simp; omega
        · exact HB.alloc hBs _
      case round =>
        obtain ⟨m, O2, rfl, rfl, hm, HDI, ho2, HDC, HCE2, hb02, HB2⟩ := hrel
        by_cases hm4 : m < 4
        · have c2 := HDC.out m hm4
          have hd16 := HDL.out m hm4
          have HDS := Lib.hid (fun x => HDI.out.step (x := x) hm4)
          generalize (dgL v).getD m 0 = d at *
          have hx : ((⟨#[48, 49, 50, 51, 52, 53, 54, 55, 56, 57, 65, 66, 67, 68, 69, 70]⟩ : ByteArray).extract d (d + 1)).data.toList = [hexc true d] := digT_cut true hd16
          have hxs : ((⟨#[48, 49, 50, 51, 52, 53, 54, 55, 56, 57, 65, 66, 67, 68, 69, 70]⟩ : ByteArray).extract d (d + 1)).size = 1 := by rw [← size_list, hx]; rfl
          have HX : Hid (Di true (O.data.toList ++ [92, 117]) v (m + 1) (O2 ++ (⟨#[48, 49, 50, 51, 52, 53, 54, 55, 56, 57, 65, 66, 67, 68, 69, 70]⟩ : ByteArray).extract d (d + 1)).data.toList) := by
            rw [app_list]; exact HDS.out _ hx
          have has := ByteArray.size_append (a := O2) (b := (⟨#[48, 49, 50, 51, 52, 53, 54, 55, 56, 57, 65, 66, 67, 68, 69, 70]⟩ : ByteArray).extract d (d + 1))
          rw [hxs] at has
          clear hx
          go_wp2
          go_roundw
          case rel => exact ⟨m + 1, _, rfl, by go_num, by omega, HX, by omega, HDC, HCE2, hb02, HB2⟩
          case measure => simp [intOf]; omega
        · obtain rfl : m = 4 := by omega
          have HX := Lib.hid (HST.out _ HDI.out)
          go_wp2
          go_roundw
          case rel => exact ⟨k + 1, O2, rfl, by go_num, by omega, HX, HCE2, hb02, HB2⟩
          case measure => simp [intOf]; omega
    · obtain rfl : k = 2 := by omega
      have hP := hPR O (by omega) HUI.out (by rw [ByteArray.size_append]; show O.size + 1 ≤ 8000; omega)
      have hnl := fun (w : World) => @run_eql_nil_nil_at Tryd.prog w 24 (by kernel_rfl)
      have HCr := Lib.hid (HC1.out.below HB)
      clear hPR
      go_wp2_with fail
      refine (hP _ HCr.out).mono ?_
      rintro e w5 ⟨rfl, hb5⟩
      clear hP
      go_wp2_with fail
      refine (hen _).mono ?_
      rintro e w6 ⟨rfl, hb6⟩
      clear hen
      go_wp2
      go_ret
      have h1 := HB1.out
      have h2 := h1.trans (HB.mono h1.size)
      have h3 := h2.trans (hb5.mono h2.size)
      exact ⟨ret_bool (by simp), h3.trans (hb6.mono h3.size)⟩

end Go.Proofs.YtfccfijjojnbbaaDoor
