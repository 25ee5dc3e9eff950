/- The document's Value: a whole number's text's number. -/
import Derived.Test.YtnejlfkbnbbgfaaDoorScan
namespace Go.Proofs.YtnejlfkbnbbgfaaDoor
open Go.RowKit

theorem val_snoc {s : ByteArray} {k : Nat} (h : k < s.size) : valFrom 0 (s.data.toList.take (k + 1)) = valFrom 0 (s.data.toList.take k) * 10 + (s[k].toNat - 48) := by
  rw [List.take_succ_eq_append_getElem (by rw [size_list]; exact h), valFrom_append, valFrom_cons, valFrom_nil]; rfl
theorem val_prefix (l : List UInt8) (k : Nat) : valFrom 0 (l.take k) ≤ valFrom 0 l := by
  have h := valFrom_append 0 (l.take k) (l.drop k)
  rw [List.take_append_drop] at h
  rw [h]
  exact valFrom_le _ _
theorem tdiv_eq (d : Int) (h0 : 0 ≤ d) (h9 : d ≤ 9) : (-9223372036854775808 + d).tdiv 10 = -((9223372036854775808 - d) / 10) := by
  rw [show -9223372036854775808 + d = -(9223372036854775808 - d) by omega, Int.neg_tdiv, Int.tdiv_eq_ediv_of_nonneg (by omega)]

/-- the text behind a sign -/
def Behind (s t : ByteArray) (less : Bool) : Prop := ∃ h : 0 < s.size, (less = true ∧ s[0].toNat = 45 ∧ t = s.extract 1 s.size) ∨ (less = false ∧ ¬ s[0].toNat = 45 ∧ t = s)

def valRes (less : Bool) (n : Nat) : Value :=
  if less then .tuple #[.int .i64 (-(n : Int)), .bool true] else if n = 9223372036854775808 then .tuple #[.int .i64 0, .bool false] else .tuple #[.int .i64 n, .bool true]
theorem valRes_t (n : Nat) : valRes true n = .tuple #[.int .i64 (-(n : Int)), .bool true] := rfl
theorem valRes_f {n : Nat} (h : n ≠ 9223372036854775808) : valRes false n = .tuple #[.int .i64 n, .bool true] := by unfold valRes; rw [if_neg (by simp), if_neg h]
theorem valRes_m {n : Nat} (h : n = 9223372036854775808) : valRes false n = .tuple #[.int .i64 0, .bool false] := by unfold valRes; rw [if_neg (by simp), if_pos h]
theorem fin_t {a : Int} {n : Nat} (h : a = n) : Ending.returned (.tuple #[.int .i64 (-a), .bool true]) = .returned (valRes true n) := by rw [h, valRes_t]
theorem fin_m {a : Int} {n : Nat} (h : a = n) (hm : a = 9223372036854775808) : Ending.returned (.tuple #[.int .i64 0, .bool false]) = .returned (valRes false n) := by rw [valRes_m (by omega)]
theorem fin_f {a : Int} {n : Nat} (h : a = n) (hm : ¬ a = 9223372036854775808) : Ending.returned (.tuple #[.int .i64 a, .bool true]) = .returned (valRes false n) := by rw [valRes_f (by omega), h]
theorem tup_of {a b : Value} (h : a = b) : Ending.returned a = .returned b := by rw [h]

set_option maxRecDepth 100000 in
set_option maxHeartbeats 1000000 in
theorem value_fit (s t : ByteArray) (less : Bool) (w : World) (hs : s.size ≤ 2000) (hst : Behind s t less) (hd : allDg t.data.toList) (hv : valFrom 0 t.data.toList ≤ 9223372036854775808) :
    Calls Tryd.prog 21 #[.string s] w fun e w' => e = .returned (valRes less (valFrom 0 t.data.toList)) ∧ w = w' := by
  obtain ⟨h0, hst⟩ := hst
  have hts : t.size ≤ 2000 := by
    rcases hst with ⟨_, _, rfl⟩ | ⟨_, _, rfl⟩
    · rw [ByteArray.size_extract]; omega
    · exact hs
  have HD := Lib.hid hd
  have HV := Lib.hid hv
  clear hd hv
  go_enter Tryd.func21, Tryd.ntmps21
  go_upto_region 1 with fail
  go_cut [4] (fun b wx => b = .bool less ∧ wx = w)
  case first =>
    rcases hst with ⟨rfl, h1, _⟩ | ⟨rfl, h1, _⟩
    · go_wp2
      go_meet
      exact ⟨by first | rfl | simp, rfl⟩
    · have h2 : ((s[0].toNat : Int) == 45) = false := by simp; omega
      go_wp2
      go_meet
      exact ⟨by first | rfl | simp, rfl⟩
  case rest =>
  obtain ⟨rfl, rfl⟩ := hcut
  go_upto_if 11 with fail
  go_cut [0] (fun v wx => v = .string t ∧ wx = wc)
  case first =>
    rcases hst with ⟨rfl, h1, ht⟩ | ⟨rfl, h1, ht⟩
    · have HT := Lib.hid ht
      clear ht
      go_wp2
      go_meet
      exact ⟨congrArg Value.string HT.out.symm, rfl⟩
    · have HT := Lib.hid ht
      clear ht
      go_wp2
      go_meet
      exact ⟨congrArg Value.string HT.out.symm, rfl⟩
  case rest =>
  obtain ⟨rfl, rfl⟩ := hcut
  clear hst
  go_wp2
  go_loop [5, 6, 7] (fun n i _ => ∃ (k : Nat) (a : Int), k ≤ t.size ∧ i = .int .i64 k ∧ n = .int .i64 (-a) ∧ 0 ≤ a ∧ Hid (a = valFrom 0 (t.data.toList.take k))) (fun _ i _ => t.size - (intOf i).toNat)
  case atStart => exact ⟨0, 0, by omega, rfl, rfl, by omega, by simp [valFrom, Hid]⟩
  case round =>
    obtain ⟨k, a, hk, rfl, rfl, ha, HA⟩ := hrel
    by_cases hlt : k < t.size
    · have hb := allDg_at HD.out (i := k) (by rw [size_list]; exact hlt)
      rw [← bAt_in t k hlt] at hb
      unfold isDg at hb
      obtain ⟨h1, h2⟩ := hb
      have hsn : ((valFrom 0 (t.data.toList.take (k + 1)) : Nat) : Int) = a * 10 + ((t[k].toNat : Int) - 48) := by
        have := val_snoc hlt; have h3 := HA.out; omega
      have hle : a * 10 + ((t[k].toNat : Int) - 48) ≤ 9223372036854775808 := by
        have := val_prefix t.data.toList (k + 1); have h3 := HV.out; omega
      have q1 : (-9223372036854775808 + ((t[k].toNat : Int) - 48)).tdiv 10 ≤ -a := by rw [tdiv_eq _ (by omega) (by omega)]; omega
      have q2 : -9223372036854775808 + ((t[k].toNat : Int) - 48) ≤ -a * 10 := by omega
      have HSN := Lib.hid hsn
      clear hsn
      go_wp2
      go_round
      case rel => exact ⟨k + 1, a * 10 + ((t[k].toNat : Int) - 48), by omega, by go_num, by go_num, by omega, HSN.out.symm⟩
      case measure => simp [intOf]; omega
    · have hA : Hid (a = valFrom 0 t.data.toList) := by
        have := HA.out
        rw [List.take_of_length_le (by rw [size_list]; omega)] at this
        exact this
      have hab : a ≤ 9223372036854775808 := by have := HV.out; have := hA.out; omega
      cases less with
      | true =>
        go_wp2
        go_ret2
        exact ⟨fin_t hA.out, rfl⟩
      | false =>
        by_cases hm : a = 9223372036854775808
        · have hm1 : (-a == -9223372036854775808) = true := by simp; omega
          have HM := Lib.hid hm
          clear hm
          go_wp2
          go_ret2
          exact ⟨fin_m hA.out HM.out, rfl⟩
        · have hm1 : (-a == -9223372036854775808) = false := by simp; omega
          have hm2 : ¬ -a = -9223372036854775808 := by omega
          have HM := Lib.hid hm
          go_wp2
          go_ret2
          exact ⟨fin_f hA.out HM.out, rfl⟩

set_option maxRecDepth 100000 in
set_option maxHeartbeats 1000000 in
theorem value_not (s t : ByteArray) (less : Bool) (w : World) (hs : s.size ≤ 2000) (hst : Behind s t less) (hd : allDg t.data.toList) (hv : ¬ valFrom 0 t.data.toList ≤ 9223372036854775808) :
    Calls Tryd.prog 21 #[.string s] w fun e w' => e = .returned (.tuple #[.int .i64 0, .bool false]) ∧ w = w' := by
  obtain ⟨h0, hst⟩ := hst
  have hts : t.size ≤ 2000 := by
    rcases hst with ⟨_, _, rfl⟩ | ⟨_, _, rfl⟩
    · rw [ByteArray.size_extract]; omega
    · exact hs
  have HD := Lib.hid hd
  have HV := Lib.hid hv
  clear hd hv
  go_enter Tryd.func21, Tryd.ntmps21
  go_upto_region 1 with fail
  go_cut [4] (fun b wx => b = .bool less ∧ wx = w)
  case first =>
    rcases hst with ⟨rfl, h1, _⟩ | ⟨rfl, h1, _⟩
    · go_wp2
      go_meet
      exact ⟨by first | rfl | simp, rfl⟩
    · have h2 : ((s[0].toNat : Int) == 45) = false := by simp; omega
      go_wp2
      go_meet
      exact ⟨by first | rfl | simp, rfl⟩
  case rest =>
  obtain ⟨rfl, rfl⟩ := hcut
  go_upto_if 11 with fail
  go_cut [0] (fun v wx => v = .string t ∧ wx = wc)
  case first =>
    rcases hst with ⟨rfl, h1, ht⟩ | ⟨rfl, h1, ht⟩
    · have HT := Lib.hid ht
      clear ht
      go_wp2
      go_meet
      exact ⟨congrArg Value.string HT.out.symm, rfl⟩
    · have HT := Lib.hid ht
      clear ht
      go_wp2
      go_meet
      exact ⟨congrArg Value.string HT.out.symm, rfl⟩
  case rest =>
  obtain ⟨rfl, rfl⟩ := hcut
  clear hst
  go_wp2
  go_loop [5, 6, 7] (fun n i _ => ∃ (k : Nat) (a : Int), k ≤ t.size ∧ i = .int .i64 k ∧ n = .int .i64 (-a) ∧ 0 ≤ a ∧ a ≤ 9223372036854775808 ∧ Hid (a = valFrom 0 (t.data.toList.take k))) (fun _ i _ => t.size - (intOf i).toNat)
  case atStart => exact ⟨0, 0, by omega, rfl, rfl, by omega, by omega, by simp [valFrom, Hid]⟩
  case round =>
    obtain ⟨k, a, hk, rfl, rfl, ha, hab, HA⟩ := hrel
    by_cases hlt : k < t.size
    · have hb := allDg_at HD.out (i := k) (by rw [size_list]; exact hlt)
      rw [← bAt_in t k hlt] at hb
      unfold isDg at hb
      obtain ⟨h1, h2⟩ := hb
      have hsn : ((valFrom 0 (t.data.toList.take (k + 1)) : Nat) : Int) = a * 10 + ((t[k].toNat : Int) - 48) := by
        have := val_snoc hlt; have h3 := HA.out; omega
      have HSN := Lib.hid hsn
      clear hsn
      by_cases hle : a * 10 + ((t[k].toNat : Int) - 48) ≤ 9223372036854775808
      · have q1 : (-9223372036854775808 + ((t[k].toNat : Int) - 48)).tdiv 10 ≤ -a := by rw [tdiv_eq _ (by omega) (by omega)]; omega
        have q2 : -9223372036854775808 + ((t[k].toNat : Int) - 48) ≤ -a * 10 := by omega
        go_wp2
        go_round
        case rel => exact ⟨k + 1, a * 10 + ((t[k].toNat : Int) - 48), by omega, by go_num, by go_num, by omega, by omega, HSN.out.symm⟩
        case measure => simp [intOf]; omega
      · have q1 : -a < (-9223372036854775808 + ((t[k].toNat : Int) - 48)).tdiv 10 := by rw [tdiv_eq _ (by omega) (by omega)]; omega
        go_wp2
        go_ret2
        exact ⟨rfl, rfl⟩
    · exfalso
      have h1 := HA.out
      have h2 := HV.out
      rw [List.take_of_length_le (by rw [size_list]; omega)] at h1
      omega

end Go.Proofs.YtnejlfkbnbbgfaaDoor
