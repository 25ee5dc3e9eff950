/- the document's Text of a number. -/
import Derived.Test.YtlaagdpanbineaaGreatDoorNa
import Derived.Test.YtlaagdpanbineaaGreatDoorNc
import Derived.Lib.ItoaLen
namespace Go.Proofs.YtlaagdpanbineaaGreatDoor.I2
open Go.RowKit Go.Lib

/-- what an integer argument is -/
theorem wf_bd {n : Int} (h : (Lit.int .i64 n).wf = true) : -9223372036854775808 ≤ n ∧ n ≤ 9223372036854775807 := by
  have h1 : IntKind.i64.min = -9223372036854775808 := by decide
  have h2 : IntKind.i64.max = 9223372036854775807 := by decide
  simp only [Lit.wf, Bool.and_eq_true, decide_eq_true_eq, h1, h2] at h
  exact h

/-- one byte as a text -/
theorem cv1 (w : World) (z : Int) :
    Sem.run Tryz.prog (convert 58 9 (.slice (some ⟨w.heap.size, 0, none⟩) 1 1)) (w.alloc (.cells #[.int .u8 z] 5)) =
      .ok (.string (strOfNums [z])) (w.alloc (.cells #[.int .u8 z] 5)) :=
  run_convert_bytes_arg (P := Tryz.prog) _ 58 5 Tryz.underlying58 Tryz.underlying5 w.heap.size 0 1 1 [z] rfl (fun i hi => by
    have hb := cell_of_row (w.alloc (.cells #[.int .u8 z] 5)) w.heap.size (0 + i) #[.int .u8 z] 5 (0, 0)
      (by have := heap_alloc_new w (.cells #[.int .u8 z] 5); simpa using this)
    rw [hb]
    obtain rfl : i = 0 := by omega
    rfl) 9 Tryz.underlying9

/-- the digits of u that stand in front of what is written already -/
def decT (u : Nat) : List UInt8 := if u = 0 then [] else decDigits u
theorem decT_step {u : Nat} (h : u ≠ 0) : decT u = decT (u / 10) ++ [UInt8.ofNat (48 + u % 10)] := by
  unfold decT
  rw [if_neg h]
  by_cases h1 : u < 10
  · rw [dd_small h1, if_pos (by omega), Nat.mod_eq_of_lt h1]; rfl
  · rw [dd_big h1, if_neg (by omega)]

theorem str_one (x : Int) : (strOfNums [x]).data.toList = [UInt8.ofNat x.toNat] := rfl
theorem str_len (x : Int) : (strOfNums [x]).size ≤ 1 := by rw [strOfNums_size]; exact Nat.le_refl _

/-- one digit more in front -/
theorem decT_next {D : List UInt8} {a : Int} {t : ByteArray} (h0 : 0 < a) (h : D = decT a.toNat ++ t.data.toList) : D = decT (a / 10).toNat ++ (strOfNums [48 + a % 10] ++ t).data.toList := by
  have e : (strOfNums [48 + a % 10] ++ t).data.toList = (strOfNums [48 + a % 10]).data.toList ++ t.data.toList := by
    rw [ByteArray.data_append, Array.toList_append]
  rw [e, str_one, h, decT_step (by omega : a.toNat ≠ 0), List.append_assoc]
  have e1 : (48 + a % 10).toNat = 48 + a.toNat % 10 := by omega
  have e2 : (a / 10).toNat = a.toNat / 10 := by omega
  rw [e1, e2]
theorem dd_len20 {u : Nat} (h : u < 18446744073709551616) : (decDigits u).length ≤ 20 := by
  rw [decDigits_length]; exact nDigits_le20 u h
theorem end_text {D : List UInt8} {t : ByteArray} (h : D = decT 0 ++ t.data.toList) : t = ⟨D.toArray⟩ := by
  unfold decT at h
  rw [if_pos rfl, List.nil_append] at h
  rw [h]

set_option maxRecDepth 100000 in
set_option maxHeartbeats 1000000 in
theorem rtext_neg (n : Int) (hn : n < 0) (h0 : -9223372036854775808 ≤ n) (w : World) :
    Calls Tryz.prog 26 #[.int .i64 n] w fun e w' => e = .returned (.string ⟨(itoa n).toArray⟩) ∧ Below w.heap.size w w' := by
  have hcv := cv1
  obtain ⟨b, rfl⟩ : ∃ b : Int, n = -b := ⟨-n, by omega⟩
  have hb : 0 < b := by omega
  have hb2 : b ≤ 9223372036854775808 := by omega
  have HI : Hid (itoa (-b) = 45 :: decDigits b.toNat) := by
    have e : (-b).natAbs = b.toNat := by omega
    show itoa (-b) = _
    unfold itoa
    rw [if_pos (by omega), e]
  have HL := Lib.hid (dd_len20 (u := b.toNat) (by omega))
  clear hn h0
  go_enter Tryz.func26, Tryz.ntmps26
  go_wp2
  go_loopw [0, 3] (fun m s wr => ∃ (a : Int) (t : ByteArray), m = .int .i64 (-a) ∧ s = .string t ∧ 0 ≤ a ∧ a ≤ 9223372036854775808 ∧ Below w.heap.size w wr ∧ Hid (decDigits b.toNat = decT a.toNat ++ t.data.toList)) (fun m _ _ => (RowKit.intOf m).natAbs)
  case atStart => exact ⟨b, _, rfl, rfl, by omega, hb2, Below.refl _ _, by
    show decDigits b.toNat = decT b.toNat ++ []
    unfold decT; rw [if_neg (by omega), List.append_nil]⟩
  case round =>
    obtain ⟨a, t, rfl, rfl, ha0, ha, HB, HT⟩ := hrel
    have hts : t.size ≤ 20 := by
      have h1 := congrArg List.length HT.out
      rw [List.length_append, size_list] at h1
      have h2 := HL.out
      omega
    by_cases hz : a = 0
    · have HZ := Lib.hid hz
      have hts2 : Hid (t = ⟨(decDigits b.toNat).toArray⟩) := end_text (by have h := HT.out; rw [HZ.out] at h; exact h)
      have q1 : (-a == 0) = true := by simp; omega
      have q2 : (-a != 0) = false := by simp; omega
      have q3 : -a = 0 := by omega
      clear hz
      go_wp2
      go_ret
      exact ⟨by rw [HI.out, hts2.out]; rfl, HB⟩
    · have q1 : (-a == 0) = false := by simp; omega
      have q2 : (-a != 0) = true := by simp; omega
      have q3 : ¬ -a = 0 := by omega
      have hsl := str_len (48 + a % 10)
      have HN := Lib.hid (decT_next (by omega : 0 < a) HT.out)
      have HW : Hid (wrap64 (-a.tdiv 10) = -(a / 10)) := by
        show wrap64 (-a.tdiv 10) = _
        rw [Int.tdiv_eq_ediv_of_nonneg ha0]
        unfold wrap64
        omega
      have HBB := Lib.hid HB
      have hsz := HB.size
      go_wp2
      go_roundw
      case rel => exact ⟨a / 10, _, by rw [HW.out], rfl, by omega, by omega, HBB.out.alloc hsz _, HN.out⟩
      case measure =>
        simp only [RowKit.intOf]
        show (wrap64 (-a.tdiv 10)).natAbs < (-a).natAbs
        rw [HW.out]
        omega

def emptyV : Value → Nat
  | .string t => if t.size = 0 then 1 else 0
  | _ => 0
theorem meas {a c : Int} {t u : ByteArray} (h : 0 < a ∨ t.size = 0) (ha : 0 ≤ a) (hu : 0 < u.size) (hc : c = a / 10) : 2 * (RowKit.intOf (.int .i64 c)).toNat + emptyV (.string u) < 2 * (RowKit.intOf (.int .i64 a)).toNat + emptyV (.string t) := by
  show 2 * c.toNat + (if u.size = 0 then 1 else 0) < 2 * a.toNat + (if t.size = 0 then 1 else 0)
  rw [if_neg (by omega)]
  split <;> omega
theorem first_text {n a : Int} {t : ByteArray} (hgo : 0 < a ∨ t.size = 0) (ha0 : 0 ≤ a) (HT : (a = n ∧ t.size = 0) ∨ (0 < t.size ∧ Hid (decDigits n.toNat = decT a.toNat ++ t.data.toList))) :
    decDigits n.toNat = decT (a / 10).toNat ++ (strOfNums [48 + a % 10] ++ t).data.toList := by
  rcases HT with ⟨rfl, h⟩ | ⟨h, h2⟩
  · have ht : t.data.toList = [] := by
      apply List.eq_nil_of_length_eq_zero; rw [size_list]; exact h
    rcases Int.lt_or_le 0 a with hp | hp
    · refine decT_next hp ?_
      rw [ht, List.append_nil]
      unfold decT
      rw [if_neg (by omega)]
    · obtain rfl : a = 0 := by omega
      have e : (strOfNums [48 + 0 % 10] ++ t).data.toList = (strOfNums [48 + 0 % 10]).data.toList ++ t.data.toList := by
        rw [ByteArray.data_append, Array.toList_append]
      rw [e, ht, List.append_nil, str_one]
      show decDigits 0 = decT 0 ++ [UInt8.ofNat 48]
      rw [dd_small (by omega)]
      rfl
  · exact decT_next (by omega) h2.out

set_option maxRecDepth 100000 in
set_option maxHeartbeats 1000000 in
theorem rtext_pos (n : Int) (hn : 0 ≤ n) (h1 : n ≤ 9223372036854775807) (w : World) :
    Calls Tryz.prog 26 #[.int .i64 n] w fun e w' => e = .returned (.string ⟨(itoa n).toArray⟩) ∧ Below w.heap.size w w' := by
  have hcv := cv1
  have HI : Hid (itoa n = decDigits n.toNat) := by
    show itoa n = _
    unfold itoa
    rw [if_neg (by omega)]
  have HL := Lib.hid (dd_len20 (u := n.toNat) (by omega))
  go_enter Tryz.func26, Tryz.ntmps26
  go_wp2
  go_loopw [0, 4] (fun m s wr => ∃ (a : Int) (t : ByteArray), m = .int .i64 a ∧ s = .string t ∧ 0 ≤ a ∧ a ≤ 9223372036854775807 ∧ Below w.heap.size w wr ∧ ((a = n ∧ t.size = 0) ∨ (0 < t.size ∧ Hid (decDigits n.toNat = decT a.toNat ++ t.data.toList)))) (fun m s _ => 2 * (RowKit.intOf m).toNat + emptyV s)
  case atStart => exact ⟨n, _, rfl, rfl, by omega, h1, Below.refl _ _, .inl ⟨rfl, rfl⟩⟩
  case round =>
    obtain ⟨a, t, rfl, rfl, ha0, ha, HB, HT⟩ := hrel
    by_cases hgo : 0 < a ∨ t.size = 0
    · have hts : t.size ≤ 20 := by
        rcases HT with ⟨_, h⟩ | ⟨_, h⟩
        · omega
        · have h1 := congrArg List.length h.out
          rw [List.length_append, size_list] at h1
          have h2 := HL.out
          omega
      have HN : Hid (decDigits n.toNat = decT (a / 10).toNat ++ (strOfNums [48 + a % 10] ++ t).data.toList) := first_text hgo ha0 HT
      have HW : Hid (wrap64 (a.tdiv 10) = a / 10) := by
        show wrap64 (a.tdiv 10) = _
        rw [Int.tdiv_eq_ediv_of_nonneg ha0]
        unfold wrap64
        omega
      have hsl := str_len (48 + a % 10)
      have hsp : 0 < (strOfNums [48 + a % 10] ++ t).size := by rw [ByteArray.size_append, strOfNums_size]; simp; omega
      have HSP := Lib.hid hsp
      have HGO := Lib.hid hgo
      have HBB := Lib.hid HB
      have hsz := HB.size
      clear hsp hgo HT
      by_cases hp : 0 < a
      · go_wp2
        go_roundw
        case rel => exact ⟨a / 10, _, by first | rfl | go_num, rfl, by omega, by omega, HBB.out.alloc hsz _, .inr ⟨HSP.out, HN.out⟩⟩
        case measure => exact meas HGO.out ha0 HSP.out rfl
      · have h0 : t.size = 0 := by have := HGO.out; omega
        have hl := nil_list h0
        have hb := nil_listB h0
        obtain rfl : a = 0 := by omega
        go_wp2
        go_roundw
        case rel => exact ⟨0, _, rfl, rfl, by omega, by omega, HBB.out.alloc hsz _, .inr ⟨HSP.out, HN.out⟩⟩
        case measure => exact meas HGO.out ha0 HSP.out rfl
    · have h0 : 0 < t.size := by omega
      have hl := ne_list h0
      have hb := ne_listB h0
      obtain rfl : a = 0 := by omega
      have hts2 : Hid (t = ⟨(decDigits n.toNat).toArray⟩) := by
        rcases HT with ⟨_, h⟩ | ⟨_, h⟩
        · omega
        · exact end_text h.out
      clear HT hgo
      go_wp2
      go_ret
      exact ⟨by rw [HI.out, hts2.out]; rfl, HB⟩

end Go.Proofs.YtlaagdpanbineaaGreatDoor.I2

