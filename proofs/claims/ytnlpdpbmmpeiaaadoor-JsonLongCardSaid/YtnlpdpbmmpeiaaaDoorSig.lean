/- ints.signed, ints.fraction, ints.extent: how many bytes a number's text at a place has. -/
import Derived.Test.YtnlpdpbmmpeiaaaDoorExp
import Derived.Test.YtnlpdpbmmpeiaaaDoorShelf
import Derived.Deep.DeepCutAuto
namespace Go.Proofs.YtnlpdpbmmpeiaaaDoor.I2
open Go.RowKit

theorem hasP (l : List UInt8) (c : UInt8) (hc : c.toNat ≠ 0) : Lib.hasPrefix l [c] = decide (bAt l 0 = c.toNat) := by
  cases l with
  | nil => simp [Lib.hasPrefix, bAt]; omega
  | cons d r =>
    rw [bAt_cons]
    simp only [Lib.hasPrefix, List.isPrefixOf, Bool.and_true]
    by_cases h : c = d
    · subst h; simp
    · have h2 : ¬ d.toNat = c.toNat := fun e => h (UInt8.toNat_inj.1 e.symm)
      simp [h, h2]

theorem hp_any (s : ByteArray) (c : UInt8) (hc : c.toNat ≠ 0) (w : World) {b : Bool} (hb : decide (bAt s.data.toList 0 = c.toNat) = b) :
    Calls Tryd.prog 31 #[.string s, .string ⟨#[c]⟩] w fun e w' => e = .returned (.bool b) ∧ w = w' :=
  (Tryd.strings_HasPrefix s ⟨#[c]⟩ w).mono fun e w' ⟨he, hw⟩ => ⟨by rw [he, ← hb, ← hasP _ _ hc], hw.symm⟩

theorem trim_any (s : ByteArray) (w : World) :
    Calls Tryd.prog 52 #[.string s, .string ⟨#[45]⟩] w fun e w' => e = .returned (.string ⟨(s.data.toList.drop (sgn s.data.toList)).toArray⟩) ∧ w = w' :=
  (Tryd.strings_TrimPrefix s ⟨#[45]⟩ w).mono fun e w' ⟨he, hw⟩ => ⟨by
    rw [he, Lib.trimPrefix, show (⟨#[45]⟩ : ByteArray).data.toList = [45] from rfl, hasP _ _ (by decide)]
    unfold sgn
    by_cases h : bAt s.data.toList 0 = 45
    · rw [if_pos h, if_pos (by simpa using h)]; rfl
    · rw [if_neg h, if_neg (by simpa using h)]; rfl, hw.symm⟩

set_option maxHeartbeats 1000000 in
theorem signed_any (s : ByteArray) (w : World) (hs : s.size ≤ maxLen) :
    Calls Tryd.prog 43 #[.string s] w fun e w' => e = .returned (.int .i64 (front s.data.toList)) ∧ w = w' := by
  have hT := trim_any s
  have hle := sgn_le s.data.toList
  rw [size_list] at hle
  have hfl := front_le s.data.toList
  rw [size_list] at hfl
  have hdl := digs_le (s.data.toList.drop (sgn s.data.toList))
  rw [List.length_drop, size_list] at hdl
  have htl : (⟨(s.data.toList.drop (sgn s.data.toList)).toArray⟩ : ByteArray).size = s.size - sgn s.data.toList := by
    show (s.data.toList.drop (sgn s.data.toList)).toArray.size = _
    rw [List.size_toArray, List.length_drop, size_list]
  have htd : (⟨(s.data.toList.drop (sgn s.data.toList)).toArray⟩ : ByteArray).data.toList = s.data.toList.drop (sgn s.data.toList) := rfl
  have hfr : front s.data.toList = if bAt (s.data.toList.drop (sgn s.data.toList)) 0 = 48 then sgn s.data.toList + 1 else if digs (s.data.toList.drop (sgn s.data.toList)) = 0 then 0 else sgn s.data.toList + digs (s.data.toList.drop (sgn s.data.toList)) := by
    rw [bAt_drop]; rfl
  rw [← htd] at hfr hdl
  clear htd
  generalize sgn s.data.toList = σ at *
  generalize (⟨(s.data.toList.drop σ).toArray⟩ : ByteArray) = t at *
  have hP := fun (b : Bool) (hb : decide (bAt t.data.toList 0 = (48 : UInt8).toNat) = b) w => hp_any t 48 (by decide) w hb
  have hD := fun w => digits_any t w (by omega)
  unfold maxLen at hs
  have hst : (s.size : Int) - t.size = σ := by omega
  by_cases h1 : bAt t.data.toList 0 = 48
  · have hP := hP true (by rw [h1]; rfl)
    rw [if_pos h1] at hfr
    rw [hfr]
    rw [hfr] at hfl
    clear h1 hfr hD
    go_enter Tryd.func43, Tryd.ntmps43
    go_wp2_with (first
      | (go_at_call 52; refine (hT _).mono ?_; rintro e w' ⟨rfl, rfl⟩)
      | (go_at_call 31; refine (hP _).mono ?_; rintro e w' ⟨rfl, rfl⟩))
    go_ret
    exact ⟨by first | rfl | go_num, rfl⟩
  · have hP := hP false (by rw [decide_eq_false]; exact h1)
    rw [if_neg h1] at hfr
    clear h1
    generalize digs t.data.toList = D at *
    by_cases h2 : D = 0
    · subst h2
      rw [if_pos rfl] at hfr
      rw [hfr]
      clear hfr hfl
      go_enter Tryd.func43, Tryd.ntmps43
      go_wp2_with (first
        | (go_at_call 52; refine (hT _).mono ?_; rintro e w' ⟨rfl, rfl⟩)
        | (go_at_call 31; refine (hP _).mono ?_; rintro e w' ⟨rfl, rfl⟩)
        | (go_at_call 53; refine (hD _).mono ?_; rintro e w' ⟨rfl, rfl⟩))
      go_ret
      exact ⟨rfl, rfl⟩
    · rw [if_neg h2] at hfr
      rw [hfr]
      rw [hfr] at hfl
      clear hfr
      go_enter Tryd.func43, Tryd.ntmps43
      go_wp2_with (first
        | (go_at_call 52; refine (hT _).mono ?_; rintro e w' ⟨rfl, rfl⟩)
        | (go_at_call 31; refine (hP _).mono ?_; rintro e w' ⟨rfl, rfl⟩)
        | (go_at_call 53; refine (hD _).mono ?_; rintro e w' ⟨rfl, rfl⟩))
      go_ret
      exact ⟨by first | rfl | go_num, rfl⟩

set_option maxHeartbeats 1000000 in
theorem fraction_any (s : ByteArray) (w : World) (hs : s.size ≤ maxLen) :
    Calls Tryd.prog 44 #[.string s] w fun e w' => e = .returned (.int .i64 (frac s.data.toList)) ∧ w = w' := by
  have hP := fun (b : Bool) (hb : decide (bAt s.data.toList 0 = (46 : UInt8).toNat) = b) w => hp_any s 46 (by decide) w hb
  have hD := fun w => digits_ext s 1 w hs
  have hdl := digs_le (s.data.toList.drop 1)
  rw [List.length_drop, size_list] at hdl
  have hpos : bAt s.data.toList 0 = 46 → 0 < s.size := fun h => by
    have := bAt_pos (l := s.data.toList) (i := 0) (by omega); rwa [size_list] at this
  have hfr : frac s.data.toList = if bAt s.data.toList 0 = 46 ∧ 0 < digs (s.data.toList.drop 1) then 1 + digs (s.data.toList.drop 1) else 0 := rfl
  unfold maxLen at hs
  generalize digs (s.data.toList.drop 1) = D at *
  by_cases h1 : bAt s.data.toList 0 = 46
  · have hP := hP true (by rw [h1]; rfl)
    have hs1 := hpos h1
    by_cases h2 : 0 < D
    · rw [if_pos ⟨h1, h2⟩] at hfr
      rw [hfr]
      clear h1 hfr hpos
      go_enter Tryd.func44, Tryd.ntmps44
      go_wp2_with (first
        | (go_at_call 31; refine (hP _).mono ?_; rintro e w' ⟨rfl, rfl⟩)
        | (go_at_call 53; refine (hD _).mono ?_; rintro e w' ⟨rfl, rfl⟩))
      go_ret
      exact ⟨by first | rfl | go_num, rfl⟩
    · rw [if_neg (fun h => h2 h.2)] at hfr
      rw [hfr]
      obtain rfl : D = 0 := by omega
      clear h1 hfr hpos
      go_enter Tryd.func44, Tryd.ntmps44
      go_wp2_with (first
        | (go_at_call 31; refine (hP _).mono ?_; rintro e w' ⟨rfl, rfl⟩)
        | (go_at_call 53; refine (hD _).mono ?_; rintro e w' ⟨rfl, rfl⟩))
      go_ret
      exact ⟨rfl, rfl⟩
  · have hP := hP false (by rw [decide_eq_false]; exact h1)
    rw [if_neg (fun h => h1 h.1)] at hfr
    rw [hfr]
    clear h1 hfr hpos hD
    go_enter Tryd.func44, Tryd.ntmps44
    go_wp2_with (go_at_call 31; refine (hP _).mono ?_; rintro e w' ⟨rfl, rfl⟩)
    go_ret
    exact ⟨rfl, rfl⟩

set_option maxHeartbeats 400000 in
theorem extent_out (s : ByteArray) (a : Int) (w : World) (hs : s.size ≤ maxLen) (h : a < 0 ∨ s.size ≤ a) :
    Calls Tryd.prog 38 #[.string s, .int .i64 a] w fun e w' => e = .returned (.tuple #[.int .i64 0, .bool false]) ∧ w = w' := by
  unfold maxLen at hs
  by_cases h1 : a < 0
  · clear h
    go_enter Tryd.func38, Tryd.ntmps38
    go_wp2
    go_ret2
    exact ⟨rfl, rfl⟩
  · have h2 : (s.size : Int) ≤ a := by omega
    clear h
    go_enter Tryd.func38, Tryd.ntmps38
    go_wp2
    go_ret2
    exact ⟨rfl, rfl⟩

/-- a contract of one string at the rest of a text -/
theorem at_ext {k : Nat} {F : List UInt8 → Nat} (H : ∀ (s : ByteArray) (w : World), s.size ≤ maxLen → Calls Tryd.prog k #[.string s] w fun e w' => e = .returned (.int .i64 (F s.data.toList)) ∧ w = w')
    (s : ByteArray) (a : Nat) (w : World) (hs : s.size ≤ maxLen) {n : Nat} (hn : F (s.data.toList.drop a) = n) :
    Calls Tryd.prog k #[.string (s.extract a s.size)] w fun e w' => e = .returned (.int .i64 n) ∧ w = w' := by
  have h := H (s.extract a s.size) w (by rw [ByteArray.size_extract]; omega)
  rw [ext_list, hn] at h
  exact h

set_option maxHeartbeats 1000000 in
theorem extent_zero (s : ByteArray) (a : Nat) (w : World) (hs : s.size ≤ maxLen) (ha : a < s.size) (hf : front (s.data.toList.drop a) = 0) :
    Calls Tryd.prog 38 #[.string s, .int .i64 a] w fun e w' => e = .returned (.tuple #[.int .i64 0, .bool false]) ∧ w = w' := by
  have hS := fun w => at_ext signed_any s a w hs hf
  unfold maxLen at hs
  clear hf
  go_enter Tryd.func38, Tryd.ntmps38
  go_wp2_with (go_at_call 43; refine (hS _).mono ?_; rintro e w' ⟨rfl, rfl⟩)
  go_ret2
  exact ⟨rfl, rfl⟩

theorem tupB {a b : Int} {c d : Bool} (h : a = b) (h2 : c = d) : Ending.returned (.tuple #[.int .i64 a, .bool c]) = .returned (.tuple #[.int .i64 b, .bool d]) := by rw [h, h2]
theorem beq_dec {a b : Int} {n f : Nat} (h : a = b ↔ n = f) : (a == b) = decide (n = f) := by
  by_cases h1 : n = f
  · rw [h.2 h1]; simp [h1]
  · have : ¬ a = b := fun e => h1 (h.1 e)
    simp [h1, this]

set_option maxHeartbeats 1000000 in
theorem extent_some (s : ByteArray) (a : Nat) (w : World) (hs : s.size ≤ maxLen) (ha : a < s.size) {f : Nat} (hf : front (s.data.toList.drop a) = f) (h0 : f ≠ 0) {n : Nat} (hn : allOf (s.data.toList.drop a) = n) {b : Bool} (hb : decide (n = f) = b) :
    Calls Tryd.prog 38 #[.string s, .int .i64 a] w fun e w' => e = .returned (.tuple #[.int .i64 n, .bool b]) ∧ w = w' := by
  obtain ⟨t, ht⟩ : ∃ t : ByteArray, t = s.extract a s.size := ⟨_, rfl⟩
  have htl : t.data.toList = s.data.toList.drop a := by rw [ht, ext_list]
  have hts : t.size = s.size - a := by rw [ht, ext_size s a (by omega)]
  rw [← htl] at hf hn
  have hS := fun w => signed_any t w (by omega)
  have hfl := front_le t.data.toList
  rw [size_list] at hfl
  have hxl := frac_le (t.data.toList.drop (front t.data.toList))
  rw [List.length_drop, size_list] at hxl
  have hyl := expo_le (t.data.toList.drop (two t.data.toList))
  rw [List.length_drop, size_list] at hyl
  have h2 : two t.data.toList = f + frac (t.data.toList.drop f) := by unfold two; rw [hf]
  have h3 : allOf t.data.toList = f + frac (t.data.toList.drop f) + expo (t.data.toList.drop (f + frac (t.data.toList.drop f))) := by unfold allOf; rw [h2]
  have hF := fun w => at_ext fraction_any t f w (by omega) (n := frac (t.data.toList.drop f)) rfl
  have hE := fun w => at_ext expo_any t (f + frac (t.data.toList.drop f)) w (by omega) (n := expo (t.data.toList.drop (f + frac (t.data.toList.drop f)))) rfl
  rw [h2] at hyl
  rw [hf] at hxl hfl hS
  rw [hn] at h3
  generalize expo (t.data.toList.drop (f + frac (t.data.toList.drop f))) = y at *
  generalize frac (t.data.toList.drop f) = x at *
  subst h3
  unfold maxLen at hs
  have HT := Lib.hid ht
  have HB := Lib.hid hb
  have hf0 : ((f : Int) == 0) = false := by simp; omega
  have hts2 : t.size ≤ s.size := by omega
  have hfx : f + x + y ≤ t.size := by omega
  have HTS := Lib.hid hts
  clear ht hb hf hn h2 htl hts hfl hxl hyl
  go_enter Tryd.func38, Tryd.ntmps38
  go_upto_region 3 with fail
  go_cut [0] (fun v wx => v = .string t ∧ wx = w)
  case first =>
    go_wp2
    go_meet
    exact ⟨congrArg Value.string HT.out.symm, rfl⟩
  case rest =>
  obtain ⟨rfl, rfl⟩ := hcut
  go_wp2_with (first
    | (go_at_call 43; refine (hS _).mono ?_; rintro e w' ⟨rfl, rfl⟩)
    | (go_at_call 44; refine (hF _).mono ?_; rintro e w' ⟨rfl, rfl⟩)
    | (go_at_call 45; refine (hE _).mono ?_; rintro e w' ⟨rfl, rfl⟩))
  go_ret2
  exact ⟨tupB (by omega) (by rw [← HB.out]; exact beq_dec (by omega)), rfl⟩

end Go.Proofs.YtnlpdpbmmpeiaaaDoor.I2
