/- ints.signed, ints.fraction, ints.extent: how many bytes a number's text at a place has. -/
import Derived.Test.YtlaagdpanbineaaDoorNa
import Derived.Test.YtlaagdpanbineaaDoorShelf
import Derived.Deep.DeepCutAuto
import Derived.Test.YtlaagdpanbineaaDoorNb
import Derived.Lib.AppendIntMem
import Derived.MakeChecks
import Derived.Lib.ParseIntBTie
import Derived.Deep.QuietTactic
import Derived.BigQuiet
namespace Go.Proofs.YtlaagdpanbineaaDoor.I2
open Go.RowKit

theorem hasP (l : List UInt8) (c : UInt8) (hc : c.toNat ≠ 0) : Lib.hasPrefix l [c] = decide (bAt l 0 = c.toNat) := by
  cases l with
  | nil => simp [Lib.hasPrefix, bAt]; omega
  | cons d r =>
    rw [bAt_cons]
    simp only [Lib.hasPrefix, List.isPrefixOf, Bool.and_true]
    by_cases h : c = d
    · subst h; simp
    · have h2 : ¬ d.toNat = c.toNat := fun e => h (UInt8.toNat_inj.1 e.symm)
      simp [h, h2]

theorem hp_any (s : ByteArray) (c : UInt8) (hc : c.toNat ≠ 0) (w : World) {b : Bool} (hb : decide (bAt s.data.toList 0 = c.toNat) = b) :
    Calls Tryd.prog 52 #[.string s, .string ⟨#[c]⟩] w fun e w' => e = .returned (.bool b) ∧ w = w' :=
  (Tryd.strings_HasPrefix s ⟨#[c]⟩ w).mono fun e w' ⟨he, hw⟩ => ⟨by rw [he, ← hb, ← hasP _ _ hc], hw.symm⟩

theorem trim_any (s : ByteArray) (w : World) :
    Calls Tryd.prog 84 #[.string s, .string ⟨#[45]⟩] w fun e w' => e = .returned (.string ⟨(s.data.toList.drop (sgn s.data.toList)).toArray⟩) ∧ w = w' :=
  (Tryd.strings_TrimPrefix s ⟨#[45]⟩ w).mono fun e w' ⟨he, hw⟩ => ⟨by
    rw [he, Lib.trimPrefix, show (⟨#[45]⟩ : ByteArray).data.toList = [45] from rfl, hasP _ _ (by decide)]
    unfold sgn
    by_cases h : bAt s.data.toList 0 = 45
    · rw [if_pos h, if_pos (by simpa using h)]; rfl
    · rw [if_neg h, if_neg (by simpa using h)]; rfl, hw.symm⟩

set_option maxHeartbeats 1000000 in
theorem signed_any (s : ByteArray) (w : World) (hs : s.size ≤ maxLen) :
    Calls Tryd.prog 73 #[.string s] w fun e w' => e = .returned (.int .i64 (front s.data.toList)) ∧ w = w' := by
  have hT := trim_any s
  have hle := sgn_le s.data.toList
  rw [size_list] at hle
  have hfl := front_le s.data.toList
  rw [size_list] at hfl
  have hdl := digs_le (s.data.toList.drop (sgn s.data.toList))
  rw [List.length_drop, size_list] at hdl
  have htl : (⟨(s.data.toList.drop (sgn s.data.toList)).toArray⟩ : ByteArray).size = s.size - sgn s.data.toList := by
    show (s.data.toList.drop (sgn s.data.toList)).toArray.size = _
    rw [List.size_toArray, List.length_drop, size_list]
  have htd : (⟨(s.data.toList.drop (sgn s.data.toList)).toArray⟩ : ByteArray).data.toList = s.data.toList.drop (sgn s.data.toList) := rfl
  have hfr : front s.data.toList = if bAt (s.data.toList.drop (sgn s.data.toList)) 0 = 48 then sgn s.data.toList + 1 else if digs (s.data.toList.drop (sgn s.data.toList)) = 0 then 0 else sgn s.data.toList + digs (s.data.toList.drop (sgn s.data.toList)) := by
    rw [bAt_drop]; rfl
  rw [← htd] at hfr hdl
  clear htd
  generalize sgn s.data.toList = σ at *
  generalize (⟨(s.data.toList.drop σ).toArray⟩ : ByteArray) = t at *
  have hP := fun (b : Bool) (hb : decide (bAt t.data.toList 0 = (48 : UInt8).toNat) = b) w => hp_any t 48 (by decide) w hb
  have hD := fun w => digits_any t w (by omega)
  unfold maxLen at hs
  have hst : (s.size : Int) - t.size = σ := by omega
  by_cases h1 : bAt t.data.toList 0 = 48
  · have hP := hP true (by rw [h1]; rfl)
    rw [if_pos h1] at hfr
    rw [hfr]
    rw [hfr] at hfl
    clear h1 hfr hD
    go_enter Tryd.func73, Tryd.ntmps73
    go_wp2_with (first
      | (go_at_call 84; refine (hT _).mono ?_; rintro e w' ⟨rfl, rfl⟩)
      | (go_at_call 52; refine (hP _).mono ?_; rintro e w' ⟨rfl, rfl⟩))
    go_ret
    exact ⟨by first | rfl | go_num, rfl⟩
  · have hP := hP false (by rw [decide_eq_false]; exact h1)
    rw [if_neg h1] at hfr
    clear h1
    generalize digs t.data.toList = D at *
    by_cases h2 : D = 0
    · subst h2
      rw [if_pos rfl] at hfr
      rw [hfr]
      clear hfr hfl
      go_enter Tryd.func73, Tryd.ntmps73
      go_wp2_with (first
        | (go_at_call 84; refine (hT _).mono ?_; rintro e w' ⟨rfl, rfl⟩)
        | (go_at_call 52; refine (hP _).mono ?_; rintro e w' ⟨rfl, rfl⟩)
        | (go_at_call 85; refine (hD _).mono ?_; rintro e w' ⟨rfl, rfl⟩))
      go_ret
      exact ⟨rfl, rfl⟩
    · rw [if_neg h2] at hfr
      rw [hfr]
      rw [hfr] at hfl
      clear hfr
      go_enter Tryd.func73, Tryd.ntmps73
      go_wp2_with (first
        | (go_at_call 84; refine (hT _).mono ?_; rintro e w' ⟨rfl, rfl⟩)
        | (go_at_call 52; refine (hP _).mono ?_; rintro e w' ⟨rfl, rfl⟩)
        | (go_at_call 85; refine (hD _).mono ?_; rintro e w' ⟨rfl, rfl⟩))
      go_ret
      exact ⟨by first | rfl | go_num, rfl⟩

set_option maxHeartbeats 1000000 in
theorem fraction_any (s : ByteArray) (w : World) (hs : s.size ≤ maxLen) :
    Calls Tryd.prog 74 #[.string s] w fun e w' => e = .returned (.int .i64 (frac s.data.toList)) ∧ w = w' := by
  have hP := fun (b : Bool) (hb : decide (bAt s.data.toList 0 = (46 : UInt8).toNat) = b) w => hp_any s 46 (by decide) w hb
  have hD := fun w => digits_ext s 1 w hs
  have hdl := digs_le (s.data.toList.drop 1)
  rw [List.length_drop, size_list] at hdl
  have hpos : bAt s.data.toList 0 = 46 → 0 < s.size := fun h => by
    have := bAt_pos (l := s.data.toList) (i := 0) (by omega); rwa [size_list] at this
  have hfr : frac s.data.toList = if bAt s.data.toList 0 = 46 ∧ 0 < digs (s.data.toList.drop 1) then 1 + digs (s.data.toList.drop 1) else 0 := rfl
  unfold maxLen at hs
  generalize digs (s.data.toList.drop 1) = D at *
  by_cases h1 : bAt s.data.toList 0 = 46
  · have hP := hP true (by rw [h1]; rfl)
    have hs1 := hpos h1
    by_cases h2 : 0 < D
    · rw [if_pos ⟨h1, h2⟩] at hfr
      rw [hfr]
      clear h1 hfr hpos
      go_enter Tryd.func74, Tryd.ntmps74
      go_wp2_with (first
        | (go_at_call 52; refine (hP _).mono ?_; rintro e w' ⟨rfl, rfl⟩)
        | (go_at_call 85; refine (hD _).mono ?_; rintro e w' ⟨rfl, rfl⟩))
      go_ret
      exact ⟨by first | rfl | go_num, rfl⟩
    · rw [if_neg (fun h => h2 h.2)] at hfr
      rw [hfr]
      obtain rfl : D = 0 := by omega
      clear h1 hfr hpos
      go_enter Tryd.func74, Tryd.ntmps74
      go_wp2_with (first
        | (go_at_call 52; refine (hP _).mono ?_; rintro e w' ⟨rfl, rfl⟩)
        | (go_at_call 85; refine (hD _).mono ?_; rintro e w' ⟨rfl, rfl⟩))
      go_ret
      exact ⟨rfl, rfl⟩
  · have hP := hP false (by rw [decide_eq_false]; exact h1)
    rw [if_neg (fun h => h1 h.1)] at hfr
    rw [hfr]
    clear h1 hfr hpos hD
    go_enter Tryd.func74, Tryd.ntmps74
    go_wp2_with (go_at_call 52; refine (hP _).mono ?_; rintro e w' ⟨rfl, rfl⟩)
    go_ret
    exact ⟨rfl, rfl⟩

set_option maxHeartbeats 400000 in
theorem extent_out (s : ByteArray) (a : Int) (w : World) (_hs : s.size ≤ maxLen) (h : a < 0 ∨ s.size ≤ a) :
    Calls Tryd.prog 63 #[.string s, .int .i64 a] w fun e w' => e = .returned (.tuple #[.int .i64 0, .bool false]) ∧ w = w' := by
  unfold maxLen at _hs
  by_cases h1 : a < 0
  · clear h
    go_enter Tryd.func63, Tryd.ntmps63
    go_wp2
    go_ret2
    exact ⟨rfl, rfl⟩
  · have h2 : (s.size : Int) ≤ a := by omega
    clear h
    go_enter Tryd.func63, Tryd.ntmps63
    go_wp2
    go_ret2
    exact ⟨rfl, rfl⟩

/-- a contract of one string at the rest of a text -/
theorem at_ext {k : Nat} {F : List UInt8 → Nat} (H : ∀ (s : ByteArray) (w : World), s.size ≤ maxLen → Calls Tryd.prog k #[.string s] w fun e w' => e = .returned (.int .i64 (F s.data.toList)) ∧ w = w')
    (s : ByteArray) (a : Nat) (w : World) (hs : s.size ≤ maxLen) {n : Nat} (hn : F (s.data.toList.drop a) = n) :
    Calls Tryd.prog k #[.string (s.extract a s.size)] w fun e w' => e = .returned (.int .i64 n) ∧ w = w' := by
  have h := H (s.extract a s.size) w (by rw [ByteArray.size_extract]; omega)
  rw [ext_list, hn] at h
  exact h

set_option maxHeartbeats 1000000 in
theorem extent_zero (s : ByteArray) (a : Nat) (w : World) (hs : s.size ≤ maxLen) (ha : a < s.size) (hf : front (s.data.toList.drop a) = 0) :
    Calls Tryd.prog 63 #[.string s, .int .i64 a] w fun e w' => e = .returned (.tuple #[.int .i64 0, .bool false]) ∧ w = w' := by
  have hS := fun w => at_ext signed_any s a w hs hf
  unfold maxLen at hs
  clear hf
  go_enter Tryd.func63, Tryd.ntmps63
  go_wp2_with (go_at_call 73; refine (hS _).mono ?_; rintro e w' ⟨rfl, rfl⟩)
  go_ret2
  exact ⟨rfl, rfl⟩

theorem tupB {a b : Int} {c d : Bool} (h : a = b) (h2 : c = d) : Ending.returned (.tuple #[.int .i64 a, .bool c]) = .returned (.tuple #[.int .i64 b, .bool d]) := by rw [h, h2]
theorem beq_dec {a b : Int} {n f : Nat} (h : a = b ↔ n = f) : (a == b) = decide (n = f) := by
  by_cases h1 : n = f
  · rw [h.2 h1]; simp [h1]
  · have : ¬ a = b := fun e => h1 (h.1 e)
    simp [h1, this]

set_option maxHeartbeats 1000000 in
theorem extent_some (s : ByteArray) (a : Nat) (w : World) (hs : s.size ≤ maxLen) (ha : a < s.size) {f : Nat} (hf : front (s.data.toList.drop a) = f) (h0 : f ≠ 0) {n : Nat} (hn : allOf (s.data.toList.drop a) = n) {b : Bool} (hb : decide (n = f) = b) :
    Calls Tryd.prog 63 #[.string s, .int .i64 a] w fun e w' => e = .returned (.tuple #[.int .i64 n, .bool b]) ∧ w = w' := by
  obtain ⟨t, ht⟩ : ∃ t : ByteArray, t = s.extract a s.size := ⟨_, rfl⟩
  have htl : t.data.toList = s.data.toList.drop a := by rw [ht, ext_list]
  have hts : t.size = s.size - a := by rw [ht, ext_size s a (by omega)]
  rw [← htl] at hf hn
  have hS := fun w => signed_any t w (by omega)
  have hfl := front_le t.data.toList
  rw [size_list] at hfl
  have hxl := frac_le (t.data.toList.drop (front t.data.toList))
  rw [List.length_drop, size_list] at hxl
  have hyl := expo_le (t.data.toList.drop (two t.data.toList))
  rw [List.length_drop, size_list] at hyl
  have h2 : two t.data.toList = f + frac (t.data.toList.drop f) := by unfold two; rw [hf]
  have h3 : allOf t.data.toList = f + frac (t.data.toList.drop f) + expo (t.data.toList.drop (f + frac (t.data.toList.drop f))) := by unfold allOf; rw [h2]
  have hF := fun w => at_ext fraction_any t f w (by omega) (n := frac (t.data.toList.drop f)) rfl
  have hE := fun w => at_ext expo_any t (f + frac (t.data.toList.drop f)) w (by omega) (n := expo (t.data.toList.drop (f + frac (t.data.toList.drop f)))) rfl
  rw [h2] at hyl
  rw [hf] at hxl hfl hS
  rw [hn] at h3
  generalize expo (t.data.toList.drop (f + frac (t.data.toList.drop f))) = y at *
  generalize frac (t.data.toList.drop f) = x at *
  subst h3
  unfold maxLen at hs
  have HT := Lib.hid ht
  have HB := Lib.hid hb
  have hf0 : ((f : Int) == 0) = false := by simp; omega
  have hts2 : t.size ≤ s.size := by omega
  have hfx : f + x + y ≤ t.size := by omega
  have HTS := Lib.hid hts
  clear ht hb hf hn h2 htl hts hfl hxl hyl
  go_enter Tryd.func63, Tryd.ntmps63
  go_upto_region 3 with fail
  go_cut [0] (fun v wx => v = .string t ∧ wx = w)
  case first =>
    go_wp2
    go_meet
    exact ⟨congrArg Value.string HT.out.symm, rfl⟩
  case rest =>
  obtain ⟨rfl, rfl⟩ := hcut
  go_wp2_with (first
    | (go_at_call 73; refine (hS _).mono ?_; rintro e w' ⟨rfl, rfl⟩)
    | (go_at_call 74; refine (hF _).mono ?_; rintro e w' ⟨rfl, rfl⟩)
    | (go_at_call 75; refine (hE _).mono ?_; rintro e w' ⟨rfl, rfl⟩))
  go_ret2
  exact ⟨tupB (by omega) (by rw [← HB.out]; exact beq_dec (by omega)), rfl⟩

end Go.Proofs.YtlaagdpanbineaaDoor.I2

/- What the rows' conditions on the listed variables give: the errors (six of them, or all thirteen); strconv.ErrRange holds an error; the table of powers of ten. -/
namespace Go.Proofs.YtlaagdpanbineaaDoor.I2
open Go.RowKit

theorem below_drewN {B : Nat} {a w : World} (h : Below B a w) (d : Nat) : Below B a (w.drewN d) := ⟨h.os, h.tape, h.output, h.size, h.block⟩

structure Cond (w : World) (A : Nat → Addr) : Prop where
  errs : ErrsK 6 w A
  rng : ∃ tp p, w.cell? ⟨18, 0, none⟩ = some (.iface tp p)
  tab : Lib.TabIs Tryd.prog w "internal/strconv.uint64pow10" .u64 Lib.pow10Tab

theorem cell_lt {w : World} {b o : Nat} {v : Value} (h : w.cell? ⟨b, o, none⟩ = some v) : b < w.heap.size := by
  rcases Nat.lt_or_ge b w.heap.size with hlt | hge
  · exact hlt
  · simp [World.cell?, Array.getElem?_eq_none hge] at h

theorem Cond.below {w w' : World} {A : Nat → Addr} (h : Cond w A) (hb : Below w.heap.size w w') : Cond w' A :=
  ⟨h.errs.below hb, by
    obtain ⟨tp, p, hr⟩ := h.rng
    exact ⟨tp, p, (hb.cell (p := ⟨18, 0, none⟩) (cell_lt hr)).trans hr⟩,
   Lib.tabBelow_of_tabIs h.tab w' hb⟩

/-- a list that has the errors, strconv.ErrRange and, at its third place, the table of powers of ten -/
structure Has (K : Nat) (l : List (String × DataW Unit)) : Prop where
  errs : ∀ k, k < K → (eName k, sentD "*errors.errorString" (eText k)) ∈ l
  rng : ("strconv.ErrRange", sentD "*errors.errorString" [118, 97, 108, 117, 101, 32, 111, 117, 116, 32, 111, 102, 32, 114, 97, 110, 103, 101]) ∈ l
  tab : ∃ a b r, l = a :: b :: ("internal/strconv.uint64pow10", Lib.tabData .u64 Lib.pow10Tab) :: r
theorem conds_of {K : Nat} (h6 : 6 ≤ K) (hK : K ≤ 13) {W : World} {l : List (String × DataW Unit)} (hl : Has K l) (h : laidMet Tryd.prog l W) : ∃ A, Cond W A ∧ ErrsK K W A := by
  obtain ⟨A, hA⟩ := errs_of hK hl.errs h
  refine ⟨A, ⟨hA.mono h6, ?_, ?_⟩, hA⟩
  · obtain ⟨ps, hv, hnd, hr⟩ := h
    obtain ⟨a, h1, _, _⟩ := sent_mem errTypes hv hr hl.rng (g := 18) (by kernel_rfl) (by kernel_rfl)
    have := World.var?_cell (P := Tryd.prog) (n := "strconv.ErrRange") (g := 18) (by kernel_rfl) h1 0
    exact ⟨_, _, by simpa using this⟩
  · obtain ⟨a, b, r, e⟩ := hl.tab
    rw [e] at h
    exact Lib.tabIs_of_head (t := 159) (e := 132) (n := 20) (g := 19) (by kernel_rfl) (by kernel_rfl) Tryd.underlying159 Tryd.underlying132 (by kernel_rfl) (by kernel_rfl) h.tail.tail

end Go.Proofs.YtlaagdpanbineaaDoor.I2

/- ints.Take: the number at a place. -/
namespace Go.Proofs.YtlaagdpanbineaaDoor.I2
open Go.RowKit

theorem pint_ok (t : ByteArray) (v : Int) (h : wholeV t.data.toList = some v) (ht : t.size ≤ 200000) (w : World) :
    Calls Tryd.prog 64 #[.string t, .int .i64 10, .int .i64 64] w fun e w' => e = .returned (.tuple #[.int .i64 v, .nilIface]) ∧ Below w.heap.size w w' :=
  (Tryd.strconv_ParseInt_10_at64_ok t (by omega) v (by rw [Lib.parseIntB_64]; exact wholeV_some h) w).mono fun e w' ⟨he, hw⟩ => ⟨he, by
    rcases hw with rfl | ⟨t, rfl⟩
    · exact Below.refl _ _
    · exact Lib.bytesWorld_below _ _ _⟩

theorem pint_range (t : ByteArray) (h : Lib.atoiAll t.data.toList = .range) (ht : t.size ≤ 200000) (w : World) (A : Nat → Addr) (hC : Cond w A) :
    Calls Tryd.prog 64 #[.string t, .int .i64 10, .int .i64 64] w fun e w' => (∃ v N, e = .returned (.tuple #[.int .i64 v, .iface 135 (.pointer (some ⟨N, 0, none⟩))])) ∧ Below w.heap.size w w' := by
  obtain ⟨tp, p, hr⟩ := hC.rng
  exact (Tryd.strconv_ParseInt_10_at64_range t (by omega) (by rw [Lib.parseIntB_64]; exact h) _ w hr (.inr ⟨_, _, rfl⟩)).mono fun e w' ⟨N, he, _, _, hb⟩ => ⟨⟨_, _, he⟩, hb⟩

/-- where no number's text begins -/
theorem take_syntax (s : ByteArray) (x : Int) (w : World) (A : Nat → Addr) (hC : Cond w A)
    (hX : ∀ w, Calls Tryd.prog 63 #[.string s, .int .i64 x] w fun e w' => e = .returned (.tuple #[.int .i64 0, .bool false]) ∧ w = w') :
    Calls Tryd.prog 54 #[.string s, .int .i64 x] w fun e w' => e = .returned (.tuple #[.int .i64 0, .int .i64 0, .iface 164 (.pointer (some (A 0)))]) ∧ Below w.heap.size w w' := by
  have c0 : w.cell? ⟨1, 0, none⟩ = _ := hC.errs.cell 0 (by omega)
  clear hC
  go_enter Tryd.func54, Tryd.ntmps54
  go_wp2_with (go_at_call 63; refine (hX _).mono ?_; rintro e w' ⟨rfl, rfl⟩)
  go_quiet (fail)
  go_wp2
  go_ret3
  exact ⟨rfl, below_drewN (Below.refl _ _) _⟩

/-- a number's text that isn't whole -/
theorem take_part (s : ByteArray) (x : Int) (w : World) (A : Nat → Addr) (hC : Cond w A) (n : Nat) (h0 : n ≠ 0)
    (hX : ∀ w, Calls Tryd.prog 63 #[.string s, .int .i64 x] w fun e w' => e = .returned (.tuple #[.int .i64 n, .bool false]) ∧ w = w') :
    Calls Tryd.prog 54 #[.string s, .int .i64 x] w fun e w' => e = .returned (.tuple #[.int .i64 0, .int .i64 0, .iface 164 (.pointer (some (A 3)))]) ∧ Below w.heap.size w w' := by
  have c0 : w.cell? ⟨3, 0, none⟩ = _ := hC.errs.cell 3 (by omega)
  clear hC
  have hn : ((n : Int) == 0) = false := by simp; omega
  go_enter Tryd.func54, Tryd.ntmps54
  go_wp2_with (go_at_call 63; refine (hX _).mono ?_; rintro e w' ⟨rfl, rfl⟩)
  go_quiet (fail)
  go_wp2
  go_ret3
  exact ⟨rfl, below_drewN (Below.refl _ _) _⟩

set_option maxHeartbeats 400000 in
theorem take_range (s : ByteArray) (a : Nat) (w : World) (A : Nat → Addr) (hC : Cond w A) (hs : s.size ≤ 200000) (f : Nat) (h0 : f ≠ 0) (haf : a + f ≤ s.size)
    (hX : ∀ w, Calls Tryd.prog 63 #[.string s, .int .i64 a] w fun e w' => e = .returned (.tuple #[.int .i64 f, .bool true]) ∧ w = w')
    (h : Lib.atoiAll ((s.data.toList.drop a).take f) = .range) :
    Calls Tryd.prog 54 #[.string s, .int .i64 a] w fun e w' => e = .returned (.tuple #[.int .i64 0, .int .i64 0, .iface 164 (.pointer (some (A 3)))]) ∧ Below w.heap.size w w' := by
  have hn : ((f : Int) == 0) = false := by simp; omega
  have hP := fun w hC => pint_range (s.extract a (a + f)) (by rw [Lib.extract_data, Nat.add_sub_cancel_left]; exact h) (by rw [ByteArray.size_extract]; omega) w A hC
  have HC := Lib.hid hC
  clear h hC
  have hnl := fun (w : World) (x : Value) => @run_neq_iface_nil Tryd.prog w 31 (by kernel_rfl) 135 x
  go_enter Tryd.func54, Tryd.ntmps54
  go_wp2_with (first
    | (go_at_call 63; refine (hX _).mono ?_; rintro e w' ⟨rfl, rfl⟩)
    | (go_at_call 64; refine (hP _ HC.out).mono ?_; rintro e w1 ⟨⟨v, N, rfl⟩, hb⟩; have c0 : w1.cell? ⟨3, 0, none⟩ = _ := (HC.out.errs.below hb).cell 3 (by omega)))
  go_quiet (fail)
  go_wp2
  go_ret3
  exact ⟨rfl, below_drewN hb _⟩

set_option maxHeartbeats 400000 in
theorem take_ok (s : ByteArray) (a : Nat) (w : World) (hs : s.size ≤ 200000) (f : Nat) (h0 : f ≠ 0) (haf : a + f ≤ s.size)
    (hX : ∀ w, Calls Tryd.prog 63 #[.string s, .int .i64 a] w fun e w' => e = .returned (.tuple #[.int .i64 f, .bool true]) ∧ w = w')
    (v : Int) (h : wholeV ((s.data.toList.drop a).take f) = some v) :
    Calls Tryd.prog 54 #[.string s, .int .i64 a] w fun e w' => e = .returned (.tuple #[.int .i64 v, .int .i64 f, .nilIface]) ∧ Below w.heap.size w w' := by
  have hn : ((f : Int) == 0) = false := by simp; omega
  have hP := fun w => pint_ok (s.extract a (a + f)) v (by rw [Lib.extract_data, Nat.add_sub_cancel_left]; exact h) (by rw [ByteArray.size_extract]; omega) w
  have hvb := Lib.parseIntB_bounds (B := 64) (v := v) (l := (s.data.toList.drop a).take f) (by rw [Lib.parseIntB_64]; exact wholeV_some h)
  clear h
  have hnl := fun (w : World) => @run_neq_nil_nil_at Tryd.prog w 31 (by kernel_rfl)
  go_enter Tryd.func54, Tryd.ntmps54
  go_wp2_with (first
    | (go_at_call 63; refine (hX _).mono ?_; rintro e w' ⟨rfl, rfl⟩)
    | (go_at_call 64; refine (hP _).mono ?_; rintro e w1 ⟨rfl, hb⟩))
  go_ret3
  exact ⟨rfl, hb⟩

end Go.Proofs.YtlaagdpanbineaaDoor.I2

/- ints.Take at every place; haversacknum.Num of what it answers; the laws' first lines. -/
namespace Go.Proofs.YtlaagdpanbineaaDoor.I2
open Go.RowKit

/-- the error that is answered -/
def errVal (A : Nat → Addr) : Option Nat → Value
  | none => .nilIface
  | some k => .iface 164 (.pointer (some (A k)))
theorem errVal_none (A : Nat → Addr) : errVal A none = .nilIface := rfl
theorem errVal_some (A : Nat → Addr) (k : Nat) : errVal A (some k) = .iface 164 (.pointer (some (A k))) := rfl

theorem takeR_errs {l : List UInt8} {v : Int} {z : Nat} {o : Option Nat} (h : takeR l = (v, z, o)) : o = none ∨ o = some 0 ∨ o = some 3 := by
  unfold takeR at h
  split at h
  · simp only [Prod.mk.injEq] at h; exact .inr (.inl h.2.2.symm)
  · split at h
    · simp only [Prod.mk.injEq] at h; exact .inl h.2.2.symm
    · simp only [Prod.mk.injEq] at h; exact .inr (.inr h.2.2.symm)

theorem take_any (s : ByteArray) (x : Int) (w : World) (A : Nat → Addr) (hC : Cond w A) (hs : s.size ≤ 200000) {v : Int} {z : Nat} {o : Option Nat} (hR : takeR (restL s.data.toList x) = (v, z, o)) :
    Calls Tryd.prog 54 #[.string s, .int .i64 x] w fun e w' => e = .returned (.tuple #[.int .i64 v, .int .i64 z, errVal A o]) ∧ Below w.heap.size w w' := by
  have hsm : s.size ≤ maxLen := by unfold maxLen; omega
  by_cases hx : x < 0 ∨ s.size ≤ x
  · rw [restL_out hx, takeR_syn rfl] at hR
    simp only [Prod.mk.injEq] at hR
    obtain ⟨rfl, rfl, rfl⟩ := hR
    exact take_syntax s x w A hC (fun w => extent_out s x w hsm hx)
  · obtain ⟨a, rfl⟩ := Int.eq_ofNat_of_zero_le (by omega : 0 ≤ x)
    have ha : a < s.size := by omega
    rw [restL_in] at hR
    by_cases hf : front (s.data.toList.drop a) = 0
    · rw [takeR_syn hf] at hR
      simp only [Prod.mk.injEq] at hR
      obtain ⟨rfl, rfl, rfl⟩ := hR
      exact take_syntax s a w A hC (fun w => extent_zero s a w hsm ha hf)
    · have hfl := front_le (s.data.toList.drop a)
      rw [List.length_drop, size_list] at hfl
      have hfa := front_all (s.data.toList.drop a)
      by_cases h2 : allOf (s.data.toList.drop a) = front (s.data.toList.drop a)
      · have hX := fun w => extent_some s a w hsm ha rfl hf rfl (b := true) (by rw [h2]; simp)
        rw [h2] at hX
        cases hw : wholeV ((s.data.toList.drop a).take (front (s.data.toList.drop a))) with
        | none =>
          rw [takeR_none hf hw] at hR
          simp only [Prod.mk.injEq] at hR
          obtain ⟨rfl, rfl, rfl⟩ := hR
          exact take_range s a w A hC hs _ hf (by omega) hX (wholeV_none hf hw)
        | some u =>
          rw [takeR_ok hf h2 hw] at hR
          simp only [Prod.mk.injEq] at hR
          obtain ⟨rfl, rfl, rfl⟩ := hR
          exact take_ok s a w hs _ hf (by omega) hX _ hw
      · have hX := fun w => extent_some s a w hsm ha rfl hf rfl (b := false) (by simpa using h2)
        rw [takeR_part hf h2] at hR
        simp only [Prod.mk.injEq] at hR
        obtain ⟨rfl, rfl, rfl⟩ := hR
        exact take_part s a w A hC _ (by omega) hX

end Go.Proofs.YtlaagdpanbineaaDoor.I2

