/- ints.Take: the number at a place. -/
import Derived.Test.YtnlpdpbmmpeiaaaDoorSig
import Derived.Test.YtnlpdpbmmpeiaaaDoorCond
import Derived.Lib.ParseIntBTie
import Derived.Deep.QuietTactic
import Derived.BigQuiet
namespace Go.Proofs.YtnlpdpbmmpeiaaaDoor.I2
open Go.RowKit

theorem pint_ok (t : ByteArray) (v : Int) (h : wholeV t.data.toList = some v) (ht : t.size ≤ 200000) (w : World) :
    Calls Tryd.prog 39 #[.string t, .int .i64 10, .int .i64 64] w fun e w' => e = .returned (.tuple #[.int .i64 v, .nilIface]) ∧ Below w.heap.size w w' :=
  (Tryd.strconv_ParseInt_10_at64_ok t (by omega) v (by rw [Lib.parseIntB_64]; exact wholeV_some h) w).mono fun e w' ⟨he, hw⟩ => ⟨he, by
    rcases hw with rfl | ⟨t, rfl⟩
    · exact Below.refl _ _
    · exact Lib.bytesWorld_below _ _ _⟩

theorem pint_range (t : ByteArray) (h : Lib.atoiAll t.data.toList = .range) (ht : t.size ≤ 200000) (w : World) (A : Nat → Addr) (hC : Cond w A) :
    Calls Tryd.prog 39 #[.string t, .int .i64 10, .int .i64 64] w fun e w' => (∃ v N, e = .returned (.tuple #[.int .i64 v, .iface 104 (.pointer (some ⟨N, 0, none⟩))])) ∧ Below w.heap.size w w' := by
  obtain ⟨tp, p, hr⟩ := hC.rng
  exact (Tryd.strconv_ParseInt_10_at64_range t (by omega) (by rw [Lib.parseIntB_64]; exact h) _ w hr (.inr ⟨_, _, rfl⟩)).mono fun e w' ⟨N, he, _, _, hb⟩ => ⟨⟨_, _, he⟩, hb⟩

/-- where no number's text begins -/
theorem take_syntax (s : ByteArray) (x : Int) (w : World) (A : Nat → Addr) (hC : Cond w A)
    (hX : ∀ w, Calls Tryd.prog 38 #[.string s, .int .i64 x] w fun e w' => e = .returned (.tuple #[.int .i64 0, .bool false]) ∧ w = w') :
    Calls Tryd.prog 33 #[.string s, .int .i64 x] w fun e w' => e = .returned (.tuple #[.int .i64 0, .int .i64 0, .iface 122 (.pointer (some (A 0)))]) ∧ Below w.heap.size w w' := by
  have c0 : w.cell? ⟨1, 0, none⟩ = _ := hC.errs.cell 0 (by omega)
  clear hC
  go_enter Tryd.func33, Tryd.ntmps33
  go_wp2_with (go_at_call 38; refine (hX _).mono ?_; rintro e w' ⟨rfl, rfl⟩)
  go_quiet (fail)
  go_wp2
  go_ret3
  exact ⟨rfl, below_drewN (Below.refl _ _) _⟩

/-- a number's text that isn't whole -/
theorem take_part (s : ByteArray) (x : Int) (w : World) (A : Nat → Addr) (hC : Cond w A) (n : Nat) (h0 : n ≠ 0)
    (hX : ∀ w, Calls Tryd.prog 38 #[.string s, .int .i64 x] w fun e w' => e = .returned (.tuple #[.int .i64 n, .bool false]) ∧ w = w') :
    Calls Tryd.prog 33 #[.string s, .int .i64 x] w fun e w' => e = .returned (.tuple #[.int .i64 0, .int .i64 0, .iface 122 (.pointer (some (A 3)))]) ∧ Below w.heap.size w w' := by
  have c0 : w.cell? ⟨3, 0, none⟩ = _ := hC.errs.cell 3 (by omega)
  clear hC
  have hn : ((n : Int) == 0) = false := by simp; omega
  go_enter Tryd.func33, Tryd.ntmps33
  go_wp2_with (go_at_call 38; refine (hX _).mono ?_; rintro e w' ⟨rfl, rfl⟩)
  go_quiet (fail)
  go_wp2
  go_ret3
  exact ⟨rfl, below_drewN (Below.refl _ _) _⟩

set_option maxHeartbeats 400000 in
theorem take_range (s : ByteArray) (a : Nat) (w : World) (A : Nat → Addr) (hC : Cond w A) (hs : s.size ≤ 200000) (f : Nat) (h0 : f ≠ 0) (haf : a + f ≤ s.size)
    (hX : ∀ w, Calls Tryd.prog 38 #[.string s, .int .i64 a] w fun e w' => e = .returned (.tuple #[.int .i64 f, .bool true]) ∧ w = w')
    (h : Lib.atoiAll ((s.data.toList.drop a).take f) = .range) :
    Calls Tryd.prog 33 #[.string s, .int .i64 a] w fun e w' => e = .returned (.tuple #[.int .i64 0, .int .i64 0, .iface 122 (.pointer (some (A 3)))]) ∧ Below w.heap.size w w' := by
  have hn : ((f : Int) == 0) = false := by simp; omega
  have hP := fun w hC => pint_range (s.extract a (a + f)) (by rw [Lib.extract_data, Nat.add_sub_cancel_left]; exact h) (by rw [ByteArray.size_extract]; omega) w A hC
  have HC := Lib.hid hC
  clear h hC
  have hnl := fun (w : World) (x : Value) => @run_neq_iface_nil Tryd.prog w 31 (by kernel_rfl) 104 x
  go_enter Tryd.func33, Tryd.ntmps33
  go_wp2_with (first
    | (go_at_call 38; refine (hX _).mono ?_; rintro e w' ⟨rfl, rfl⟩)
    | (go_at_call 39; refine (hP _ HC.out).mono ?_; rintro e w1 ⟨⟨v, N, rfl⟩, hb⟩; have c0 : w1.cell? ⟨3, 0, none⟩ = _ := (HC.out.errs.below hb).cell 3 (by omega)))
  go_quiet (fail)
  go_wp2
  go_ret3
  exact ⟨rfl, below_drewN hb _⟩

set_option maxHeartbeats 400000 in
theorem take_ok (s : ByteArray) (a : Nat) (w : World) (hs : s.size ≤ 200000) (f : Nat) (h0 : f ≠ 0) (haf : a + f ≤ s.size)
    (hX : ∀ w, Calls Tryd.prog 38 #[.string s, .int .i64 a] w fun e w' => e = .returned (.tuple #[.int .i64 f, .bool true]) ∧ w = w')
    (v : Int) (h : wholeV ((s.data.toList.drop a).take f) = some v) :
    Calls Tryd.prog 33 #[.string s, .int .i64 a] w fun e w' => e = .returned (.tuple #[.int .i64 v, .int .i64 f, .nilIface]) ∧ Below w.heap.size w w' := by
  have hn : ((f : Int) == 0) = false := by simp; omega
  have hP := fun w => pint_ok (s.extract a (a + f)) v (by rw [Lib.extract_data, Nat.add_sub_cancel_left]; exact h) (by rw [ByteArray.size_extract]; omega) w
  have hvb := Lib.parseIntB_bounds (B := 64) (v := v) (l := (s.data.toList.drop a).take f) (by rw [Lib.parseIntB_64]; exact wholeV_some h)
  clear h
  have hnl := fun (w : World) => @run_neq_nil_nil_at Tryd.prog w 31 (by kernel_rfl)
  go_enter Tryd.func33, Tryd.ntmps33
  go_wp2_with (first
    | (go_at_call 38; refine (hX _).mono ?_; rintro e w' ⟨rfl, rfl⟩)
    | (go_at_call 39; refine (hP _).mono ?_; rintro e w1 ⟨rfl, hb⟩))
  go_ret3
  exact ⟨rfl, hb⟩

end Go.Proofs.YtnlpdpbmmpeiaaaDoor.I2
