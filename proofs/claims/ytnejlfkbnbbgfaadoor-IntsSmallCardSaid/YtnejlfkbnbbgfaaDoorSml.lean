/- ints.Small and the document's Small: the number of few digits. -/
import Derived.Test.YtnejlfkbnbbgfaaDoorVal
namespace Go.Proofs.YtnejlfkbnbbgfaaDoor
open Go.RowKit

theorem val_lt (l : List UInt8) : ∀ acc : Nat, allDg l → valFrom acc l < (acc + 1) * 10 ^ l.length := by
  induction l with
  | nil => intro acc _; rw [valFrom_nil]; simp
  | cons c r ih =>
    intro acc h
    have hc := h c (List.mem_cons_self ..)
    have h1 := ih (acc * 10 + (c.toNat - 48)) (fun x hx => h x (List.mem_cons_of_mem _ hx))
    rw [valFrom_cons, List.length_cons, Nat.pow_succ]
    have h2 : (acc * 10 + (c.toNat - 48) + 1) * 10 ^ r.length ≤ ((acc + 1) * 10) * 10 ^ r.length := Nat.mul_le_mul_right _ (by omega)
    rw [Nat.mul_comm (10 ^ r.length) 10, ← Nat.mul_assoc]
    omega
theorem val_15 {l : List UInt8} (h : allDg l) (hl : l.length ≤ 15) : valFrom 0 l < 1000000000000000 := by
  have h1 := val_lt l 0 h
  have h2 : 10 ^ l.length ≤ 10 ^ 15 := Nat.pow_le_pow_right (by omega) hl
  omega
theorem allDg_of {l : List UInt8} (h : digs l = l.length) : allDg l := by
  have := allDg_take (l := l) (n := l.length) (by omega)
  rwa [List.take_length] at this

/-- few digits -/
def Few (s : ByteArray) : Prop := 0 < s.size ∧ s.size ≤ 15 ∧ digs s.data.toList = s.size

set_option maxHeartbeats 400000 in
theorem small_bad (s : ByteArray) (m : Int) (w : World) (hs : s.size ≤ maxLen) (h : ¬ Few s) :
    Calls Tryd.prog 17 #[.string s, .int .i64 m] w fun e w' => e = .returned (.tuple #[.int .i64 0, .bool false]) ∧ w = w' := by
  have hD := fun w => digits_any s w hs
  unfold maxLen at hs
  by_cases h0 : s.size = 0
  · have hl := nil_list h0
    have hb := nil_listB h0
    clear h hD
    go_enter Tryd.func17, Tryd.ntmps17
    go_wp2
    go_ret2
    exact ⟨rfl, rfl⟩
  · have hl := ne_list (s := s) (by omega)
    have hb := ne_listB (s := s) (by omega)
    by_cases h1 : 15 < s.size
    · clear h hD
      go_enter Tryd.func17, Tryd.ntmps17
      go_wp2
      go_ret2
      exact ⟨rfl, rfl⟩
    · have h2 : digs s.data.toList ≠ s.size := fun e => h ⟨by omega, by omega, e⟩
      generalize digs s.data.toList = n at *
      have q1 : ((n : Int) != (s.size : Int)) = true := by simp; omega
      have q2 : ((n : Int) == (s.size : Int)) = false := by simp; omega
      clear h h2
      go_enter Tryd.func17, Tryd.ntmps17
      go_wp2_with (go_at_call 25; refine (hD _).mono ?_; rintro e w' ⟨rfl, rfl⟩)
      go_ret2
      exact ⟨rfl, rfl⟩

set_option maxHeartbeats 400000 in
theorem rsmall_bad (s : ByteArray) (m : Int) (w : World) (hs : s.size ≤ maxLen) (h : ¬ Few s) :
    Calls Tryd.prog 18 #[.string s, .int .i64 m] w fun e w' => e = .returned (.int .i64 (-1)) ∧ w = w' := by
  have hD := fun w => run_at s 0 0 rfl w hs (by omega) (n := digs s.data.toList) (by rw [List.drop_zero])
  have hle := digs_le s.data.toList
  rw [size_list] at hle
  unfold maxLen at hs
  by_cases h0 : s.size = 0
  · have hl := nil_list h0
    have hb := nil_listB h0
    clear h hD
    go_enter Tryd.func18, Tryd.ntmps18
    go_wp2
    go_ret
    exact ⟨rfl, rfl⟩
  · have hl := ne_list (s := s) (by omega)
    have hb := ne_listB (s := s) (by omega)
    by_cases h1 : 15 < s.size
    · clear h hD
      go_enter Tryd.func18, Tryd.ntmps18
      go_wp2
      go_ret
      exact ⟨rfl, rfl⟩
    · have h2 : digs s.data.toList ≠ s.size := fun e => h ⟨by omega, by omega, e⟩
      generalize digs s.data.toList = n at *
      have h3 : n < s.size := by omega
      clear h h2
      go_enter Tryd.func18, Tryd.ntmps18
      go_wp2_with (go_at_call 23; refine (hD _).mono ?_; rintro e w' ⟨rfl, rfl⟩)
      go_ret
      exact ⟨rfl, rfl⟩

set_option maxHeartbeats 1000000 in
theorem small_few (s : ByteArray) (m : Int) (w : World) (h : Few s) {a : Int} (ha : a = valFrom 0 s.data.toList) :
    Calls Tryd.prog 17 #[.string s, .int .i64 m] w fun e w' => (e = if a ≤ m then .returned (.tuple #[.int .i64 a, .bool true]) else .returned (.tuple #[.int .i64 0, .bool false])) ∧ w = w' := by
  obtain ⟨h0, h15, hd⟩ := h
  have hD := fun w => digits_any s w (by unfold maxLen; omega)
  rw [hd] at hD
  have HDG := Lib.hid (allDg_of (l := s.data.toList) (by rw [hd, size_list]))
  have HV := Lib.hid (val_15 HDG.out (by rw [size_list]; exact h15))
  have HA := Lib.hid ha
  have hl := ne_list (s := s) h0
  have hb := ne_listB (s := s) h0
  clear ha hd
  by_cases hm : a ≤ m
  all_goals
    first | rw [if_pos hm] | rw [if_neg hm]
    go_enter Tryd.func17, Tryd.ntmps17
    go_wp2_with (go_at_call 25; refine (hD _).mono ?_; rintro e w' ⟨rfl, rfl⟩)
    go_loop [6, 7, 24] (fun n _ i => ∃ (k : Nat) (u : Int), k ≤ s.size ∧ i = .int .i64 k ∧ n = .int .i64 u ∧ 0 ≤ u ∧ Hid (u = valFrom 0 (s.data.toList.take k))) (fun _ _ i => s.size - (intOf i).toNat)
    case atStart => exact ⟨0, 0, by omega, rfl, rfl, by omega, by simp [valFrom, Hid]⟩
    case round =>
      obtain ⟨k, u, hk, rfl, rfl, hu, HU⟩ := hrel
      by_cases hlt : k < s.size
      · have hb := allDg_at HDG.out (i := k) (by rw [size_list]; exact hlt)
        rw [← bAt_in s k hlt] at hb
        unfold isDg at hb
        obtain ⟨h1, h2⟩ := hb
        have hsn : ((valFrom 0 (s.data.toList.take (k + 1)) : Nat) : Int) = u * 10 + ((s[k].toNat : Int) - 48) := by
          have := val_snoc hlt; have h3 := HU.out; omega
        have hle : u * 10 + ((s[k].toNat : Int) - 48) < 1000000000000000 := by
          have := val_prefix s.data.toList (k + 1); have h3 := HV.out; omega
        have HSN := Lib.hid hsn
        clear hsn
        go_wp2
        go_round
        case rel => exact ⟨k + 1, u * 10 + ((s[k].toNat : Int) - 48), by omega, by go_num, by go_num, by omega, HSN.out.symm⟩
        case measure => simp [intOf]; omega
      · have hua : u = a := by
          have h1 := HU.out
          rw [List.take_of_length_le (by rw [size_list]; omega)] at h1
          rw [h1, HA.out]
        subst hua
        go_wp2
        go_ret2
        exact ⟨rfl, rfl⟩

set_option maxHeartbeats 1000000 in
theorem rsmall_few (s : ByteArray) (m : Int) (w : World) (h : Few s) {a : Int} (ha : a = valFrom 0 s.data.toList) :
    Calls Tryd.prog 18 #[.string s, .int .i64 m] w fun e w' => (e = if a ≤ m then .returned (.int .i64 a) else .returned (.int .i64 (-1))) ∧ w = w' := by
  obtain ⟨h0, h15, hd⟩ := h
  have hD := fun w => run_at s 0 0 rfl w (by unfold maxLen; omega) (by omega) (n := s.size) (by rw [List.drop_zero]; exact hd)
  have HDG := Lib.hid (allDg_of (l := s.data.toList) (by rw [hd, size_list]))
  have HV := Lib.hid (val_15 HDG.out (by rw [size_list]; exact h15))
  have HA := Lib.hid ha
  have hl := ne_list (s := s) h0
  have hb := ne_listB (s := s) h0
  clear ha hd
  by_cases hm : a ≤ m
  all_goals
    first | rw [if_pos hm] | rw [if_neg hm]
    go_enter Tryd.func18, Tryd.ntmps18
    go_wp2_with (go_at_call 23; refine (hD _).mono ?_; rintro e w' ⟨rfl, rfl⟩)
    go_loop [5, 6] (fun n i => ∃ (k : Nat) (u : Int), k ≤ s.size ∧ i = .int .i64 k ∧ n = .int .i64 u ∧ 0 ≤ u ∧ Hid (u = valFrom 0 (s.data.toList.take k))) (fun _ i => s.size - (intOf i).toNat)
    case atStart => exact ⟨0, 0, by omega, rfl, rfl, by omega, by simp [valFrom, Hid]⟩
    case round =>
      obtain ⟨k, u, hk, rfl, rfl, hu, HU⟩ := hrel
      by_cases hlt : k < s.size
      · have hb := allDg_at HDG.out (i := k) (by rw [size_list]; exact hlt)
        rw [← bAt_in s k hlt] at hb
        unfold isDg at hb
        obtain ⟨h1, h2⟩ := hb
        have hsn : ((valFrom 0 (s.data.toList.take (k + 1)) : Nat) : Int) = u * 10 + ((s[k].toNat : Int) - 48) := by
          have := val_snoc hlt; have h3 := HU.out; omega
        have hle : u * 10 + ((s[k].toNat : Int) - 48) < 1000000000000000 := by
          have := val_prefix s.data.toList (k + 1); have h3 := HV.out; omega
        have HSN := Lib.hid hsn
        clear hsn
        go_wp2
        go_round
        case rel => exact ⟨k + 1, u * 10 + ((s[k].toNat : Int) - 48), by omega, by go_num, by go_num, by omega, HSN.out.symm⟩
        case measure => simp [intOf]; omega
      · have hua : u = a := by
          have h1 := HU.out
          rw [List.take_of_length_le (by rw [size_list]; omega)] at h1
          rw [h1, HA.out]
        subst hua
        go_wp2
        go_ret
        exact ⟨rfl, rfl⟩

end Go.Proofs.YtnejlfkbnbbgfaaDoor
