/- The contracts of package glob's tests of all bytes, and of Word, Pattern, Name and Plain, in any world. -/
import Derived.Test.YtpkhcelakfdjfaaDoorGa
import Derived.Shelf.Abstract
namespace Go.Proofs.YtpkhcelakfdjfaaDoor
open Go.RowKit Go.Shelf

/-- has each byte of a text f? -/
def allB (f : UInt8 → Bool) (s : ByteArray) : Bool := s.data.toList.all f
theorem size_list (s : ByteArray) : s.data.toList.length = s.size := rfl
theorem getL (s : ByteArray) (k : Nat) (h : k < s.size) : s.data.toList[k]'(by rw [size_list]; exact h) = s[k] := rfl
theorem byte_eq (a b : UInt8) : ((a.toNat : Int) == (b.toNat : Int)) = decide (a = b) := by
  rw [Bool.eq_iff_iff, beq_iff_eq, decide_eq_true_iff]
  exact ⟨fun h => UInt8.toNat_inj.1 (by omega), fun h => by rw [h]⟩
theorem byte_lit (a : UInt8) : ((a.toNat : Int) == 42) = decide (a = 42) := by
  rw [← byte_eq]; rfl
theorem all_snoc (f : UInt8 → Bool) (s : ByteArray) (k : Nat) (h : k < s.size) : (s.data.toList.take (k + 1)).all f = ((s.data.toList.take k).all f && f s[k]) := by
  rw [List.take_succ_eq_append_getElem (by rw [size_list]; exact h), getL _ _ h]; simp
theorem all_off (f : UInt8 → Bool) (s : ByteArray) (k : Nat) (h : k < s.size) (hf : f s[k] = false) : allB f s = false := by
  unfold allB
  rw [List.all_eq_false]
  exact ⟨s[k], by rw [← getL _ _ h]; exact List.getElem_mem _, by simp [hf]⟩
theorem all_end (f : UInt8 → Bool) (s : ByteArray) (h : (s.data.toList.take s.size).all f = true) : allB f s = true := by
  unfold allB
  rwa [List.take_of_length_le (by rw [size_list]; exact Nat.le_refl _)] at h

set_option maxHeartbeats 1000000 in
theorem every_any (k : Nat) (f : UInt8 → Bool) (he : ∀ args w, (callFunc k args).run Tryd.prog w = .ok (.enter k args) w)
    (hf : ∀ (c : UInt8) (w : World), Calls Tryd.prog k #[.int .u8 c.toNat] w fun e w' => e = .returned (.bool (f c)) ∧ w = w') (s : ByteArray) (w : World) (hs : s.size ≤ 100000000) :
    Calls Tryd.prog 14 #[.string s, .func (.func k) #[] #[]] w fun e w' => e = .returned (.bool (allB f s)) ∧ w = w' := by
  go_enter Tryd.func14, Tryd.ntmps14
  go_wp2
  go_loop [5, 8] (fun _ i => ∃ j : Nat, j ≤ s.size ∧ i = .int .i64 j ∧ Hid ((s.data.toList.take j).all f = true)) (fun _ i => s.size - (intOf i).toNat)
  case atStart => exact ⟨0, Nat.zero_le _, rfl, rfl⟩
  case round =>
    obtain ⟨j, hj, rfl, hall⟩ := hrel
    by_cases hlt : j < s.size
    · cases hv : f s[j] with
      | true =>
        have hq := hf s[j]
        rw [hv] at hq
        have hn : Hid ((s.data.toList.take (j + 1)).all f = true) := by rw [all_snoc f s j hlt, hall.out, hv]; rfl
        clear hv hall hf
        go_wp2_with (go_at_fn k; refine (hq _).mono ?_; rintro e w' ⟨rfl, rfl⟩)
        go_round
        case rel => exact ⟨j + 1, by omega, by go_num, hn⟩
        case measure => simp [intOf]; omega
      | false =>
        have hq := hf s[j]
        rw [hv] at hq
        have hn := Lib.hid (all_off f s j hlt hv)
        clear hv hall hf
        go_wp2_with (go_at_fn k; refine (hq _).mono ?_; rintro e w' ⟨rfl, rfl⟩)
        go_ret
        exact ⟨ret_bool hn.out.symm, rfl⟩
    · have hz : j = s.size := by omega
      subst hz
      have hn := Lib.hid (all_end f s hall.out)
      clear hall hf
      go_wp2
      go_ret
      exact ⟨ret_bool hn.out.symm, rfl⟩

/-! ### the closures -/
def starB (c : UInt8) : Bool := c == 42
def patB (c : UInt8) : Bool := wordB c || c == 42
def nameB (c : UInt8) : Bool := wordB c && !capB c && c != 43 && c != 33
def plainB (c : UInt8) : Bool := c != 42
theorem eq_nat (c : UInt8) (n : Nat) (hn : n < 256) : (c == UInt8.ofNat n) = decide (((c.toNat : Nat) : Int) = ((n : Nat) : Int)) := by
  rw [Bool.eq_iff_iff, beq_iff_eq, decide_eq_true_iff]
  constructor
  · rintro rfl; simp; omega
  · intro h
    have : c.toNat = n := by omega
    rw [← this]; simp
theorem plain1_any (c : UInt8) (w : World) :
    Calls Tryd.prog 15 #[.int .u8 c.toNat] w fun e w' => e = .returned (.bool (plainB c)) ∧ w = w' := by
  by_cases h : c = 42
  · subst h
    go_enter Tryd.func15, Tryd.ntmps15
    go_wp2
    go_ret
    exact ⟨rfl, rfl⟩
  · have h2 : ((c.toNat : Int) != 42) = true := by
      rw [bne_iff_ne]; intro e; exact h (UInt8.toNat_inj.1 (by simp; omega))
    have hb : plainB c = true := by simp [plainB, h]
    rw [hb]
    clear h hb
    go_enter Tryd.func15, Tryd.ntmps15
    go_wp2
    go_ret
    exact ⟨rfl, rfl⟩

































set_option maxHeartbeats 1000000 in
theorem name1_any (c : UInt8) (w : World) :
    Calls Tryd.prog 18 #[.int .u8 c.toNat] w fun e w' => e = .returned (.bool (nameB c)) ∧ w = w' := by
  have hq := ofWords_any c
  have hk := capital_any c
  cases hw : wordB c with
  | false =>
    rw [hw] at hq
    have hb : nameB c = false := by simp [nameB, hw]
    rw [hb]
    clear hb hw
    go_enter Tryd.func18, Tryd.ntmps18
    go_wp2_with (go_at_call 19; refine (hq _).mono ?_; rintro e w' ⟨rfl, rfl⟩)
    go_ret
    exact ⟨rfl, rfl⟩
  | true =>
    rw [hw] at hq
    cases hc : capB c with
    | true =>
      rw [hc] at hk
      have hb : nameB c = false := by simp [nameB, hw, hc]
      rw [hb]
      clear hb hw hc
      go_enter Tryd.func18, Tryd.ntmps18
      go_wp2_with (first | (go_at_call 19; refine (hq _).mono ?_; rintro e w' ⟨rfl, rfl⟩) | (go_at_call 16; refine (hk _).mono ?_; rintro e w' ⟨rfl, rfl⟩))
      go_ret
      exact ⟨rfl, rfl⟩
    | false =>
      rw [hc] at hk
      by_cases h : c = 43
      · subst h
        have hb : nameB 43 = false := by simp [nameB]
        rw [hb]
        clear hb hw hc
        go_enter Tryd.func18, Tryd.ntmps18
        go_wp2_with (first | (go_at_call 19; refine (hq _).mono ?_; rintro e w' ⟨rfl, rfl⟩) | (go_at_call 16; refine (hk _).mono ?_; rintro e w' ⟨rfl, rfl⟩))
        go_ret
        exact ⟨rfl, rfl⟩
      · have h2 : ((c.toNat : Int) != 43) = true := by
          rw [bne_iff_ne]; intro e; exact h (UInt8.toNat_inj.1 (by simp; omega))
        by_cases h3 : c = 33
        · subst h3
          have hb : nameB 33 = false := by simp [nameB]
          rw [hb]
          clear hb hw hc h
          go_enter Tryd.func18, Tryd.ntmps18
          go_wp2_with (first | (go_at_call 19; refine (hq _).mono ?_; rintro e w' ⟨rfl, rfl⟩) | (go_at_call 16; refine (hk _).mono ?_; rintro e w' ⟨rfl, rfl⟩))
          go_ret
          exact ⟨rfl, rfl⟩
        · have h4 : ((c.toNat : Int) != 33) = true := by
            rw [bne_iff_ne]; intro e; exact h3 (UInt8.toNat_inj.1 (by simp; omega))
          have hb : nameB c = true := by simp [nameB, hw, hc, h, h3]
          rw [hb]
          clear hb hw hc h h3
          go_enter Tryd.func18, Tryd.ntmps18
          go_wp2_with (first | (go_at_call 19; refine (hq _).mono ?_; rintro e w' ⟨rfl, rfl⟩) | (go_at_call 16; refine (hk _).mono ?_; rintro e w' ⟨rfl, rfl⟩))
          go_ret
          exact ⟨rfl, rfl⟩

/-- 1 to 40 bytes, each of which is as asked -/
def okB (f : UInt8 → Bool) (s : ByteArray) : Bool := decide (1 ≤ s.size ∧ s.size ≤ 40) && allB f s
theorem written_any (k : Nat) (f : UInt8 → Bool) (he : ∀ args w, (callFunc k args).run Tryd.prog w = .ok (.enter k args) w)
    (hf : ∀ (c : UInt8) (w : World), Calls Tryd.prog k #[.int .u8 c.toNat] w fun e w' => e = .returned (.bool (f c)) ∧ w = w') (s : ByteArray) (w : World) (hs : s.size ≤ 100000000) :
    Calls Tryd.prog 17 #[.string s, .func (.func k) #[] #[]] w fun e w' => e = .returned (.bool (okB f s)) ∧ w = w' := by
  by_cases h1 : 1 ≤ s.size
  · by_cases h2 : s.size ≤ 40
    · have hb : okB f s = allB f s := by unfold okB; rw [decide_eq_true ⟨h1, h2⟩]; rfl
      rw [hb]
      have hq := every_any k f he hf s w hs
      clear hb hf
      go_enter Tryd.func17, Tryd.ntmps17
      go_wp2_with (go_at_call 14; refine hq.mono ?_; rintro e w' ⟨rfl, rfl⟩)
      go_ret
      exact ⟨rfl, rfl⟩
    · have hb : okB f s = false := by unfold okB; rw [decide_eq_false (by omega)]; rfl
      rw [hb]
      have h3 : 40 < s.size := by omega
      clear hb hf h2
      go_enter Tryd.func17, Tryd.ntmps17
      go_wp2
      go_ret
      exact ⟨ret_bool (by simp; try omega), rfl⟩
  · have hb : okB f s = false := by unfold okB; rw [decide_eq_false (by omega)]; rfl
    rw [hb]
    have h3 : s.size < 1 := by omega
    clear hb hf h1
    go_enter Tryd.func17, Tryd.ntmps17
    go_wp2
    go_ret
    exact ⟨ret_bool (by simp; try omega), rfl⟩















theorem name_any (s : ByteArray) (w : World) (hs : s.size ≤ 100000000) :
    Calls Tryd.prog 12 #[.string s] w fun e w' => e = .returned (.bool (okB nameB s)) ∧ w = w' := by
  have hq := written_any 18 nameB (enters_of Tryd.func18 (by kernel_rfl) rfl) name1_any s w hs
  go_enter Tryd.func12, Tryd.ntmps12
  go_wp2_with (go_at_call 17; refine hq.mono ?_; rintro e w' ⟨rfl, rfl⟩)
  go_ret
  exact ⟨rfl, rfl⟩
theorem plain_any (s : ByteArray) (w : World) (hs : s.size ≤ 100000000) :
    Calls Tryd.prog 8 #[.string s] w fun e w' => e = .returned (.bool (allB plainB s)) ∧ w = w' := by
  have hq := every_any 15 plainB (enters_of Tryd.func15 (by kernel_rfl) rfl) plain1_any s w hs
  go_enter Tryd.func8, Tryd.ntmps8
  go_wp2_with (go_at_call 14; refine hq.mono ?_; rintro e w' ⟨rfl, rfl⟩)
  go_ret
  exact ⟨rfl, rfl⟩

end Go.Proofs.YtpkhcelakfdjfaaDoor
