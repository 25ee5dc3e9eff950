/- The document's words, patterns and names (package haversackref06): what each call returns; and that package glob's are the same. -/
import Derived.Test.YtpkhcelakfdjfaaGb
namespace Go.Proofs.Ytpkhcelakfdjfaa
open Go.RowKit Go.Shelf

/-- does a byte stand in a text? -/
def inB (c : UInt8) (s : ByteArray) : Bool := s.data.toList.any fun b => b == c
theorem in_yes (c : UInt8) (s : ByteArray) (k : Nat) (h : k < s.size) (e : s[k] = c) : inB c s = true := by
  unfold inB
  rw [List.any_eq_true]
  exact ⟨s[k], by rw [← getL _ _ h]; exact List.getElem_mem _, by simp [e]⟩
theorem in_no (c : UInt8) (s : ByteArray) (h : ∀ k, (hk : k < s.size) → s[k] ≠ c) : inB c s = false := by
  unfold inB
  rw [List.any_eq_false]
  intro x hx
  obtain ⟨k, hk, rfl⟩ := List.getElem_of_mem hx
  have := h k hk
  rw [getL _ _ hk]
  simpa using this
set_option maxHeartbeats 1000000 in
theorem in_any (c : UInt8) (s : ByteArray) (w : World) (hs : s.size ≤ 100000000) :
    Calls Try.prog 26 #[.int .u8 c.toNat, .string s] w fun e w' => e = .returned (.bool (inB c s)) ∧ w = w' := by
  go_enter Try.func26, Try.ntmps26
  go_wp2
  go_loop [5] (fun i => ∃ j : Nat, j ≤ s.size ∧ i = .int .i64 j ∧ Hid (∀ k, k < j → (hk : k < s.size) → s[k] ≠ c)) (fun i => s.size - (intOf i).toNat)
  case atStart => exact ⟨0, Nat.zero_le _, rfl, fun k hk => absurd hk (Nat.not_lt_zero _)⟩
  case round =>
    obtain ⟨j, hj, rfl, hall⟩ := hrel
    by_cases hlt : j < s.size
    · by_cases hv : s[j] = c
      · have hn := Lib.hid (in_yes c s j hlt hv)
        have e1 : ((s[j].toNat : Int) == (c.toNat : Int)) = true := by rw [byte_eq, decide_eq_true hv]
        clear hv hall
        go_wp2
        go_ret
        exact ⟨ret_bool hn.out.symm, rfl⟩
      · have hn : Hid (∀ k, k < j + 1 → (hk : k < s.size) → s[k] ≠ c) := by
          intro k hk hk2
          by_cases e : k = j
          · subst e; exact hv
          · exact hall.out k (by omega) hk2
        have e1 : ((s[j].toNat : Int) == (c.toNat : Int)) = false := by rw [byte_eq, decide_eq_false hv]
        clear hv hall
        go_wp2
        go_round
        case rel => exact ⟨j + 1, by omega, by go_num, hn⟩
        case measure => simp [intOf]; omega
    · have hn : Hid (inB c s = false) := in_no c s fun k hk => hall.out k (by omega) hk
      clear hall
      go_wp2
      go_ret
      exact ⟨ret_bool hn.out.symm, rfl⟩

def lowT : ByteArray := ⟨#[97, 98, 99, 100, 101, 102, 103, 104, 105, 106, 107, 108, 109, 110, 111, 112, 113, 114, 115, 116, 117, 118, 119, 120, 121, 122, 48, 49, 50, 51, 52, 53, 54, 55, 56, 57, 95, 46, 45]⟩
/-- all bytes are of the small ones or of more -/
def refB (m : ByteArray) (c : UInt8) : Bool := inB c ⟨#[97, 98, 99, 100, 101, 102, 103, 104, 105, 106, 107, 108, 109, 110, 111, 112, 113, 114, 115, 116, 117, 118, 119, 120, 121, 122, 48, 49, 50, 51, 52, 53, 54, 55, 56, 57, 95, 46, 45]⟩ || inB c m
def allOk (m s : ByteArray) : Bool := decide (1 ≤ s.size ∧ s.size ≤ 40) && allB (refB m) s
set_option maxHeartbeats 2000000 in
theorem refAll_any (s m : ByteArray) (w : World) (hs : s.size ≤ 100000000) (hm : m.size ≤ 100000000) :
    Calls Try.prog 19 #[.string s, .string m] w fun e w' => e = .returned (.bool (allOk m s)) ∧ w = w' := by
  go_enter Try.func19, Try.ntmps19
  go_wp2
  go_loop [5] (fun i => ∃ j : Nat, j ≤ s.size ∧ i = .int .i64 j ∧ Hid ((s.data.toList.take j).all (refB m) = true)) (fun i => s.size - (intOf i).toNat)
  case atStart => exact ⟨0, Nat.zero_le _, rfl, rfl⟩
  case round =>
    obtain ⟨j, hj, rfl, hall⟩ := hrel
    by_cases hlt : j < s.size
    · have hq1 := fun w => in_any s[j] ⟨#[97, 98, 99, 100, 101, 102, 103, 104, 105, 106, 107, 108, 109, 110, 111, 112, 113, 114, 115, 116, 117, 118, 119, 120, 121, 122, 48, 49, 50, 51, 52, 53, 54, 55, 56, 57, 95, 46, 45]⟩ w (by decide)
      have hq2 := fun w => in_any s[j] m w hm
      cases h1 : inB s[j] ⟨#[97, 98, 99, 100, 101, 102, 103, 104, 105, 106, 107, 108, 109, 110, 111, 112, 113, 114, 115, 116, 117, 118, 119, 120, 121, 122, 48, 49, 50, 51, 52, 53, 54, 55, 56, 57, 95, 46, 45]⟩ with
      | true =>
        rw [h1] at hq1
        have hn : Hid ((s.data.toList.take (j + 1)).all (refB m) = true) := by rw [all_snoc _ s j hlt, hall.out, show refB m s[j] = true by unfold refB; rw [h1]; rfl]; rfl
        clear h1 hall hq2
        go_wp2_with (go_at_call 26; refine (hq1 _).mono ?_; rintro e w' ⟨rfl, rfl⟩)
        go_round
        case rel => exact ⟨j + 1, by omega, by go_num, hn⟩
        case measure => simp [intOf]; omega
      | false =>
        rw [h1] at hq1
        cases h2 : inB s[j] m with
        | true =>
          rw [h2] at hq2
          have hn : Hid ((s.data.toList.take (j + 1)).all (refB m) = true) := by rw [all_snoc _ s j hlt, hall.out, show refB m s[j] = true by unfold refB; rw [h2, Bool.or_true]]; rfl
          clear h1 h2 hall
          go_wp2_with fail
          refine (hq1 _).mono ?_
          rintro e w' ⟨rfl, rfl⟩
          clear hq1
          go_wp2_with fail
          refine (hq2 _).mono ?_
          rintro e w' ⟨rfl, rfl⟩
          clear hq2
          go_wp2
          go_round
          case rel => exact ⟨j + 1, by omega, by go_num, hn⟩
          case measure => simp [intOf]; omega
        | false =>
          rw [h2] at hq2
          have hn : Hid (allOk m s = false) := by
            unfold allOk
            rw [all_off (refB m) s j hlt (by unfold refB; rw [h1, h2]; rfl), Bool.and_false]
            exact rfl
          clear h1 h2 hall
          go_wp2_with fail
          refine (hq1 _).mono ?_
          rintro e w' ⟨rfl, rfl⟩
          clear hq1
          go_wp2_with fail
          refine (hq2 _).mono ?_
          rintro e w' ⟨rfl, rfl⟩
          clear hq2
          go_wp2
          go_ret
          exact ⟨ret_bool hn.out.symm, rfl⟩
    · have hz : j = s.size := by omega
      subst hz
      have hn := Lib.hid (all_end _ s hall.out)
      clear hall
      by_cases h1 : 0 < s.size
      · by_cases h2 : s.size < 41
        · have hb : Hid (allOk m s = true) := by unfold allOk; rw [hn.out, decide_eq_true (by omega)]; rfl
          go_wp2
          go_ret
          exact ⟨ret_bool (by rw [hb.out]; try simp; try omega), rfl⟩
        · have hb : Hid (allOk m s = false) := by unfold allOk; rw [decide_eq_false (by omega)]; rfl
          go_wp2
          go_ret
          exact ⟨ret_bool (by rw [hb.out]; simp; try omega), rfl⟩
      · have hb : Hid (allOk m s = false) := by unfold allOk; rw [decide_eq_false (by omega)]; rfl
        have h0 : decide (0 < s.size) = false := decide_eq_false h1
        go_wp2
        go_ret
        exact ⟨ret_bool (by rw [hb.out]; try simp; try omega), rfl⟩

theorem refWord_any (s : ByteArray) (w : World) (hs : s.size ≤ 100000000) :
    Calls Try.prog 9 #[.string s] w fun e w' => e = .returned (.bool (allOk ⟨#[65, 66, 67, 68, 69, 70, 71, 72, 73, 74, 75, 76, 77, 78, 79, 80, 81, 82, 83, 84, 85, 86, 87, 88, 89, 90, 43, 33]⟩ s)) ∧ w = w' := by
  have hq := fun w => refAll_any s ⟨#[65, 66, 67, 68, 69, 70, 71, 72, 73, 74, 75, 76, 77, 78, 79, 80, 81, 82, 83, 84, 85, 86, 87, 88, 89, 90, 43, 33]⟩ w hs (by decide)
  go_enter Try.func9, Try.ntmps9
  go_wp2_with (go_at_call 19; refine (hq _).mono ?_; rintro e w' ⟨rfl, rfl⟩)
  go_ret
  exact ⟨rfl, rfl⟩
theorem refPattern_any (s : ByteArray) (w : World) (hs : s.size ≤ 100000000) :
    Calls Try.prog 11 #[.string s] w fun e w' => e = .returned (.bool (allOk ⟨#[65, 66, 67, 68, 69, 70, 71, 72, 73, 74, 75, 76, 77, 78, 79, 80, 81, 82, 83, 84, 85, 86, 87, 88, 89, 90, 43, 33, 42]⟩ s)) ∧ w = w' := by
  have hq := fun w => refAll_any s ⟨#[65, 66, 67, 68, 69, 70, 71, 72, 73, 74, 75, 76, 77, 78, 79, 80, 81, 82, 83, 84, 85, 86, 87, 88, 89, 90, 43, 33, 42]⟩ w hs (by decide)
  go_enter Try.func11, Try.ntmps11
  go_wp2_with (go_at_call 19; refine (hq _).mono ?_; rintro e w' ⟨rfl, rfl⟩)
  go_ret
  exact ⟨rfl, rfl⟩
theorem refName_any (s : ByteArray) (w : World) (hs : s.size ≤ 100000000) :
    Calls Try.prog 13 #[.string s] w fun e w' => e = .returned (.bool (allOk ⟨#[]⟩ s)) ∧ w = w' := by
  have hq := fun w => refAll_any s ⟨#[]⟩ w hs (by decide)
  go_enter Try.func13, Try.ntmps13
  go_wp2_with (go_at_call 19; refine (hq _).mono ?_; rintro e w' ⟨rfl, rfl⟩)
  go_ret
  exact ⟨rfl, rfl⟩

/-! ### the same bytes -/
theorem of_all (f g : UInt8 → Bool) (h : ∀ n : Fin 256, f (UInt8.ofNat n.val) = g (UInt8.ofNat n.val)) : f = g := by
  funext c
  have := h ⟨c.toNat, c.toNat_lt⟩
  simpa using this
theorem same_word : refB ⟨#[65, 66, 67, 68, 69, 70, 71, 72, 73, 74, 75, 76, 77, 78, 79, 80, 81, 82, 83, 84, 85, 86, 87, 88, 89, 90, 43, 33]⟩ = wordB := of_all _ _ (by decide +kernel)
theorem same_pat : refB ⟨#[65, 66, 67, 68, 69, 70, 71, 72, 73, 74, 75, 76, 77, 78, 79, 80, 81, 82, 83, 84, 85, 86, 87, 88, 89, 90, 43, 33, 42]⟩ = patB := of_all _ _ (by decide +kernel)
theorem same_name : refB ⟨#[]⟩ = nameB := of_all _ _ (by decide +kernel)
theorem ok_word (s : ByteArray) : allOk ⟨#[65, 66, 67, 68, 69, 70, 71, 72, 73, 74, 75, 76, 77, 78, 79, 80, 81, 82, 83, 84, 85, 86, 87, 88, 89, 90, 43, 33]⟩ s = okB wordB s := by unfold allOk okB; rw [same_word]
theorem ok_pat (s : ByteArray) : allOk ⟨#[65, 66, 67, 68, 69, 70, 71, 72, 73, 74, 75, 76, 77, 78, 79, 80, 81, 82, 83, 84, 85, 86, 87, 88, 89, 90, 43, 33, 42]⟩ s = okB patB s := by unfold allOk okB; rw [same_pat]
theorem ok_name (s : ByteArray) : allOk ⟨#[]⟩ s = okB nameB s := by unfold allOk okB; rw [same_name]

end Go.Proofs.Ytpkhcelakfdjfaa
