/- Runs of bytes, numbers of few digits (package version, package ints, the document), in any world. -/
import Derived.Test.YtecgjbddcmpggaaDoorVi
namespace Go.Proofs.YtecgjbddcmpggaaDoor
open Go.RowKit Go.Shelf

/-! ### how many bytes of a kind stand ahead -/
def pre (f : UInt8 → Bool) (l : List UInt8) : Nat := (l.takeWhile f).length
theorem pre_le (f : UInt8 → Bool) (l : List UInt8) : pre f l ≤ l.length := (List.takeWhile_prefix f).length_le
theorem pre_cons (f : UInt8 → Bool) (c : UInt8) (l : List UInt8) : pre f (c :: l) = if f c then pre f l + 1 else 0 := by
  unfold pre
  rw [List.takeWhile_cons]
  split <;> simp
theorem pre_take (f : UInt8 → Bool) : ∀ l : List UInt8, l.takeWhile f = l.take (pre f l)
  | [] => by simp
  | c :: l => by
    rw [pre_cons, List.takeWhile_cons]
    split
    · rw [List.take_succ_cons, ← pre_take f l]
    · simp
theorem pre_drop (f : UInt8 → Bool) : ∀ l : List UInt8, l.dropWhile f = l.drop (pre f l)
  | [] => by simp
  | c :: l => by
    rw [pre_cons, List.dropWhile_cons]
    split
    · rw [List.drop_succ_cons, ← pre_drop f l]
    · simp
theorem pre_at (f : UInt8 → Bool) : ∀ (l : List UInt8) (k : Nat) (h : k < l.length), k < pre f l → f l[k] = true
  | c :: l, k, h, hk => by
    rw [pre_cons] at hk
    split at hk
    · rename_i hc
      cases k with
      | zero => exact hc
      | succ k => exact pre_at f l k (by simpa using h) (by omega)
    · omega
theorem pre_stop (f : UInt8 → Bool) : ∀ (l : List UInt8) (h : pre f l < l.length), f l[pre f l] = false
  | c :: l, h => by
    by_cases hc : f c = true
    · have e : pre f (c :: l) = pre f l + 1 := by rw [pre_cons, if_pos hc]
      have h2 : pre f l < l.length := by rw [e] at h; simpa using h
      have := pre_stop f l h2
      simp only [e]
      simpa using this
    · have e : pre f (c :: l) = 0 := by rw [pre_cons, if_neg hc]
      simp only [e]
      simpa using hc
theorem size_list (s : ByteArray) : s.data.toList.length = s.size := rfl
theorem getL (s : ByteArray) (k : Nat) (h : k < s.size) : s.data.toList[k]'(by rw [size_list]; exact h) = s[k] := rfl
theorem rng_no {f : UInt8 → Bool} {lo hi : Nat} (hf : ∀ c, f c = decide (lo ≤ c.toNat ∧ c.toNat ≤ hi)) {c : UInt8} (h : f c = false) : c.toNat < lo ∨ hi < c.toNat := by
  rw [hf, decide_eq_false_iff_not] at h
  omega

set_option maxHeartbeats 1000000 in
theorem run_any (f : UInt8 → Bool) (lo hi : Nat) (hf : ∀ c, f c = decide (lo ≤ c.toNat ∧ c.toNat ≤ hi)) (s : ByteArray) (w : World) (hs : s.size ≤ maxLen) :
    Calls Tryd.prog 70 #[.string s, .int .u8 lo, .int .u8 hi] w fun e w' => e = .returned (.int .i64 (pre f s.data.toList)) ∧ w = w' := by
  unfold maxLen at hs
  have hle : pre f s.data.toList ≤ s.size := by have := pre_le f s.data.toList; rwa [size_list] at this
  have HAT : Hid (∀ k (h : k < s.size), k < pre f s.data.toList → lo ≤ s[k].toNat ∧ s[k].toNat ≤ hi) := fun k h hk => by
    have := pre_at f s.data.toList k (by rw [size_list]; exact h) hk
    rw [getL s k h, hf] at this
    exact of_decide_eq_true this
  have HST : Hid (∀ (h : pre f s.data.toList < s.size), s[pre f s.data.toList].toNat < lo ∨ hi < s[pre f s.data.toList].toNat) := fun h => by
    have := pre_stop f s.data.toList (by rw [size_list]; exact h)
    rw [getL s _ h] at this
    exact rng_no hf this
  generalize pre f s.data.toList = n at *
  clear hf
  go_enter Tryd.func70, Tryd.ntmps70
  go_wp2
  go_loop [7] (fun i => ∃ k : Nat, k ≤ n ∧ i = .int .i64 k) (fun i => n - (intOf i).toNat)
  case atStart => exact ⟨0, Nat.zero_le _, rfl⟩
  case round =>
    obtain ⟨k, hk, rfl⟩ := hrel
    by_cases hlt : k < n
    · have hks : k < s.size := by omega
      obtain ⟨h1, h2⟩ := HAT.out k hks hlt
      go_wp2
      go_round
      case rel => exact ⟨k + 1, by omega, by go_num⟩
      case measure => simp [intOf]; omega
    · obtain rfl : k = n := by omega
      by_cases hks : k < s.size
      · rcases HST.out hks with h1 | h1
        all_goals
          go_wp2
          all_goals (try (exfalso; omega))
          all_goals
            go_ret
            exact ⟨rfl, rfl⟩
      · go_wp2
        go_ret
        exact ⟨rfl, rfl⟩
theorem letters_any (s : ByteArray) (w : World) (hs : s.size ≤ maxLen) :
    Calls Tryd.prog 56 #[.string s] w fun e w' => e = .returned (.int .i64 (pre ltB s.data.toList)) ∧ w = w' := by
  have q := fun w => run_any ltB 97 122 (fun _ => rfl) s w hs
  go_enter Tryd.func56, Tryd.ntmps56
  go_wp2_with (go_at_call 70; refine (q _).mono ?_; rintro e w' ⟨rfl, rfl⟩)
  go_ret
  exact ⟨rfl, rfl⟩
set_option maxHeartbeats 1000000 in
theorem digits_any (s : ByteArray) (w : World) (hs : s.size ≤ maxLen) :
    Calls Tryd.prog 53 #[.string s] w fun e w' => e = .returned (.int .i64 (pre dgB s.data.toList)) ∧ w = w' := by
  unfold maxLen at hs
  have hle : pre dgB s.data.toList ≤ s.size := by have := pre_le dgB s.data.toList; rwa [size_list] at this
  have HAT : Hid (∀ k (h : k < s.size), k < pre dgB s.data.toList → 48 ≤ s[k].toNat ∧ s[k].toNat ≤ 57) := fun k h hk => by
    have := pre_at dgB s.data.toList k (by rw [size_list]; exact h) hk
    rw [getL s k h] at this
    exact (dgB_iff _).1 this
  have HST : Hid (∀ (h : pre dgB s.data.toList < s.size), s[pre dgB s.data.toList].toNat < 48 ∨ 57 < s[pre dgB s.data.toList].toNat) := fun h => by
    have := pre_stop dgB s.data.toList (by rw [size_list]; exact h)
    rw [getL s _ h] at this
    exact rng_no (lo := 48) (hi := 57) (fun _ => rfl) this
  generalize pre dgB s.data.toList = n at *
  go_enter Tryd.func53, Tryd.ntmps53
  go_wp2
  go_loop [3] (fun i => ∃ k : Nat, k ≤ n ∧ i = .int .i64 k) (fun i => n - (intOf i).toNat)
  case atStart => exact ⟨0, Nat.zero_le _, rfl⟩
  case round =>
    obtain ⟨k, hk, rfl⟩ := hrel
    by_cases hlt : k < n
    · have hks : k < s.size := by omega
      obtain ⟨h1, h2⟩ := HAT.out k hks hlt
      go_wp2
      go_round
      case rel => exact ⟨k + 1, by omega, by go_num⟩
      case measure => simp [intOf]; omega
    · obtain rfl : k = n := by omega
      by_cases hks : k < s.size
      · rcases HST.out hks with h1 | h1
        all_goals
          go_wp2
          all_goals (try (exfalso; omega))
          go_ret
          exact ⟨rfl, rfl⟩
      · go_wp2
        go_ret
        exact ⟨rfl, rfl⟩

/-! ### numbers -/
theorem ne_list {s : ByteArray} (h : 0 < s.size) : ¬ s.toList = [] := by
  rw [ByteArray.toList_eq]
  intro e
  have := congrArg List.length e
  rw [size_list, List.length_nil] at this
  omega
theorem ne_listB {s : ByteArray} (h : 0 < s.size) : s.toList.isEmpty = false := by
  cases h2 : s.toList with
  | nil => exact absurd h2 (ne_list h)
  | cons c l => rfl
theorem nil_list {s : ByteArray} (h : s.size = 0) : s.toList = [] := by
  rw [ByteArray.toList_eq]
  exact List.eq_nil_of_length_eq_zero (by rw [size_list]; exact h)
theorem nil_listB {s : ByteArray} (h : s.size = 0) : s.toList.isEmpty = true := by rw [nil_list h]; rfl
theorem val_lt (l : List UInt8) : ∀ acc : Nat, (∀ c ∈ l, 48 ≤ c.toNat ∧ c.toNat ≤ 57) → valFrom acc l < (acc + 1) * 10 ^ l.length := by
  induction l with
  | nil => intro acc _; rw [valFrom_nil]; simp
  | cons c r ih =>
    intro acc h
    have hc := h c (List.mem_cons_self ..)
    have h1 := ih (acc * 10 + (c.toNat - 48)) (fun x hx => h x (List.mem_cons_of_mem _ hx))
    rw [valFrom_cons, List.length_cons, Nat.pow_succ]
    have h2 : (acc * 10 + (c.toNat - 48) + 1) * 10 ^ r.length ≤ ((acc + 1) * 10) * 10 ^ r.length := Nat.mul_le_mul_right _ (by omega)
    rw [Nat.mul_comm (10 ^ r.length) 10, ← Nat.mul_assoc]
    omega
theorem val_15 {l : List UInt8} (h : ∀ c ∈ l, 48 ≤ c.toNat ∧ c.toNat ≤ 57) (hl : l.length ≤ 15) : valFrom 0 l < 1000000000000000 := by
  have h1 := val_lt l 0 h
  have h2 : 10 ^ l.length ≤ 10 ^ 15 := Nat.pow_le_pow_right (by omega) hl
  omega
theorem val_snoc {s : ByteArray} {k : Nat} (h : k < s.size) : valFrom 0 (s.data.toList.take (k + 1)) = valFrom 0 (s.data.toList.take k) * 10 + (s[k].toNat - 48) := by
  rw [List.take_succ_eq_append_getElem (by rw [size_list]; exact h), valFrom_append, valFrom_cons, valFrom_nil]; rfl
theorem val_prefix (l : List UInt8) (k : Nat) : valFrom 0 (l.take k) ≤ valFrom 0 l := by
  have h := valFrom_append 0 (l.take k) (l.drop k)
  rw [List.take_append_drop] at h
  rw [h]
  exact valFrom_le _ _
theorem pre_all {f : UInt8 → Bool} : ∀ {l : List UInt8}, l.all f = true → pre f l = l.length
  | [], _ => rfl
  | c :: l, h => by
    rw [List.all_cons, Bool.and_eq_true] at h
    rw [pre_cons, if_pos h.1, pre_all h.2]; rfl
theorem all_pre {f : UInt8 → Bool} : ∀ {l : List UInt8}, pre f l = l.length → l.all f = true
  | [], _ => rfl
  | c :: l, h => by
    rw [pre_cons] at h
    split at h
    · rename_i hc
      rw [List.all_cons, hc, all_pre (by simpa using h)]; rfl
    · simp at h
theorem small_cases (l : List UInt8) : (0 < l.length ∧ l.length ≤ 15 ∧ l.all dgB = true ∧ smallL l = some (valFrom 0 l : Int)) ∨ (¬ (0 < l.length ∧ l.length ≤ 15 ∧ pre dgB l = l.length) ∧ smallL l = none) := by
  by_cases h : l ≠ [] ∧ l.length ≤ 15 ∧ l.all dgB = true
  · exact .inl ⟨List.length_pos_iff.2 h.1, h.2.1, h.2.2, if_pos h⟩
  · refine .inr ⟨fun h2 => h ⟨List.length_pos_iff.1 h2.1, h2.2.1, all_pre h2.2.2⟩, if_neg h⟩
/-- what ints.Small answers -/
def smallV (l : List UInt8) : Value := match smallL l with
  | some n => .tuple #[.int .i64 n, .bool true]
  | none => .tuple #[.int .i64 0, .bool false]
set_option maxHeartbeats 1000000 in
theorem small_any (s : ByteArray) (w : World) (hs : s.size ≤ maxLen) :
    Calls Tryd.prog 46 #[.string s, .int .i64 9223372036854775807] w fun e w' => e = .returned (smallV s.data.toList) ∧ w = w' := by
  have hD := fun w => digits_any s w hs
  unfold maxLen at hs
  rcases small_cases s.data.toList with ⟨h0, h15, hall, he⟩ | ⟨h, he⟩
  · rw [pre_all hall, size_list] at hD
    rw [size_list] at h0 h15
    have hV : smallV s.data.toList = .tuple #[.int .i64 (valFrom 0 s.data.toList), .bool true] := by unfold smallV; rw [he]
    rw [hV]
    have HDG : Hid (∀ c ∈ s.data.toList, 48 ≤ c.toNat ∧ c.toNat ≤ 57) := fun c hc => (dgB_iff c).1 (List.all_eq_true.1 hall c hc)
    have HV := Lib.hid (val_15 HDG.out (by rw [size_list]; exact h15))
    obtain ⟨a, HA⟩ : ∃ a : Int, Hid (a = valFrom 0 s.data.toList) := ⟨_, rfl⟩
    rw [← HA.out]
    have hl := ne_list (s := s) h0
    have hb := ne_listB (s := s) h0
    have ha : a ≤ 9223372036854775807 := by have := HA.out; have := HV.out; omega
    have hd : decide ((9223372036854775807 : Int) < a) = false := decide_eq_false (by omega)
    clear hV he hall
    go_enter Tryd.func46, Tryd.ntmps46
    go_wp2_with (go_at_call 53; refine (hD _).mono ?_; rintro e w' ⟨rfl, rfl⟩)
    go_loop [6, 7, 24] (fun n _ i => ∃ (k : Nat) (u : Int), k ≤ s.size ∧ i = .int .i64 k ∧ n = .int .i64 u ∧ 0 ≤ u ∧ Hid (u = valFrom 0 (s.data.toList.take k))) (fun _ _ i => s.size - (intOf i).toNat)
    case atStart => exact ⟨0, 0, by omega, rfl, rfl, by omega, by simp [valFrom, Hid]⟩
    case round =>
      obtain ⟨k, u, hk, rfl, rfl, hu, HU⟩ := hrel
      by_cases hlt : k < s.size
      · have hb := HDG.out s[k] (by rw [← getL s k hlt]; exact List.getElem_mem _)
        obtain ⟨h1, h2⟩ := hb
        have hsn : ((valFrom 0 (s.data.toList.take (k + 1)) : Nat) : Int) = u * 10 + ((s[k].toNat : Int) - 48) := by
          have := val_snoc hlt; have h3 := HU.out; omega
        have hle : u * 10 + ((s[k].toNat : Int) - 48) < 1000000000000000 := by
          have := val_prefix s.data.toList (k + 1); have h3 := HV.out; omega
        have HSN := Lib.hid hsn
        clear hsn
        go_wp2
        go_round
        case rel => exact ⟨k + 1, u * 10 + ((s[k].toNat : Int) - 48), by omega, by go_num, by go_num, by omega, HSN.out.symm⟩
        case measure => simp [intOf]; omega
      · have hua : u = a := by
          have h1 := HU.out
          rw [List.take_of_length_le (by rw [size_list]; omega)] at h1
          rw [h1, HA.out]
        subst hua
        go_wp2
        go_ret2
        exact ⟨rfl, rfl⟩
  · have hV : smallV s.data.toList = .tuple #[.int .i64 0, .bool false] := by unfold smallV; rw [he]
    rw [hV]
    rw [size_list] at h
    clear he hV
    by_cases h0 : s.size = 0
    · have hl := nil_list h0
      have hb := nil_listB h0
      clear h hD
      go_enter Tryd.func46, Tryd.ntmps46
      go_wp2
      go_ret2
      exact ⟨rfl, rfl⟩
    · have hl := ne_list (s := s) (by omega)
      have hb := ne_listB (s := s) (by omega)
      by_cases h1 : 15 < s.size
      · clear h hD
        go_enter Tryd.func46, Tryd.ntmps46
        go_wp2
        go_ret2
        exact ⟨rfl, rfl⟩
      · have h2 : pre dgB s.data.toList ≠ s.size := fun e => h ⟨by omega, by omega, e⟩
        generalize pre dgB s.data.toList = n at *
        have q1 : ((n : Int) != (s.size : Int)) = true := by simp; omega
        have q2 : ((n : Int) == (s.size : Int)) = false := by simp; omega
        clear h h2
        go_enter Tryd.func46, Tryd.ntmps46
        go_wp2_with (go_at_call 53; refine (hD _).mono ?_; rintro e w' ⟨rfl, rfl⟩)
        go_ret2
        exact ⟨rfl, rfl⟩
theorem smallV_form (l : List UInt8) : ∃ n b, smallV l = .tuple #[.int .i64 n, .bool b] := by
  unfold smallV
  cases smallL l with
  | some n => exact ⟨n, true, rfl⟩
  | none => exact ⟨0, false, rfl⟩
theorem number_any (s : ByteArray) (w : World) (hs : s.size ≤ maxLen) :
    Calls Tryd.prog 35 #[.string s] w fun e w' => e = .returned (smallV s.data.toList) ∧ w = w' := by
  have q := fun w => small_any s w hs
  obtain ⟨n, b, hV⟩ := smallV_form s.data.toList
  rw [hV] at q ⊢
  clear hV
  go_enter Tryd.func35, Tryd.ntmps35
  go_wp2_with (go_at_call 46; refine (q _).mono ?_; rintro e w' ⟨rfl, rfl⟩)
  go_ret2
  exact ⟨rfl, rfl⟩

end Go.Proofs.YtecgjbddcmpggaaDoor
