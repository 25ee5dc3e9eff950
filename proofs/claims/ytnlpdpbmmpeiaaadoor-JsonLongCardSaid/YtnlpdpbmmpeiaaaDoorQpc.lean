/- quote.letter, quote.unit, quote.coded, quote.escaped, quote.piece: what each call returns. -/
import Derived.Test.YtnlpdpbmmpeiaaaDoorHexq
import Derived.Test.YtnlpdpbmmpeiaaaDoorShelf
import Derived.Lib.Strings
namespace Go.Proofs.YtnlpdpbmmpeiaaaDoor
open Go.RowKit

theorem ext_list (s : ByteArray) (a : Nat) : (s.extract a s.size).data.toList = s.data.toList.drop a := by
  rw [Lib.extract_data, List.take_of_length_le]
  rw [List.length_drop, size_list]
  omega

theorem bAt_head {s : ByteArray} {a k : Nat} {c : UInt8} {l : List UInt8} (h : s.data.toList.drop a = l) (hc : l[k]? = some c) : byteAt s (a + k) = c.toNat := by
  rw [← byteAt_dropL, byteAt_list, toBA, h, hc]
  rfl
theorem drop_len {s : ByteArray} {a : Nat} {l : List UInt8} (h : s.data.toList.drop a = l) : l.length = s.size - a := by
  rw [← h, List.length_drop, size_list]

theorem hexL_drop (s : ByteArray) (i : Nat) : hexL (s.data.toList.drop i) = if i + 4 ≤ s.size then hexTo s i 4 else none := by
  have hl := drop_len (s := s) (a := i) rfl
  rcases hd : s.data.toList.drop i with _ | ⟨a, _ | ⟨b, _ | ⟨c, _ | ⟨d, t⟩⟩⟩⟩
  · rw [hd] at hl; simp at hl; rw [if_neg (by omega)]; rfl
  · rw [hd] at hl; simp at hl; rw [if_neg (by omega)]; rfl
  · rw [hd] at hl; simp at hl; rw [if_neg (by omega)]; rfl
  · rw [hd] at hl; simp at hl; rw [if_neg (by omega)]; rfl
  · rw [hd] at hl
    simp only [List.length_cons] at hl
    rw [if_pos (by omega)]
    have e0 : byteAt s (i + 0) = a.toNat := bAt_head hd rfl
    have e1 : byteAt s (i + 1) = b.toNat := bAt_head hd rfl
    have e2 : byteAt s (i + 2) = c.toNat := bAt_head hd rfl
    have e3 : byteAt s (i + 3) = d.toNat := bAt_head hd rfl
    show hex4 a b c d = _
    simp only [hexTo, e0, e1, e2, e3]
    unfold hex4
    cases dg a.toNat <;> cases dg b.toNat <;> cases dg c.toNat <;> cases dg d.toNat <;> simp

/-! ### runes.Hex by hexL -/
def unitV : Option Nat → Value
  | some v => .tuple #[.int .i64 v, .bool true]
  | none => .tuple #[.int .i64 0, .bool false]
theorem hexr_any (s : ByteArray) (a : Nat) (w : World) (hs : s.size ≤ maxLen) {o : Option Nat} (ho : hexL (s.data.toList.drop a) = o) :
    Calls Tryd.prog 69 #[.string s, .int .i64 a] w fun e w' => e = .returned (unitV o) ∧ w = w' := by
  rw [hexL_drop] at ho
  by_cases h : a + 4 ≤ s.size
  · rw [if_pos h] at ho
    cases o with
    | none => exact hex_no s a w hs h ho
    | some v => exact hex_yes s a v w hs h ho
  · rw [if_neg h] at ho
    subst ho
    exact hex_out s a w hs (by omega)

/-! ### quote.letter -/
theorem letter_cases {c x : Nat} (h : letterB c = some x) : (c = 34 ∧ x = 34) ∨ (c = 92 ∧ x = 92) ∨ (c = 47 ∧ x = 47) ∨ (c = 98 ∧ x = 8) ∨ (c = 102 ∧ x = 12) ∨ (c = 110 ∧ x = 10) ∨ (c = 114 ∧ x = 13) ∨ (c = 116 ∧ x = 9) := by
  unfold letterB at h
  repeat' split at h
  all_goals (simp at h; try omega)
theorem letter_none {c : Nat} (h : letterB c = none) : c ≠ 34 ∧ c ≠ 92 ∧ c ≠ 47 ∧ c ≠ 98 ∧ c ≠ 102 ∧ c ≠ 110 ∧ c ≠ 114 ∧ c ≠ 116 := by
  unfold letterB at h
  repeat' split at h
  all_goals (simp at h; try omega)

def letterV : Option Nat → Value
  | some v => .tuple #[.int .i32 v, .bool true]
  | none => .tuple #[.int .i32 0, .bool false]

set_option maxHeartbeats 1000000 in
theorem letter_any (c : Nat) (w : World) {o : Option Nat} (ho : letterB c = o) :
    Calls Tryd.prog 48 #[.int .u8 c] w fun e w' => e = .returned (letterV o) ∧ w = w' := by
  cases o with
  | some x =>
    rcases letter_cases ho with ⟨rfl, rfl⟩ | ⟨rfl, rfl⟩ | ⟨rfl, rfl⟩ | ⟨rfl, rfl⟩ | ⟨rfl, rfl⟩ | ⟨rfl, rfl⟩ | ⟨rfl, rfl⟩ | ⟨rfl, rfl⟩
    all_goals
      go_enter Tryd.func48, Tryd.ntmps48
      go_wp2
      go_ret2
      exact ⟨rfl, rfl⟩
  | none =>
    obtain ⟨h1, h2, h3, h4, h5, h6, h7, h8⟩ := letter_none ho
    have q1 : ((c : Int) == 34) = false := by simp; omega
    have q2 : ((c : Int) == 92) = false := by simp; omega
    have q3 : ((c : Int) == 47) = false := by simp; omega
    have q4 : ((c : Int) == 98) = false := by simp; omega
    have q5 : ((c : Int) == 102) = false := by simp; omega
    have q6 : ((c : Int) == 110) = false := by simp; omega
    have q7 : ((c : Int) == 114) = false := by simp; omega
    have q8 : ((c : Int) == 116) = false := by simp; omega
    clear ho h1 h2 h3 h4 h5 h6 h7 h8
    go_enter Tryd.func48, Tryd.ntmps48
    go_wp2
    go_ret2
    exact ⟨rfl, rfl⟩

/-! ### quote.unit -/
theorem unit_cases (l : List UInt8) : (Lib.hasPrefix l [92, 117] = true ∧ ∃ t, l = 92 :: 117 :: t ∧ unitL l = hexL t) ∨ (Lib.hasPrefix l [92, 117] = false ∧ unitL l = none) := by
  rcases l with _ | ⟨a, _ | ⟨b, t⟩⟩
  · exact .inr ⟨rfl, rfl⟩
  · exact .inr ⟨by simp [Lib.hasPrefix, List.isPrefixOf], rfl⟩
  · by_cases h : a = 92 ∧ b = 117
    · obtain ⟨rfl, rfl⟩ := h
      refine .inl ⟨by simp [Lib.hasPrefix, List.isPrefixOf], t, rfl, ?_⟩
      show (if (92 : UInt8).toNat = 92 ∧ (117 : UInt8).toNat = 117 then hexL t else none) = _
      rw [if_pos ⟨rfl, rfl⟩]
    · refine .inr ⟨?_, ?_⟩
      · simp only [Lib.hasPrefix, List.isPrefixOf, Bool.and_true]
        by_cases h1 : a = 92
        · have h2 : ¬ b = 117 := fun e => h ⟨h1, e⟩
          have h3 : ¬ 117 = b := fun e => h2 e.symm
          simp [h3]
        · have h3 : ¬ 92 = a := fun e => h1 e.symm
          simp [h3]
      · show (if a.toNat = 92 ∧ b.toNat = 117 then hexL t else none) = none
        rw [if_neg]
        rintro ⟨h1, h2⟩
        exact h ⟨UInt8.toNat_inj.1 (by rw [h1]; rfl), UInt8.toNat_inj.1 (by rw [h2]; rfl)⟩

set_option maxHeartbeats 1000000 in
theorem unit_any (s : ByteArray) (a : Nat) (w : World) (hs : s.size ≤ maxLen) (ha : a ≤ s.size) {o : Option Nat} (ho : unitL (s.data.toList.drop a) = o) :
    Calls Tryd.prog 59 #[.string s, .int .i64 a] w fun e w' => e = .returned (unitV o) ∧ w = w' := by
  have hP := fun w => Tryd.strings_HasPrefix (s.extract a s.size) ⟨#[92, 117]⟩ w
  rw [ext_list, show (⟨#[92, 117]⟩ : ByteArray).data.toList = [92, 117] from rfl] at hP
  have hs' := hs
  unfold maxLen at hs
  rcases unit_cases (s.data.toList.drop a) with ⟨hp, t, ht, hu⟩ | ⟨hp, hu⟩
  · rw [hp] at hP
    have hl := drop_len ht
    simp only [List.length_cons] at hl
    have ht2 : s.data.toList.drop (a + 2) = t := by rw [← List.drop_drop, ht]; rfl
    have hX := fun w => hexr_any s (a + 2) w hs' (o := o) (by rw [ht2, ← hu]; exact ho)
    have hc : ((a + 2 : Nat) : Int) = (a : Int) + 2 := by omega
    rw [hc] at hX
    clear ho hp ht hu ht2 hs'
    cases o with
    | none =>
      simp only [unitV] at hX ⊢
      go_enter Tryd.func59, Tryd.ntmps59
      go_wp2_with (first
        | (go_at_call 31; refine (hP _).mono ?_; rintro e w' ⟨rfl, rfl⟩)
        | (go_at_call 69; refine (hX _).mono ?_; rintro e w' ⟨rfl, rfl⟩))
      go_ret2
      exact ⟨rfl, rfl⟩
    | some v =>
      simp only [unitV] at hX ⊢
      go_enter Tryd.func59, Tryd.ntmps59
      go_wp2_with (first
        | (go_at_call 31; refine (hP _).mono ?_; rintro e w' ⟨rfl, rfl⟩)
        | (go_at_call 69; refine (hX _).mono ?_; rintro e w' ⟨rfl, rfl⟩))
      go_ret2
      exact ⟨rfl, rfl⟩
  · rw [hp] at hP
    rw [hu] at ho
    subst ho
    clear hp hu hs'
    simp only [unitV]
    go_enter Tryd.func59, Tryd.ntmps59
    go_wp2_with (go_at_call 31; refine (hP _).mono ?_; rintro e w' ⟨rfl, rfl⟩)
    go_ret2
    exact ⟨rfl, rfl⟩

/-! ### quote.coded -/
def codedV : Option (Int × Nat) → Value
  | some p => .tuple #[.int .i64 p.1, .int .i64 p.2, .bool true]
  | none => .tuple #[.int .i64 0, .int .i64 0, .bool false]

theorem unit_len {l : List UInt8} {v : Nat} (h : unitL l = some v) : 6 ≤ l.length ∧ v < 65536 := by
  obtain ⟨a, b, c, d, t, rfl, h4⟩ := unitL_some h
  exact ⟨by simp, hex4_lt h4⟩

set_option maxHeartbeats 1000000 in
theorem coded_any (s : ByteArray) (a : Nat) (w : World) (hs : s.size ≤ maxLen) (ha : a ≤ s.size) {o : Option (Int × Nat)} (ho : codedL (s.data.toList.drop a) = o) :
    Calls Tryd.prog 49 #[.string s, .int .i64 a] w fun e w' => e = .returned (codedV o) ∧ w = w' := by
  have hs' := hs
  unfold maxLen at hs
  unfold codedL at ho
  cases h1 : unitL (s.data.toList.drop a) with
  | none =>
    rw [h1] at ho
    subst ho
    have hU := fun w => unit_any s a w hs' ha h1
    simp only [unitV] at hU
    simp only [codedV]
    clear h1 hs'
    go_enter Tryd.func49, Tryd.ntmps49
    go_wp2_with (go_at_call 59; refine (hU _).mono ?_; rintro e w' ⟨rfl, rfl⟩)
    go_ret3
    exact ⟨rfl, rfl⟩
  | some v =>
    rw [h1] at ho
    simp only [] at ho
    have hU := fun w => unit_any s a w hs' ha h1
    simp only [unitV] at hU
    obtain ⟨hlen, hv⟩ := unit_len h1
    rw [List.length_drop, size_list] at hlen
    by_cases hp : v < 55296 ∨ 57343 < v
    · rw [if_pos hp] at ho
      subst ho
      simp only [codedV]
      have hE := fun w => encode_yes v w (by unfold isPt; omega)
      clear hp h1 hs'
      generalize strOfNums (encZ v) = t at *
      go_enter Tryd.func49, Tryd.ntmps49
      go_wp2_with (first
        | (go_at_call 59; refine (hU _).mono ?_; rintro e w' ⟨rfl, rfl⟩)
        | (go_at_call 60; refine (hE _).mono ?_; rintro e w' ⟨rfl, rfl⟩))
      go_ret3
      exact ⟨rfl, rfl⟩
    · rw [if_neg hp, List.drop_drop] at ho
      have hE := fun w => encode_no v w (by unfold isPt; omega)
      have h55 : 55296 ≤ v := by omega
      have hc : ((a + 6 : Nat) : Int) = (a : Int) + 6 := by omega
      cases h2 : unitL (s.data.toList.drop (a + 6)) with
      | none =>
        rw [h2] at ho
        subst ho
        have hU2 := fun w => unit_any s (a + 6) w hs' (by omega) h2
        simp only [unitV] at hU2
        rw [hc] at hU2
        simp only [codedV]
        clear h1 h2 hp hs'
        go_enter Tryd.func49, Tryd.ntmps49
        go_wp2_with fail
        refine (hU _).mono ?_
        rintro e w' ⟨rfl, rfl⟩
        clear hU
        go_wp2_with (first
          | (go_at_call 59; refine (hU2 _).mono ?_; rintro e w' ⟨rfl, rfl⟩)
          | (go_at_call 60; refine (hE _).mono ?_; rintro e w' ⟨rfl, rfl⟩))
        go_ret3
        exact ⟨rfl, rfl⟩
      | some u =>
        rw [h2] at ho
        simp only [] at ho
        have hU2 := fun w => unit_any s (a + 6) w hs' (by omega) h2
        simp only [unitV] at hU2
        rw [hc] at hU2
        obtain ⟨_, hu⟩ := unit_len h2
        by_cases hj : v < 56320 ∧ 56320 ≤ u ∧ u ≤ 57343
        · rw [if_pos hj] at ho
          subst ho
          simp only [codedV, joinZ]
          obtain ⟨j1, j2, j3⟩ := hj
          have hJ := fun w => join_yes v u w (by omega) (by omega) (by omega) (by omega)
          clear h1 h2 hp hs'
          go_enter Tryd.func49, Tryd.ntmps49
          go_wp2_with fail
          refine (hU _).mono ?_
          rintro e w' ⟨rfl, rfl⟩
          clear hU
          go_wp2_with (first
            | (go_at_call 59; refine (hU2 _).mono ?_; rintro e w' ⟨rfl, rfl⟩)
            | (go_at_call 61; refine (hJ _).mono ?_; rintro e w' ⟨rfl, rfl⟩)
            | (go_at_call 60; refine (hE _).mono ?_; rintro e w' ⟨rfl, rfl⟩))
          go_ret3
          exact ⟨rfl, rfl⟩
        · rw [if_neg hj] at ho
          subst ho
          simp only [codedV]
          have hJ := fun w => join_no v u w (by omega)
          clear h1 h2 hp hs' hj
          go_enter Tryd.func49, Tryd.ntmps49
          go_wp2_with fail
          refine (hU _).mono ?_
          rintro e w' ⟨rfl, rfl⟩
          clear hU
          go_wp2_with (first
            | (go_at_call 59; refine (hU2 _).mono ?_; rintro e w' ⟨rfl, rfl⟩)
            | (go_at_call 61; refine (hJ _).mono ?_; rintro e w' ⟨rfl, rfl⟩)
            | (go_at_call 60; refine (hE _).mono ?_; rintro e w' ⟨rfl, rfl⟩))
          go_ret3
          exact ⟨rfl, rfl⟩

end Go.Proofs.YtnlpdpbmmpeiaaaDoor
