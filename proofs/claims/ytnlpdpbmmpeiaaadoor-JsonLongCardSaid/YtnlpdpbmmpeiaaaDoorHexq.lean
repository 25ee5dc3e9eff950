/- The contracts of runes.digit, runes.Hex and the document's Hex: what each call returns, in any world. -/
import Derived.Test.YtnlpdpbmmpeiaaaDoorWalks
import Derived.Test.YtnlpdpbmmpeiaaaDoorQm
namespace Go.Proofs.YtnlpdpbmmpeiaaaDoor
open Go.RowKit

def hexTo (s : ByteArray) (a : Nat) : Nat → Option Nat
  | 0 => some 0
  | k + 1 => match hexTo s a k, dg (byteAt s (a + k)) with
    | some v, some d => some (v * 16 + d)
    | _, _ => none

theorem hexTo_lt {s : ByteArray} {a : Nat} : ∀ {k v : Nat}, hexTo s a k = some v → v < 16 ^ k := by
  intro k
  induction k with
  | zero => intro v h; simp [hexTo] at h; omega
  | succ k ih =>
    intro v h
    rw [hexTo] at h
    cases hv : hexTo s a k with
    | none => rw [hv] at h; simp at h
    | some u =>
      cases hd : dg (byteAt s (a + k)) with
      | none => rw [hv, hd] at h; simp at h
      | some d =>
        rw [hv, hd] at h
        simp at h
        have h1 := ih hv
        have h2 := dg_lt hd
        rw [Nat.pow_succ]
        generalize 16 ^ k = b at *
        omega

theorem hexTo_none {s : ByteArray} {a k : Nat} (h : hexTo s a k = none) : ∀ j, hexTo s a (k + j) = none := by
  intro j
  induction j with
  | zero => exact h
  | succ j ih => rw [← Nat.add_assoc, hexTo, ih]

theorem hexTo_bad {s : ByteArray} {a k : Nat} (hk : k < 4) (h : dg (byteAt s (a + k)) = none) : hexTo s a 4 = none := by
  have h1 : hexTo s a (k + 1) = none := by rw [hexTo, h]; cases hexTo s a k <;> rfl
  have := hexTo_none h1 (4 - (k + 1))
  rwa [show k + 1 + (4 - (k + 1)) = 4 by omega] at this

theorem hexTo_step {s : ByteArray} {a k v d : Nat} (hv : hexTo s a k = some v) (h : dg (byteAt s (a + k)) = some d) : hexTo s a (k + 1) = some (v * 16 + d) := by
  rw [hexTo, hv, h]

theorem dg_none {c : Nat} (h : dg c = none) : (c < 48 ∨ 57 < c) ∧ (c < 97 ∨ 102 < c) ∧ (c < 65 ∨ 70 < c) := by
  unfold dg at h
  by_cases h1 : 48 ≤ c ∧ c ≤ 57
  · rw [if_pos h1] at h; simp at h
  · rw [if_neg h1] at h
    by_cases h3 : 97 ≤ c ∧ c ≤ 102
    · rw [if_pos h3] at h; simp at h
    · rw [if_neg h3] at h
      by_cases h5 : 65 ≤ c ∧ c ≤ 70
      · rw [if_pos h5] at h; simp at h
      · omega

theorem dg_cases {c d : Nat} (h : dg c = some d) : (48 ≤ c ∧ c ≤ 57 ∧ c = d + 48) ∨ (97 ≤ c ∧ c ≤ 102 ∧ c = d + 87) ∨ (65 ≤ c ∧ c ≤ 70 ∧ c = d + 55) := by
  unfold dg at h
  split at h
  · simp at h; omega
  · split at h
    · simp at h; omega
    · split at h
      · simp at h; omega
      · simp at h

set_option maxHeartbeats 400000 in
theorem digit_yes (c d : Nat) (w : World) (h : dg c = some d) (hc : c < 256) :
    Calls Tryd.prog 72 #[.int .u8 c] w fun e w' => e = .returned (.tuple #[.int .i64 d, .bool true]) ∧ w = w' := by
  rcases dg_cases h with ⟨h1, h2, h3⟩ | ⟨h1, h2, h3⟩ | ⟨h1, h2, h3⟩
  · obtain ⟨m, rfl⟩ : ∃ m, c = 48 + m := ⟨c - 48, by omega⟩
    obtain rfl : d = m := by omega
    clear h h3
    go_enter Tryd.func72, Tryd.ntmps72
    go_wp2
    go_ret2
    exact ⟨by simp; try omega, rfl⟩
  · obtain ⟨m, rfl⟩ : ∃ m, c = 97 + m := ⟨c - 97, by omega⟩
    obtain rfl : d = m + 10 := by omega
    clear h h3
    go_enter Tryd.func72, Tryd.ntmps72
    go_wp2
    go_ret2
    exact ⟨by simp; try omega, rfl⟩
  · obtain ⟨m, rfl⟩ : ∃ m, c = 65 + m := ⟨c - 65, by omega⟩
    obtain rfl : d = m + 10 := by omega
    clear h h3
    go_enter Tryd.func72, Tryd.ntmps72
    go_wp2
    go_ret2
    exact ⟨by simp; try omega, rfl⟩

set_option maxHeartbeats 400000 in
theorem digit_no (c : Nat) (w : World) (h : dg c = none) :
    Calls Tryd.prog 72 #[.int .u8 c] w fun e w' => e = .returned (.tuple #[.int .i64 0, .bool false]) ∧ w = w' := by
  obtain ⟨h1, h2, h3⟩ := dg_none h
  clear h
  rcases h1 with h1 | h1 <;> rcases h2 with h2 | h2 <;> rcases h3 with h3 | h3
  all_goals first
    | (exfalso; omega)
    | (go_enter Tryd.func72, Tryd.ntmps72
       go_wp2
       go_ret2
       exact ⟨by first | rfl | simp, rfl⟩)

def HexPost (s : ByteArray) (a : Nat) (e : Ending) : Prop := match hexTo s a 4 with
  | some v => e = .returned (.tuple #[.int .i64 v, .bool true])
  | none => e = .returned (.tuple #[.int .i64 0, .bool false])
theorem HexPost.yes {s : ByteArray} {a v : Nat} (h : hexTo s a 4 = some v) : HexPost s a (.returned (.tuple #[.int .i64 v, .bool true])) := by
  unfold HexPost; rw [h]
theorem HexPost.no {s : ByteArray} {a : Nat} (h : hexTo s a 4 = none) : HexPost s a (.returned (.tuple #[.int .i64 0, .bool false])) := by
  unfold HexPost; rw [h]

set_option maxHeartbeats 400000 in
theorem hex_in (s : ByteArray) (a : Nat) (w : World) (hs : s.size ≤ maxLen) (ha : a + 4 ≤ s.size) :
    Calls Tryd.prog 69 #[.string s, .int .i64 a] w fun e w' => HexPost s a e ∧ w = w' := by
  unfold maxLen at hs
  go_enter Tryd.func69, Tryd.ntmps69
  go_wp2
  go_loop [6, 7, 8, 9, 19] (fun n _ _ _ i => ∃ k v : Nat, k ≤ 4 ∧ i = .int .i64 k ∧ n = .int .i64 v ∧ v < 16 ^ k ∧ Hid (hexTo s a k = some v)) (fun _ _ _ _ i => 4 - (intOf i).toNat)
  case atStart => exact ⟨0, 0, by omega, rfl, rfl, by omega, rfl⟩
  case round =>
    obtain ⟨k, v, hk, rfl, rfl, hv, HV⟩ := hrel
    by_cases hlt : k < 4
    · have hvb : v < 65536 := by
        have : 16 ^ k ≤ 16 ^ 3 := Nat.pow_le_pow_right (by omega) (by omega)
        omega
      clear hv
      have hb := byteAt_lt s (a + k)
      have hby : (s[a + k]'(by omega)).toNat = byteAt s (a + k) := byteAt_in (by omega)
      cases hd : dg (byteAt s (a + k)) with
      | none =>
        have HN : Hid (hexTo s a 4 = none) := hexTo_bad hlt hd
        have hD := fun w => digit_no _ w hd
        rw [← hby] at hD
        clear hd hby HV
        go_wp2_with fail
        refine (hD _).mono ?_
        rintro e w' ⟨rfl, rfl⟩
        clear hD
        go_wp2
        go_ret2
        exact ⟨HexPost.no HN, rfl⟩
      | some d =>
        have HN : Hid (hexTo s a (k + 1) = some (v * 16 + d)) := hexTo_step HV hd
        have hdl := dg_lt hd
        have hD := fun w => digit_yes _ _ w hd hb
        rw [← hby] at hD
        clear hd hby HV
        go_wp2_with fail
        refine (hD _).mono ?_
        rintro e w' ⟨rfl, rfl⟩
        clear hD
        go_wp2
        go_round
        case rel => exact ⟨k + 1, v * 16 + d, by omega, by go_num, by go_num, hexTo_lt HN, HN⟩
        case measure => simp [intOf]; omega
    · obtain rfl : k = 4 := by omega
      go_wp2
      go_ret2
      exact ⟨HexPost.yes HV, rfl⟩

set_option maxHeartbeats 400000 in
theorem hex_out (s : ByteArray) (a : Int) (w : World) (hs : s.size ≤ maxLen) (ha : a < 0 ∨ s.size - 4 < a) :
    Calls Tryd.prog 69 #[.string s, .int .i64 a] w fun e w' => e = .returned (.tuple #[.int .i64 0, .bool false]) ∧ w = w' := by
  unfold maxLen at hs
  by_cases h : a < 0
  · clear ha
    go_enter Tryd.func69, Tryd.ntmps69
    go_wp2
    go_ret2
    exact ⟨rfl, rfl⟩
  · have h2 : (s.size : Int) - 4 < a := by omega
    clear ha
    go_enter Tryd.func69, Tryd.ntmps69
    go_wp2
    go_ret2
    exact ⟨rfl, rfl⟩

def RefHexPost (s : ByteArray) (a : Nat) (e : Ending) : Prop := match hexTo s a 4 with
  | some v => e = .returned (.int .i64 v)
  | none => e = .returned (.int .i64 (-1))
theorem RefHexPost.yes {s : ByteArray} {a v : Nat} (h : hexTo s a 4 = some v) : RefHexPost s a (.returned (.int .i64 v)) := by
  unfold RefHexPost; rw [h]
theorem RefHexPost.no {s : ByteArray} {a : Nat} (h : hexTo s a 4 = none) : RefHexPost s a (.returned (.int .i64 (-1))) := by
  unfold RefHexPost; rw [h]










































































theorem hex_yes (s : ByteArray) (a v : Nat) (w : World) (hs : s.size ≤ maxLen) (ha : a + 4 ≤ s.size) (h : hexTo s a 4 = some v) :
    Calls Tryd.prog 69 #[.string s, .int .i64 a] w fun e w' => e = .returned (.tuple #[.int .i64 v, .bool true]) ∧ w = w' :=
  (hex_in s a w hs ha).mono fun e w' ⟨he, hw⟩ => by unfold HexPost at he; rw [h] at he; exact ⟨he, hw⟩
theorem hex_no (s : ByteArray) (a : Nat) (w : World) (hs : s.size ≤ maxLen) (ha : a + 4 ≤ s.size) (h : hexTo s a 4 = none) :
    Calls Tryd.prog 69 #[.string s, .int .i64 a] w fun e w' => e = .returned (.tuple #[.int .i64 0, .bool false]) ∧ w = w' :=
  (hex_in s a w hs ha).mono fun e w' ⟨he, hw⟩ => by unfold HexPost at he; rw [h] at he; exact ⟨he, hw⟩







end Go.Proofs.YtnlpdpbmmpeiaaaDoor
