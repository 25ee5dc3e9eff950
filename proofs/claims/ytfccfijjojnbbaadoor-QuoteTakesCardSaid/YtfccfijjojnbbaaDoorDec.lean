/- The contract of the document's Decode: the first size whose bytes are a code point's. -/
import Derived.Test.YtfccfijjojnbbaaDoorWalks
import Derived.Lib.Hide
namespace Go.Proofs.YtfccfijjojnbbaaDoor
open Go.RowKit

theorem ret_int2 {a b c d : Int} (h : a = c) (k : b = d) : Ending.returned (.tuple #[.int .i64 a, .int .i64 b]) = .returned (.tuple #[.int .i64 c, .int .i64 d]) := by rw [h, k]

def DecPost (s : ByteArray) (a : Nat) (e : Ending) : Prop := ∃ r : Nat × Nat, RefIs s a r ∧ e = .returned (.tuple #[.int .i64 r.1, .int .i64 r.2])

theorem DecPost.yes {s : ByteArray} {a k : Nat} (h1 : 1 ≤ k) (h4 : k ≤ 4) (hk : a + k ≤ s.size) (ho : okK s a k) :
    DecPost s a (.returned (.tuple #[.int .i64 (cand s a k), .int .i64 k])) := ⟨(cand s a k, k), .inl ⟨k, h1, h4, hk, ho, rfl⟩, rfl⟩
theorem DecPost.no {s : ByteArray} {a : Nat} (h : ∀ k, 1 ≤ k → k ≤ 4 → a + k ≤ s.size → ¬ okK s a k) :
    DecPost s a (.returned (.tuple #[.int .i64 0, .int .i64 0])) := ⟨(0, 0), .inr ⟨h, rfl⟩, rfl⟩

def NoBelow (s : ByteArray) (a k : Nat) : Prop := ∀ j, 1 ≤ j → j < k → ¬ okK s a j
theorem NoBelow.step {s : ByteArray} {a k : Nat} (h : NoBelow s a k) (hk : ¬ okK s a k) : NoBelow s a (k + 1) := fun j h1 h2 => by
  by_cases e : j = k
  · rw [e]; exact hk
  · exact h j h1 (by omega)

theorem encZ_len (r : Int) : 1 ≤ (encZ r).length := by
  unfold encZ
  repeat' split
  all_goals simp
theorem enc_ne (r : Int) : ¬ (strOfNums (encZ r)).toList = [] := by
  intro h
  have h1 := encZ_len r
  have h2 := congrArg List.length h
  rw [ByteArray.toList_eq] at h2
  simp [strOfNums] at h2
  rw [h2] at h1
  simp at h1
theorem enc_ne2 (r : Int) : (strOfNums (encZ r)).toList.isEmpty = false := by
  have := enc_ne r
  cases h : (strOfNums (encZ r)).toList with
  | nil => exact absurd h this
  | cons _ _ => rfl
theorem toList_inj {s t : ByteArray} (h : s.toList = t.toList) : s = t := by
  rw [ByteArray.toList_eq, ByteArray.toList_eq] at h
  exact ByteArray.ext (Array.toList_inj.1 h)

set_option maxRecDepth 100000 in
set_option maxHeartbeats 1000000 in
theorem ref_decode_in (s : ByteArray) (a : Nat) (w : World) (hs : s.size ≤ maxLen) (ha : a < s.size) :
    Calls Tryd.prog 23 #[.string s, .int .i64 a] w fun e w' => DecPost s a e ∧ Below w.heap.size w w' := by
  unfold maxLen at hs
  have d1 : decide ((a : Int) < 0) = false := decide_eq_false (by omega)
  have d2 : decide (s.size ≤ a) = false := decide_eq_false (by omega)
  go_enter Tryd.func23, Tryd.ntmps23
  go_wp2
  go_loopw [6, 7, 8, 9, 10, 36, 39, 43, 47] (fun n size _ _ _ _ _ _ _ wr => ∃ k v : Nat, 1 ≤ k ∧ k ≤ 5 ∧ a + k ≤ s.size + 1 ∧ size = .int .i64 k ∧ n = .int .i64 v ∧ NoBelow s a k ∧ Below w.heap.size w wr) (fun _ size _ _ _ _ _ _ _ _ => 5 - (intOf size).toNat)
  case atStart => exact ⟨1, 0, by omega, by omega, by omega, rfl, rfl, fun j h1 h2 => by omega, Below.refl _ _⟩
  case round =>
    obtain ⟨k, v, hk1, hk5, hks, rfl, rfl, HN, HB⟩ := hrel
    obtain ⟨wo, rfl⟩ : ∃ wo : World, wo = wr := ⟨_, rfl⟩
    by_cases hin : k ≤ 4 ∧ a + k ≤ s.size
    · obtain ⟨hk4, hsz⟩ := hin
      have Hby := Lib.hid (byteAt_in (s := s) (i := a) ha)
      have hb0 : s[a].toNat < 256 := UInt8.toNat_lt _
      have hk : k = 1 ∨ k = 2 ∨ k = 3 ∨ k = 4 := by omega
      obtain ⟨x, hx, HX, HC⟩ : ∃ x, x < 256 ∧ Hid ((k = 1 → x = s[a].toNat) ∧ (k = 2 → x = s[a].toNat % 32) ∧ (k = 3 → x = s[a].toNat % 16) ∧ (k = 4 → x = s[a].toNat % 8)) ∧ Hid (cand s a k = foldB s a x k) := by
        rcases hk with rfl | rfl | rfl | rfl
        · exact ⟨s[a].toNat, hb0, ⟨fun _ => rfl, by omega, by omega, by omega⟩, by rw [Hby.out]; rfl⟩
        · exact ⟨s[a].toNat % 32, by omega, ⟨by omega, fun _ => rfl, by omega, by omega⟩, by rw [Hby.out]; rfl⟩
        · exact ⟨s[a].toNat % 16, by omega, ⟨by omega, by omega, fun _ => rfl, by omega⟩, by rw [Hby.out]; rfl⟩
        · exact ⟨s[a].toNat % 8, by omega, ⟨by omega, by omega, by omega, fun _ => rfl⟩, by rw [Hby.out]; rfl⟩
      clear hk
      rcases (show (1 ≤ k ∧ k ≤ 1) ∨ (2 ≤ k ∧ k ≤ 2) ∨ (3 ≤ k ∧ k ≤ 3) ∨ (4 ≤ k ∧ k ≤ 4) by omega) with ⟨hl, hu⟩ | ⟨hl, hu⟩ | ⟨hl, hu⟩ | ⟨hl, hu⟩
      · have qs : decide ((k : Int) ≤ (s.size : Int) - (a : Int)) = true := decide_eq_true (by omega)
        have q1 : ((k : Int) == 1) = true := by rw [beq_iff_eq]; omega
        go_wp2_with fail
        go_loop [6, 9] (fun n i => ∃ j : Nat, 1 ≤ j ∧ j ≤ k ∧ i = .int .i64 j ∧ n = .int .i64 (foldB s a x j)) (fun _ i => k - (intOf i).toNat)
        case atStart => exact ⟨1, by omega, by omega, rfl, by have := HX.out; show _ = Value.int .i64 ((x : Nat) : Int); go_num⟩
        case round =>
          obtain ⟨j, hj1, hj2, rfl, rfl⟩ := hrel
          have hfb := foldB_le s a x j hx hj1 (by omega)
          by_cases hjk : j < k
          · exfalso; omega
          · obtain rfl : j = k := by omega
            by_cases hpt : isPt (cand s a j)
            · have hE := ref_encode_yes (cand s a j) wo hpt
              rw [HC.out] at hE
              have hz := enc_ne (foldB s a x j)
              have hz2 := enc_ne2 (foldB s a x j)
              by_cases hq : okK s a j
              · have heq : ((strOfNums (encZ (foldB s a x j))).toList == (s.extract a (a + j)).toList) = true := by
                  rw [beq_iff_eq, ← HC.out, (enc_is s a j _ hpt hsz).2 hq.2]
                go_wp2_with fail
                refine hE.mono ?_
                rintro e w' ⟨rfl, hb⟩
                clear hE
                go_wp2_with fail
                go_ret2
                rw [← HC.out]
                exact ⟨DecPost.yes hj1 hk4 hsz hq, HB.trans (hb.mono HB.size)⟩
              · have heq : ((strOfNums (encZ (foldB s a x j))).toList == (s.extract a (a + j)).toList) = false := by
                  rw [beq_eq_false_iff_ne, ← HC.out]; exact fun h => hq ⟨hpt, (enc_is s a j _ hpt hsz).1 (toList_inj h)⟩
                have HN2 : NoBelow s a (j + 1) := HN.step hq
                go_wp2_with fail
                refine hE.mono ?_
                rintro e w' ⟨rfl, hb⟩
                clear hE
                go_wp2_with fail
                go_roundw
                case rel => exact ⟨j + 1, _, by omega, by omega, by omega, by go_num, rfl, HN2, HB.trans (hb.mono HB.size)⟩
                case measure => simp [intOf] <;> omega
            · have hE := ref_encode_no (cand s a j) wo hpt
              have HN2 : NoBelow s a (j + 1) := HN.step fun h => hpt h.1
              rw [HC.out] at hE
              go_wp2_with fail
              refine hE.mono ?_
              rintro e w' ⟨rfl, hb⟩
              clear hE
              go_wp2_with fail
              go_roundw
              case rel => exact ⟨j + 1, _, by omega, by omega, by omega, by go_num, rfl, HN2, HB.trans (hb.mono HB.size)⟩
              case measure => simp [intOf] <;> omega
      · have qs : decide ((k : Int) ≤ (s.size : Int) - (a : Int)) = true := decide_eq_true (by omega)
        have q1 : ((k : Int) == 1) = false := by rw [beq_eq_false_iff_ne]; omega
        have q2 : ((k : Int) == 2) = true := by rw [beq_iff_eq]; omega
        go_wp2_with fail
        go_loop [6, 9] (fun n i => ∃ j : Nat, 1 ≤ j ∧ j ≤ k ∧ i = .int .i64 j ∧ n = .int .i64 (foldB s a x j)) (fun _ i => k - (intOf i).toNat)
        case atStart => exact ⟨1, by omega, by omega, rfl, by have := HX.out; show _ = Value.int .i64 ((x : Nat) : Int); go_num⟩
        case round =>
          obtain ⟨j, hj1, hj2, rfl, rfl⟩ := hrel
          have hfb := foldB_le s a x j hx hj1 (by omega)
          by_cases hjk : j < k
          · have Hb2 := Lib.hid (byteAt_in (s := s) (i := a + j) (by omega))
            have hb2 : (s[a + j]'(by omega)).toNat < 256 := UInt8.toNat_lt _
            have HF : Hid (foldB s a x (j + 1) = foldB s a x j * 64 + byteAt s (a + j) % 64) := by
              obtain ⟨i, rfl⟩ : ∃ i, j = i + 1 := ⟨j - 1, by omega⟩
              rfl
            go_wp2_with fail
            go_round
            case rel => exact ⟨j + 1, by omega, by omega, by go_num, by rw [HF.out, ← Hb2.out]; go_num⟩
            case measure => simp [intOf] <;> omega
          · obtain rfl : j = k := by omega
            by_cases hpt : isPt (cand s a j)
            · have hE := ref_encode_yes (cand s a j) wo hpt
              rw [HC.out] at hE
              have hz := enc_ne (foldB s a x j)
              have hz2 := enc_ne2 (foldB s a x j)
              by_cases hq : okK s a j
              · have heq : ((strOfNums (encZ (foldB s a x j))).toList == (s.extract a (a + j)).toList) = true := by
                  rw [beq_iff_eq, ← HC.out, (enc_is s a j _ hpt hsz).2 hq.2]
                go_wp2_with fail
                refine hE.mono ?_
                rintro e w' ⟨rfl, hb⟩
                clear hE
                go_wp2_with fail
                go_ret2
                rw [← HC.out]
                exact ⟨DecPost.yes hj1 hk4 hsz hq, HB.trans (hb.mono HB.size)⟩
              · have heq : ((strOfNums (encZ (foldB s a x j))).toList == (s.extract a (a + j)).toList) = false := by
                  rw [beq_eq_false_iff_ne, ← HC.out]; exact fun h => hq ⟨hpt, (enc_is s a j _ hpt hsz).1 (toList_inj h)⟩
                have HN2 : NoBelow s a (j + 1) := HN.step hq
                go_wp2_with fail
                refine hE.mono ?_
                rintro e w' ⟨rfl, hb⟩
                clear hE
                go_wp2_with fail
                go_roundw
                case rel => exact ⟨j + 1, _, by omega, by omega, by omega, by go_num, rfl, HN2, HB.trans (hb.mono HB.size)⟩
                case measure => simp [intOf] <;> omega
            · have hE := ref_encode_no (cand s a j) wo hpt
              have HN2 : NoBelow s a (j + 1) := HN.step fun h => hpt h.1
              rw [HC.out] at hE
              go_wp2_with fail
              refine hE.mono ?_
              rintro e w' ⟨rfl, hb⟩
              clear hE
              go_wp2_with fail
              go_roundw
              case rel => exact ⟨j + 1, _, by omega, by omega, by omega, by go_num, rfl, HN2, HB.trans (hb.mono HB.size)⟩
              case measure => simp [intOf] <;> omega
      · have qs : decide ((k : Int) ≤ (s.size : Int) - (a : Int)) = true := decide_eq_true (by omega)
        have q1 : ((k : Int) == 1) = false := by rw [beq_eq_false_iff_ne]; omega
        have q2 : ((k : Int) == 2) = false := by rw [beq_eq_false_iff_ne]; omega
        have q3 : ((k : Int) == 3) = true := by rw [beq_iff_eq]; omega
        go_wp2_with fail
        go_loop [6, 9] (fun n i => ∃ j : Nat, 1 ≤ j ∧ j ≤ k ∧ i = .int .i64 j ∧ n = .int .i64 (foldB s a x j)) (fun _ i => k - (intOf i).toNat)
        case atStart => exact ⟨1, by omega, by omega, rfl, by have := HX.out; show _ = Value.int .i64 ((x : Nat) : Int); go_num⟩
        case round =>
          obtain ⟨j, hj1, hj2, rfl, rfl⟩ := hrel
          have hfb := foldB_le s a x j hx hj1 (by omega)
          by_cases hjk : j < k
          · have Hb2 := Lib.hid (byteAt_in (s := s) (i := a + j) (by omega))
            have hb2 : (s[a + j]'(by omega)).toNat < 256 := UInt8.toNat_lt _
            have HF : Hid (foldB s a x (j + 1) = foldB s a x j * 64 + byteAt s (a + j) % 64) := by
              obtain ⟨i, rfl⟩ : ∃ i, j = i + 1 := ⟨j - 1, by omega⟩
              rfl
            go_wp2_with fail
            go_round
            case rel => exact ⟨j + 1, by omega, by omega, by go_num, by rw [HF.out, ← Hb2.out]; go_num⟩
            case measure => simp [intOf] <;> omega
          · obtain rfl : j = k := by omega
            by_cases hpt : isPt (cand s a j)
            · have hE := ref_encode_yes (cand s a j) wo hpt
              rw [HC.out] at hE
              have hz := enc_ne (foldB s a x j)
              have hz2 := enc_ne2 (foldB s a x j)
              by_cases hq : okK s a j
              · have heq : ((strOfNums (encZ (foldB s a x j))).toList == (s.extract a (a + j)).toList) = true := by
                  rw [beq_iff_eq, ← HC.out, (enc_is s a j _ hpt hsz).2 hq.2]
                go_wp2_with fail
                refine hE.mono ?_
                rintro e w' ⟨rfl, hb⟩
                clear hE
                go_wp2_with fail
                go_ret2
                rw [← HC.out]
                exact ⟨DecPost.yes hj1 hk4 hsz hq, HB.trans (hb.mono HB.size)⟩
              · have heq : ((strOfNums (encZ (foldB s a x j))).toList == (s.extract a (a + j)).toList) = false := by
                  rw [beq_eq_false_iff_ne, ← HC.out]; exact fun h => hq ⟨hpt, (enc_is s a j _ hpt hsz).1 (toList_inj h)⟩
                have HN2 : NoBelow s a (j + 1) := HN.step hq
                go_wp2_with fail
                refine hE.mono ?_
                rintro e w' ⟨rfl, hb⟩
                clear hE
                go_wp2_with fail
                go_roundw
                case rel => exact ⟨j + 1, _, by omega, by omega, by omega, by go_num, rfl, HN2, HB.trans (hb.mono HB.size)⟩
                case measure => simp [intOf] <;> omega
            · have hE := ref_encode_no (cand s a j) wo hpt
              have HN2 : NoBelow s a (j + 1) := HN.step fun h => hpt h.1
              rw [HC.out] at hE
              go_wp2_with fail
              refine hE.mono ?_
              rintro e w' ⟨rfl, hb⟩
              clear hE
              go_wp2_with fail
              go_roundw
              case rel => exact ⟨j + 1, _, by omega, by omega, by omega, by go_num, rfl, HN2, HB.trans (hb.mono HB.size)⟩
              case measure => simp [intOf] <;> omega
      · have qs : decide ((k : Int) ≤ (s.size : Int) - (a : Int)) = true := decide_eq_true (by omega)
        have q1 : ((k : Int) == 1) = false := by rw [beq_eq_false_iff_ne]; omega
        have q2 : ((k : Int) == 2) = false := by rw [beq_eq_false_iff_ne]; omega
        have q3 : ((k : Int) == 3) = false := by rw [beq_eq_false_iff_ne]; omega
        have q4 : ((k : Int) == 4) = true := by rw [beq_iff_eq]; omega
        go_wp2_with fail
        go_loop [6, 9] (fun n i => ∃ j : Nat, 1 ≤ j ∧ j ≤ k ∧ i = .int .i64 j ∧ n = .int .i64 (foldB s a x j)) (fun _ i => k - (intOf i).toNat)
        case atStart => exact ⟨1, by omega, by omega, rfl, by have := HX.out; show _ = Value.int .i64 ((x : Nat) : Int); go_num⟩
        case round =>
          obtain ⟨j, hj1, hj2, rfl, rfl⟩ := hrel
          have hfb := foldB_le s a x j hx hj1 (by omega)
          by_cases hjk : j < k
          · have Hb2 := Lib.hid (byteAt_in (s := s) (i := a + j) (by omega))
            have hb2 : (s[a + j]'(by omega)).toNat < 256 := UInt8.toNat_lt _
            have HF : Hid (foldB s a x (j + 1) = foldB s a x j * 64 + byteAt s (a + j) % 64) := by
              obtain ⟨i, rfl⟩ : ∃ i, j = i + 1 := ⟨j - 1, by omega⟩
              rfl
            go_wp2_with fail
            go_round
            case rel => exact ⟨j + 1, by omega, by omega, by go_num, by rw [HF.out, ← Hb2.out]; go_num⟩
            case measure => simp [intOf] <;> omega
          · obtain rfl : j = k := by omega
            by_cases hpt : isPt (cand s a j)
            · have hE := ref_encode_yes (cand s a j) wo hpt
              rw [HC.out] at hE
              have hz := enc_ne (foldB s a x j)
              have hz2 := enc_ne2 (foldB s a x j)
              by_cases hq : okK s a j
              · have heq : ((strOfNums (encZ (foldB s a x j))).toList == (s.extract a (a + j)).toList) = true := by
                  rw [beq_iff_eq, ← HC.out, (enc_is s a j _ hpt hsz).2 hq.2]
                go_wp2_with fail
                refine hE.mono ?_
                rintro e w' ⟨rfl, hb⟩
                clear hE
                go_wp2_with fail
                go_ret2
                rw [← HC.out]
                exact ⟨DecPost.yes hj1 hk4 hsz hq, HB.trans (hb.mono HB.size)⟩
              · have heq : ((strOfNums (encZ (foldB s a x j))).toList == (s.extract a (a + j)).toList) = false := by
                  rw [beq_eq_false_iff_ne, ← HC.out]; exact fun h => hq ⟨hpt, (enc_is s a j _ hpt hsz).1 (toList_inj h)⟩
                have HN2 : NoBelow s a (j + 1) := HN.step hq
                go_wp2_with fail
                refine hE.mono ?_
                rintro e w' ⟨rfl, hb⟩
                clear hE
                go_wp2_with fail
                go_roundw
                case rel => exact ⟨j + 1, _, by omega, by omega, by omega, by go_num, rfl, HN2, HB.trans (hb.mono HB.size)⟩
                case measure => simp [intOf] <;> omega
            · have hE := ref_encode_no (cand s a j) wo hpt
              have HN2 : NoBelow s a (j + 1) := HN.step fun h => hpt h.1
              rw [HC.out] at hE
              go_wp2_with fail
              refine hE.mono ?_
              rintro e w' ⟨rfl, hb⟩
              clear hE
              go_wp2_with fail
              go_roundw
              case rel => exact ⟨j + 1, _, by omega, by omega, by omega, by go_num, rfl, HN2, HB.trans (hb.mono HB.size)⟩
              case measure => simp [intOf] <;> omega
    · have HN5 : ∀ j, 1 ≤ j → j ≤ 4 → a + j ≤ s.size → ¬ okK s a j := fun j h1 h4 h => HN j h1 (by omega)
      by_cases hk : k ≤ 4
      · have hgt : (s.size : Int) - a < k := by omega
        go_wp2_with fail
        go_ret2
        exact ⟨DecPost.no HN5, HB⟩
      · go_wp2_with fail
        go_ret2
        exact ⟨DecPost.no HN5, HB⟩

set_option maxHeartbeats 400000 in
theorem ref_decode_out (s : ByteArray) (a : Int) (w : World) (_hs : s.size ≤ maxLen) (ha : a < 0 ∨ s.size ≤ a) :
    Calls Tryd.prog 23 #[.string s, .int .i64 a] w fun e w' => e = .returned (.tuple #[.int .i64 0, .int .i64 0]) ∧ w = w' := by
  unfold maxLen at _hs
  by_cases h : a < 0
  · clear ha
    go_enter Tryd.func23, Tryd.ntmps23
    go_wp2
    go_ret2
    exact ⟨rfl, rfl⟩
  · have h2 : (s.size : Int) ≤ a := by omega
    clear ha
    go_enter Tryd.func23, Tryd.ntmps23
    go_wp2
    go_ret2
    exact ⟨rfl, rfl⟩

/-- the document's answer is one -/
theorem ref_ex (s : ByteArray) (a : Nat) (ha : a < s.size) (r : Nat × Nat) (h : RefIs s a r) : r = codeD s a := (code_ref s a ha r h).symm

theorem ref_decode (s : ByteArray) (a : Nat) (w : World) (hs : s.size ≤ maxLen) (ha : a < s.size) :
    Calls Tryd.prog 23 #[.string s, .int .i64 a] w fun e w' => e = .returned (.tuple #[.int .i64 (codeD s a).1, .int .i64 (codeD s a).2]) ∧ Below w.heap.size w w' :=
  (ref_decode_in s a w hs ha).mono fun e w' ⟨⟨r, hr, he⟩, hw⟩ => by rw [ref_ex s a ha r hr] at he; exact ⟨he, hw⟩

end Go.Proofs.YtfccfijjojnbbaaDoor
