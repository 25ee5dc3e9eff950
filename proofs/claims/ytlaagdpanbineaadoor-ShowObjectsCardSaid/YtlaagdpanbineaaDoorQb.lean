/- The contract of runes.Decode, out of the library's contract of utf8.DecodeRuneInString. -/
import Derived.Test.YtlaagdpanbineaaDoorQa
import Derived.Test.YtlaagdpanbineaaDoorShelf
import Derived.Lib.ValidU
import Derived.Lib.Strings
import Derived.Lib.Hide
namespace Go.Proofs.YtlaagdpanbineaaDoor
open Go.RowKit

theorem byteAt_extract (s : ByteArray) (a i : Nat) : byteAt (s.extract a s.size) i = byteAt s (a + i) := by
  unfold byteAt
  by_cases h : a + i < s.size
  · have h1 : i < (s.extract a s.size).size := by simp [ByteArray.size_extract]; omega
    rw [dif_pos h1, dif_pos h]
    congr 1
    simp [ByteArray.getElem_extract]
  · have h1 : ¬ i < (s.extract a s.size).size := by simp [ByteArray.size_extract]; omega
    rw [dif_neg h1, dif_neg h]

theorem decode_extract (s : ByteArray) (a : Nat) : Utf8.decode (s.extract a s.size) 0 = Utf8.decode s a := by
  rw [Lib.decode_at, Lib.decode_at]
  simp only [byteAt_get, byteAt_extract, Nat.zero_add, Nat.add_zero, Nat.sub_zero]
  have : (s.extract a s.size).size = s.size - a := by simp [ByteArray.size_extract]
  rw [this]

theorem decodeGo_extract (s : ByteArray) (a : Nat) (ha : a < s.size) : Lib.decodeGo (s.extract a s.size) = Utf8.decode s a := by
  unfold Lib.decodeGo
  have : (s.extract a s.size).size = s.size - a := by simp [ByteArray.size_extract]
  rw [if_neg (by omega), decode_extract]

/-- what the model's decode answers fits: a number below 2^21, one to four bytes -/
theorem decode_bd (s : ByteArray) (a : Nat) : (Utf8.decode s a).1 < 2097152 ∧ 1 ≤ (Utf8.decode s a).2 ∧ (Utf8.decode s a).2 ≤ 4 := by
  rw [Lib.decode_at]
  simp only [byteAt_get]
  have hb := byteAt_lt s a
  have hb1 := byteAt_lt s (a + 1)
  have hb2 := byteAt_lt s (a + 2)
  have hb3 := byteAt_lt s (a + 3)
  generalize byteAt s a = b at *
  generalize byteAt s (a + 1) = b1 at *
  generalize byteAt s (a + 2) = b2 at *
  generalize byteAt s (a + 3) = b3 at *
  unfold Lib.decodeN
  repeat' split
  all_goals refine ⟨?_, ?_, ?_⟩ <;> simp only <;> omega

set_option maxHeartbeats 400000 in
theorem dec_out (s : ByteArray) (a : Int) (w : World) (_hs : s.size ≤ maxLen) (ha : a < 0 ∨ s.size ≤ a) :
    Calls Tryd.prog 72 #[.string s, .int .i64 a] w fun e w' => e = .returned (.tuple #[.int .i64 0, .int .i64 0, .bool false]) ∧ w = w' := by
  unfold maxLen at _hs
  by_cases h : a < 0
  · clear ha
    go_enter Tryd.func72, Tryd.ntmps72
    go_wp2
    go_ret3
    exact ⟨rfl, rfl⟩
  · have h2 : (s.size : Int) ≤ a := by omega
    clear ha
    go_enter Tryd.func72, Tryd.ntmps72
    go_wp2
    go_ret3
    exact ⟨rfl, rfl⟩

set_option maxHeartbeats 400000 in
theorem dec_bad (s : ByteArray) (a : Nat) (w : World) (hT : Lib.Utf8Tabs 15 16 w) (_hs : s.size ≤ maxLen) (ha : a < s.size) (hc : (Utf8.decode s a).1 = 65533 ∧ (Utf8.decode s a).2 = 1) :
    Calls Tryd.prog 72 #[.string s, .int .i64 a] w fun e w' => e = .returned (.tuple #[.int .i64 0, .int .i64 0, .bool false]) ∧ Below w.heap.size w w' := by
  unfold maxLen at _hs
  have hD := Tryd.utf8_DecodeRuneInString (s.extract a s.size) w hT
  rw [decodeGo_extract s a ha, hc.1, hc.2] at hD
  clear hT hc
  go_enter Tryd.func72, Tryd.ntmps72
  go_wp2_with fail
  refine hD.mono ?_
  rintro e w' ⟨rfl, hb⟩
  clear hD
  go_wp2_with fail
  go_ret3
  exact ⟨rfl, hb⟩

set_option maxHeartbeats 400000 in
theorem dec_good (s : ByteArray) (a : Nat) (w : World) (hT : Lib.Utf8Tabs 15 16 w) (_hs : s.size ≤ maxLen) (ha : a < s.size) (hc : ¬ ((Utf8.decode s a).1 = 65533 ∧ (Utf8.decode s a).2 = 1)) :
    Calls Tryd.prog 72 #[.string s, .int .i64 a] w fun e w' => e = .returned (.tuple #[.int .i64 (Utf8.decode s a).1, .int .i64 (Utf8.decode s a).2, .bool true]) ∧ Below w.heap.size w w' := by
  unfold maxLen at _hs
  have hD := Tryd.utf8_DecodeRuneInString (s.extract a s.size) w hT
  have hbd := decode_bd s a
  rw [decodeGo_extract s a ha] at hD
  generalize (Utf8.decode s a).1 = c at *
  generalize (Utf8.decode s a).2 = n at *
  obtain ⟨hb1, hb2, hb3⟩ := hbd
  clear hT
  by_cases h1 : c = 65533
  · have h2 : ¬ n = 1 := fun h => hc ⟨h1, h⟩
    have q1 : ((c : Int) == 65533) = true := by rw [beq_iff_eq]; omega
    have q2 : ((n : Int) == 1) = false := by rw [beq_eq_false_iff_ne]; omega
    clear hc h1 h2
    go_enter Tryd.func72, Tryd.ntmps72
    go_wp2_with fail
    refine hD.mono ?_
    rintro e w' ⟨rfl, hb⟩
    clear hD
    go_wp2_with fail
    go_ret3
    exact ⟨rfl, hb⟩
  · have q1 : ((c : Int) == 65533) = false := by rw [beq_eq_false_iff_ne]; omega
    clear hc h1
    go_enter Tryd.func72, Tryd.ntmps72
    go_wp2_with fail
    refine hD.mono ?_
    rintro e w' ⟨rfl, hb⟩
    clear hD
    go_wp2_with fail
    go_ret3
    exact ⟨rfl, hb⟩

end Go.Proofs.YtlaagdpanbineaaDoor

/- A text's code points, one behind the other: plain mathematics. -/
namespace Go.Proofs.YtlaagdpanbineaaDoor

def ptsD (s : ByteArray) : Nat → Nat → List Int
  | 0, _ => []
  | f + 1, pos => if pos < s.size then ((Utf8.decode s pos).1 : Int) :: ptsD s f (pos + (Utf8.decode s pos).2) else []

def vld (s : ByteArray) : Nat → Nat → Bool
  | 0, _ => true
  | f + 1, pos => if pos < s.size then (if (Utf8.decode s pos).1 = 65533 ∧ (Utf8.decode s pos).2 = 1 then false else vld s f (pos + (Utf8.decode s pos).2)) else true

theorem ptsD_end (s : ByteArray) (f pos : Nat) (h : ¬ pos < s.size) : ptsD s f pos = [] := by
  cases f with
  | zero => rfl
  | succ f => simp [ptsD, h]
theorem vld_end (s : ByteArray) (f pos : Nat) (h : ¬ pos < s.size) : vld s f pos = true := by
  cases f with
  | zero => rfl
  | succ f => simp [vld, h]

theorem byteAt_drop (s : ByteArray) (a i : Nat) : byteAt ⟨(s.data.toList.drop a).toArray⟩ i = byteAt s (a + i) := by
  have hsz : (⟨(s.data.toList.drop a).toArray⟩ : ByteArray).size = s.size - a := by
    show (s.data.toList.drop a).toArray.size = s.data.size - a
    rw [List.size_toArray, List.length_drop]; rfl
  unfold byteAt
  by_cases h : a + i < s.size
  · have h1 : i < (⟨(s.data.toList.drop a).toArray⟩ : ByteArray).size := by rw [hsz]; omega
    rw [dif_pos h1, dif_pos h]
    congr 1
    show (s.data.toList.drop a).toArray[i]'_ = s.data[a + i]'_
    simp
  · have h1 : ¬ i < (⟨(s.data.toList.drop a).toArray⟩ : ByteArray).size := by rw [hsz]; omega
    rw [dif_neg h1, dif_neg h]

theorem decodeL_at (s : ByteArray) (a : Nat) : Lib.decodeL (s.data.toList.drop a) = Utf8.decode s a := by
  unfold Lib.decodeL
  rw [Lib.decode_at, Lib.decode_at]
  simp only [byteAt_get, byteAt_drop, Nat.zero_add, Nat.add_zero, Nat.sub_zero]
  have : (⟨(s.data.toList.drop a).toArray⟩ : ByteArray).size = s.size - a := by
    show (s.data.toList.drop a).toArray.size = s.data.size - a
    rw [List.size_toArray, List.length_drop]; rfl
  rw [this]

theorem validGoD_at (s : ByteArray) : ∀ (f a : Nat), Lib.validGoD f (s.data.toList.drop a) = vld s f a := by
  intro f
  induction f with
  | zero => intro a; rfl
  | succ f ih =>
    intro a
    rw [Lib.validGoD, vld, decodeL_at, List.drop_drop, ih]
    have hl : s.data.toList.length = s.size := rfl
    by_cases h : a < s.size
    · rw [if_neg (by rw [List.drop_eq_nil_iff]; omega), if_pos h]
    · rw [if_pos (by rw [List.drop_eq_nil_iff]; omega), if_neg h]

theorem validD_eq (s : ByteArray) : Lib.validD s.data.toList = vld s s.size 0 := by
  unfold Lib.validD
  have := validGoD_at s s.data.toList.length 0
  rw [List.drop_zero] at this
  exact this

theorem codeD_zero {s : ByteArray} {a : Nat} : ((Utf8.decode s a).1 = 65533 ∧ (Utf8.decode s a).2 = 1) ↔ (codeD s a).2 = 0 := by
  have := decode_bd s a
  unfold codeD
  by_cases h : (Utf8.decode s a).1 = 65533 ∧ (Utf8.decode s a).2 = 1
  · rw [if_pos h]; simp [h]
  · rw [if_neg h]; constructor
    · intro h'; exact absurd h' h
    · intro h'; omega

theorem codeD_eq {s : ByteArray} {a : Nat} (h : ¬ (codeD s a).2 = 0) : codeD s a = Utf8.decode s a := by
  have h' : ¬ ((Utf8.decode s a).1 = 65533 ∧ (Utf8.decode s a).2 = 1) := fun x => h (codeD_zero.1 x)
  unfold codeD
  rw [if_neg h']

/-- one step of a way through a text: what has been read, and what is left, are the whole -/
structure Way (s : ByteArray) (f pos : Nat) (acc : List Int) : Prop where
  list : acc ++ ptsD s f pos = ptsD s s.size 0
  good : vld s f pos = vld s s.size 0
  fuel : s.size ≤ pos + f
  len : acc.length ≤ pos

theorem Way.start (s : ByteArray) : Way s s.size 0 [] := ⟨rfl, rfl, by omega, by simp⟩
theorem Way.step {s : ByteArray} {f pos : Nat} {acc : List Int} (h : Way s (f + 1) pos acc) (hp : pos < s.size) (hc : ¬ (codeD s pos).2 = 0) :
    Way s f (pos + (codeD s pos).2) (acc ++ [((codeD s pos).1 : Int)]) := by
  have hb := decode_bd s pos
  have he := codeD_eq hc
  have h' : ¬ ((Utf8.decode s pos).1 = 65533 ∧ (Utf8.decode s pos).2 = 1) := fun x => hc (codeD_zero.1 x)
  rw [he]
  obtain ⟨h1, h2, h3, h4⟩ := h
  refine ⟨?_, ?_, by omega, by simp; omega⟩
  · rw [← h1, ptsD, if_pos hp]; simp
  · rw [← h2, vld, if_pos hp, if_neg h']
/-- the same by the library's own step, whatever the bytes are -/
theorem Way.stepD {s : ByteArray} {f pos : Nat} {acc : List Int} (hv : vld s s.size 0 = true) (h : Way s (f + 1) pos acc) (hp : pos < s.size) :
    Way s f (pos + (Utf8.decode s pos).2) (acc ++ [((Utf8.decode s pos).1 : Int)]) := by
  have hc : ¬ (codeD s pos).2 = 0 := by
    intro h0
    have := h.good
    rw [vld, if_pos hp, if_pos (codeD_zero.2 h0), hv] at this
    cases this
  have := h.step hp hc
  rwa [codeD_eq hc] at this
theorem Way.bad {s : ByteArray} {f pos : Nat} {acc : List Int} (h : Way s f pos acc) (hp : pos < s.size) (hc : (codeD s pos).2 = 0) : vld s s.size 0 = false := by
  have h2 := h.good
  have h3 := h.fuel
  obtain ⟨g, rfl⟩ : ∃ g, f = g + 1 := ⟨f - 1, by omega⟩
  rw [← h2, vld, if_pos hp, if_pos (codeD_zero.2 hc)]
theorem Way.ends {s : ByteArray} {f pos : Nat} {acc : List Int} (h : Way s f pos acc) (hp : ¬ pos < s.size) : acc = ptsD s s.size 0 ∧ vld s s.size 0 = true := by
  obtain ⟨h1, h2, _, _⟩ := h
  rw [ptsD_end s f pos hp, List.append_nil] at h1
  rw [vld_end s f pos hp] at h2
  exact ⟨h1, h2.symm⟩

end Go.Proofs.YtlaagdpanbineaaDoor

/- quote.letter, quote.unit, quote.coded, quote.escaped, quote.piece: what each call returns. -/
namespace Go.Proofs.YtlaagdpanbineaaDoor
open Go.RowKit

theorem ext_list (s : ByteArray) (a : Nat) : (s.extract a s.size).data.toList = s.data.toList.drop a := by
  rw [Lib.extract_data, List.take_of_length_le]
  rw [List.length_drop, size_list]
  omega

theorem bAt_head {s : ByteArray} {a k : Nat} {c : UInt8} {l : List UInt8} (h : s.data.toList.drop a = l) (hc : l[k]? = some c) : byteAt s (a + k) = c.toNat := by
  rw [← byteAt_dropL, byteAt_list, toBA, h, hc]
  rfl
theorem drop_len {s : ByteArray} {a : Nat} {l : List UInt8} (h : s.data.toList.drop a = l) : l.length = s.size - a := by
  rw [← h, List.length_drop, size_list]

theorem hexL_drop (s : ByteArray) (i : Nat) : hexL (s.data.toList.drop i) = if i + 4 ≤ s.size then hexTo s i 4 else none := by
  have hl := drop_len (s := s) (a := i) rfl
  rcases hd : s.data.toList.drop i with _ | ⟨a, _ | ⟨b, _ | ⟨c, _ | ⟨d, t⟩⟩⟩⟩
  · rw [hd] at hl; simp at hl; rw [if_neg (by omega)]; rfl
  · rw [hd] at hl; simp at hl; rw [if_neg (by omega)]; rfl
  · rw [hd] at hl; simp at hl; rw [if_neg (by omega)]; rfl
  · rw [hd] at hl; simp at hl; rw [if_neg (by omega)]; rfl
  · rw [hd] at hl
    simp only [List.length_cons] at hl
    rw [if_pos (by omega)]
    have e0 : byteAt s (i + 0) = a.toNat := bAt_head hd rfl
    have e1 : byteAt s (i + 1) = b.toNat := bAt_head hd rfl
    have e2 : byteAt s (i + 2) = c.toNat := bAt_head hd rfl
    have e3 : byteAt s (i + 3) = d.toNat := bAt_head hd rfl
    show hex4 a b c d = _
    simp only [hexTo, e0, e1, e2, e3]
    unfold hex4
    cases dg a.toNat <;> cases dg b.toNat <;> cases dg c.toNat <;> cases dg d.toNat <;> simp

/-! ### runes.Hex by hexL -/
def unitV : Option Nat → Value
  | some v => .tuple #[.int .i64 v, .bool true]
  | none => .tuple #[.int .i64 0, .bool false]
theorem hexr_any (s : ByteArray) (a : Nat) (w : World) (hs : s.size ≤ maxLen) {o : Option Nat} (ho : hexL (s.data.toList.drop a) = o) :
    Calls Tryd.prog 111 #[.string s, .int .i64 a] w fun e w' => e = .returned (unitV o) ∧ w = w' := by
  rw [hexL_drop] at ho
  by_cases h : a + 4 ≤ s.size
  · rw [if_pos h] at ho
    cases o with
    | none => exact hex_no s a w hs h ho
    | some v => exact hex_yes s a v w hs h ho
  · rw [if_neg h] at ho
    subst ho
    exact hex_out s a w hs (by omega)

/-! ### quote.letter -/
theorem letter_cases {c x : Nat} (h : letterB c = some x) : (c = 34 ∧ x = 34) ∨ (c = 92 ∧ x = 92) ∨ (c = 47 ∧ x = 47) ∨ (c = 98 ∧ x = 8) ∨ (c = 102 ∧ x = 12) ∨ (c = 110 ∧ x = 10) ∨ (c = 114 ∧ x = 13) ∨ (c = 116 ∧ x = 9) := by
  unfold letterB at h
  repeat' split at h
  all_goals (simp at h; try omega)
theorem letter_none {c : Nat} (h : letterB c = none) : c ≠ 34 ∧ c ≠ 92 ∧ c ≠ 47 ∧ c ≠ 98 ∧ c ≠ 102 ∧ c ≠ 110 ∧ c ≠ 114 ∧ c ≠ 116 := by
  unfold letterB at h
  repeat' split at h
  all_goals (simp at h; try omega)

def letterV : Option Nat → Value
  | some v => .tuple #[.int .i32 v, .bool true]
  | none => .tuple #[.int .i32 0, .bool false]

set_option maxHeartbeats 1000000 in
theorem letter_any (c : Nat) (w : World) {o : Option Nat} (ho : letterB c = o) :
    Calls Tryd.prog 81 #[.int .u8 c] w fun e w' => e = .returned (letterV o) ∧ w = w' := by
  cases o with
  | some x =>
    rcases letter_cases ho with ⟨rfl, rfl⟩ | ⟨rfl, rfl⟩ | ⟨rfl, rfl⟩ | ⟨rfl, rfl⟩ | ⟨rfl, rfl⟩ | ⟨rfl, rfl⟩ | ⟨rfl, rfl⟩ | ⟨rfl, rfl⟩
    all_goals
      go_enter Tryd.func81, Tryd.ntmps81
      go_wp2
      go_ret2
      exact ⟨rfl, rfl⟩
  | none =>
    obtain ⟨h1, h2, h3, h4, h5, h6, h7, h8⟩ := letter_none ho
    have q1 : ((c : Int) == 34) = false := by simp; omega
    have q2 : ((c : Int) == 92) = false := by simp; omega
    have q3 : ((c : Int) == 47) = false := by simp; omega
    have q4 : ((c : Int) == 98) = false := by simp; omega
    have q5 : ((c : Int) == 102) = false := by simp; omega
    have q6 : ((c : Int) == 110) = false := by simp; omega
    have q7 : ((c : Int) == 114) = false := by simp; omega
    have q8 : ((c : Int) == 116) = false := by simp; omega
    clear ho h1 h2 h3 h4 h5 h6 h7 h8
    go_enter Tryd.func81, Tryd.ntmps81
    go_wp2
    go_ret2
    exact ⟨rfl, rfl⟩

/-! ### quote.unit -/
theorem unit_cases (l : List UInt8) : (Lib.hasPrefix l [92, 117] = true ∧ ∃ t, l = 92 :: 117 :: t ∧ unitL l = hexL t) ∨ (Lib.hasPrefix l [92, 117] = false ∧ unitL l = none) := by
  rcases l with _ | ⟨a, _ | ⟨b, t⟩⟩
  · exact .inr ⟨rfl, rfl⟩
  · exact .inr ⟨by simp [Lib.hasPrefix, List.isPrefixOf], rfl⟩
  · by_cases h : a = 92 ∧ b = 117
    · obtain ⟨rfl, rfl⟩ := h
      refine .inl ⟨by simp [Lib.hasPrefix, List.isPrefixOf], t, rfl, ?_⟩
      show (if (92 : UInt8).toNat = 92 ∧ (117 : UInt8).toNat = 117 then hexL t else none) = _
      rw [if_pos ⟨rfl, rfl⟩]
    · refine .inr ⟨?_, ?_⟩
      · simp only [Lib.hasPrefix, List.isPrefixOf, Bool.and_true]
        by_cases h1 : a = 92
        · have h2 : ¬ b = 117 := fun e => h ⟨h1, e⟩
          have h3 : ¬ 117 = b := fun e => h2 e.symm
          simp [h3]
        · have h3 : ¬ 92 = a := fun e => h1 e.symm
          simp [h3]
      · show (if a.toNat = 92 ∧ b.toNat = 117 then hexL t else none) = none
        rw [if_neg]
        rintro ⟨h1, h2⟩
        exact h ⟨UInt8.toNat_inj.1 (by rw [h1]; rfl), UInt8.toNat_inj.1 (by rw [h2]; rfl)⟩

set_option maxHeartbeats 1000000 in
theorem unit_any (s : ByteArray) (a : Nat) (w : World) (hs : s.size ≤ maxLen) (ha : a ≤ s.size) {o : Option Nat} (ho : unitL (s.data.toList.drop a) = o) :
    Calls Tryd.prog 97 #[.string s, .int .i64 a] w fun e w' => e = .returned (unitV o) ∧ w = w' := by
  have hP := fun w => Tryd.strings_HasPrefix (s.extract a s.size) ⟨#[92, 117]⟩ w
  rw [ext_list, show (⟨#[92, 117]⟩ : ByteArray).data.toList = [92, 117] from rfl] at hP
  have hs' := hs
  unfold maxLen at hs
  rcases unit_cases (s.data.toList.drop a) with ⟨hp, t, ht, hu⟩ | ⟨hp, hu⟩
  · rw [hp] at hP
    have hl := drop_len ht
    simp only [List.length_cons] at hl
    have ht2 : s.data.toList.drop (a + 2) = t := by rw [← List.drop_drop, ht]; rfl
    have hX := fun w => hexr_any s (a + 2) w hs' (o := o) (by rw [ht2, ← hu]; exact ho)
    have hc : ((a + 2 : Nat) : Int) = (a : Int) + 2 := by omega
    rw [hc] at hX
    clear ho hp ht hu ht2 hs'
    cases o with
    | none =>
      simp only [unitV] at hX ⊢
      go_enter Tryd.func97, Tryd.ntmps97
      go_wp2_with (first
        | (go_at_call 52; refine (hP _).mono ?_; rintro e w' ⟨rfl, rfl⟩)
        | (go_at_call 111; refine (hX _).mono ?_; rintro e w' ⟨rfl, rfl⟩))
      go_ret2
      exact ⟨rfl, rfl⟩
    | some v =>
      simp only [unitV] at hX ⊢
      go_enter Tryd.func97, Tryd.ntmps97
      go_wp2_with (first
        | (go_at_call 52; refine (hP _).mono ?_; rintro e w' ⟨rfl, rfl⟩)
        | (go_at_call 111; refine (hX _).mono ?_; rintro e w' ⟨rfl, rfl⟩))
      go_ret2
      exact ⟨rfl, rfl⟩
  · rw [hp] at hP
    rw [hu] at ho
    subst ho
    clear hp hu hs'
    simp only [unitV]
    go_enter Tryd.func97, Tryd.ntmps97
    go_wp2_with (go_at_call 52; refine (hP _).mono ?_; rintro e w' ⟨rfl, rfl⟩)
    go_ret2
    exact ⟨rfl, rfl⟩

/-! ### quote.coded -/
def codedV : Option (Int × Nat) → Value
  | some p => .tuple #[.int .i64 p.1, .int .i64 p.2, .bool true]
  | none => .tuple #[.int .i64 0, .int .i64 0, .bool false]

theorem unit_len {l : List UInt8} {v : Nat} (h : unitL l = some v) : 6 ≤ l.length ∧ v < 65536 := by
  obtain ⟨a, b, c, d, t, rfl, h4⟩ := unitL_some h
  exact ⟨by simp, hex4_lt h4⟩

set_option maxHeartbeats 1000000 in
theorem coded_any (s : ByteArray) (a : Nat) (w : World) (hs : s.size ≤ maxLen) (ha : a ≤ s.size) {o : Option (Int × Nat)} (ho : codedL (s.data.toList.drop a) = o) :
    Calls Tryd.prog 82 #[.string s, .int .i64 a] w fun e w' => e = .returned (codedV o) ∧ w = w' := by
  have hs' := hs
  unfold maxLen at hs
  unfold codedL at ho
  cases h1 : unitL (s.data.toList.drop a) with
  | none =>
    rw [h1] at ho
    subst ho
    have hU := fun w => unit_any s a w hs' ha h1
    simp only [unitV] at hU
    simp only [codedV]
    clear h1 hs'
    go_enter Tryd.func82, Tryd.ntmps82
    go_wp2_with (go_at_call 97; refine (hU _).mono ?_; rintro e w' ⟨rfl, rfl⟩)
    go_ret3
    exact ⟨rfl, rfl⟩
  | some v =>
    rw [h1] at ho
    simp only [] at ho
    have hU := fun w => unit_any s a w hs' ha h1
    simp only [unitV] at hU
    obtain ⟨hlen, hv⟩ := unit_len h1
    rw [List.length_drop, size_list] at hlen
    by_cases hp : v < 55296 ∨ 57343 < v
    · rw [if_pos hp] at ho
      subst ho
      simp only [codedV]
      have hE := fun w => encode_yes v w (by unfold isPt; omega)
      clear hp h1 hs'
      generalize strOfNums (encZ v) = t at *
      go_enter Tryd.func82, Tryd.ntmps82
      go_wp2_with (first
        | (go_at_call 97; refine (hU _).mono ?_; rintro e w' ⟨rfl, rfl⟩)
        | (go_at_call 98; refine (hE _).mono ?_; rintro e w' ⟨rfl, rfl⟩))
      go_ret3
      exact ⟨rfl, rfl⟩
    · rw [if_neg hp, List.drop_drop] at ho
      have hE := fun w => encode_no v w (by unfold isPt; omega)
      have h55 : 55296 ≤ v := by omega
      have hc : ((a + 6 : Nat) : Int) = (a : Int) + 6 := by omega
      cases h2 : unitL (s.data.toList.drop (a + 6)) with
      | none =>
        rw [h2] at ho
        subst ho
        have hU2 := fun w => unit_any s (a + 6) w hs' (by omega) h2
        simp only [unitV] at hU2
        rw [hc] at hU2
        simp only [codedV]
        clear h1 h2 hp hs'
        go_enter Tryd.func82, Tryd.ntmps82
        go_wp2_with fail
        refine (hU _).mono ?_
        rintro e w' ⟨rfl, rfl⟩
        clear hU
        go_wp2_with (first
          | (go_at_call 97; refine (hU2 _).mono ?_; rintro e w' ⟨rfl, rfl⟩)
          | (go_at_call 98; refine (hE _).mono ?_; rintro e w' ⟨rfl, rfl⟩))
        go_ret3
        exact ⟨rfl, rfl⟩
      | some u =>
        rw [h2] at ho
        simp only [] at ho
        have hU2 := fun w => unit_any s (a + 6) w hs' (by omega) h2
        simp only [unitV] at hU2
        rw [hc] at hU2
        obtain ⟨_, hu⟩ := unit_len h2
        by_cases hj : v < 56320 ∧ 56320 ≤ u ∧ u ≤ 57343
        · rw [if_pos hj] at ho
          subst ho
          simp only [codedV, joinZ]
          obtain ⟨j1, j2, j3⟩ := hj
          have hJ := fun w => join_yes v u w (by omega) (by omega) (by omega) (by omega)
          clear h1 h2 hp hs'
          go_enter Tryd.func82, Tryd.ntmps82
          go_wp2_with fail
          refine (hU _).mono ?_
          rintro e w' ⟨rfl, rfl⟩
          clear hU
          go_wp2_with (first
            | (go_at_call 97; refine (hU2 _).mono ?_; rintro e w' ⟨rfl, rfl⟩)
            | (go_at_call 99; refine (hJ _).mono ?_; rintro e w' ⟨rfl, rfl⟩)
            | (go_at_call 98; refine (hE _).mono ?_; rintro e w' ⟨rfl, rfl⟩))
          go_ret3
          exact ⟨rfl, rfl⟩
        · rw [if_neg hj] at ho
          subst ho
          simp only [codedV]
          have hJ := fun w => join_no v u w (by omega)
          clear h1 h2 hp hs' hj
          go_enter Tryd.func82, Tryd.ntmps82
          go_wp2_with fail
          refine (hU _).mono ?_
          rintro e w' ⟨rfl, rfl⟩
          clear hU
          go_wp2_with (first
            | (go_at_call 97; refine (hU2 _).mono ?_; rintro e w' ⟨rfl, rfl⟩)
            | (go_at_call 99; refine (hJ _).mono ?_; rintro e w' ⟨rfl, rfl⟩)
            | (go_at_call 98; refine (hE _).mono ?_; rintro e w' ⟨rfl, rfl⟩))
          go_ret3
          exact ⟨rfl, rfl⟩

end Go.Proofs.YtlaagdpanbineaaDoor

/- quote.escaped: what each call returns. -/
namespace Go.Proofs.YtlaagdpanbineaaDoor
open Go.RowKit

def pieceV : Option (List UInt8 × Nat) → Value
  | some p => .tuple #[.string ⟨p.1.toArray⟩, .int .i64 p.2, .bool true]
  | none => .tuple #[.string ⟨#[]⟩, .int .i64 0, .bool false]

theorem enc_small (x : Nat) (h : x < 128) : Utf8.encode (x : Int) = ⟨[UInt8.ofNat x].toArray⟩ := by
  rw [enc_eq x (by unfold isPt; omega), encB_ba, encB_one (by omega)]
  simp
theorem enc_pt {r : Int} (h : isPt r) : Utf8.encode r = ⟨(encB r).toArray⟩ := by rw [enc_eq r h, encB_ba]

theorem coded_pt {l : List UInt8} {r : Int} {n : Nat} (h : codedL l = some (r, n)) : isPt r ∧ 0 ≤ r ∧ r ≤ 1114111 := by
  have : isPt r := by
    unfold codedL at h
    split at h
    · simp at h
    · rename_i v hv
      have := (unit_len hv).2
      split at h
      · simp only [Option.some.injEq, Prod.mk.injEq] at h
        rw [← h.1]; unfold isPt; omega
      · split at h
        · simp at h
        · split at h
          · rename_i hj
            simp only [Option.some.injEq, Prod.mk.injEq] at h
            rw [← h.1]
            exact (joinZ_pt (by omega) hj.1 hj.2.1 hj.2.2).1
          · simp at h
  unfold isPt at this ⊢
  omega

theorem drop_two {s : ByteArray} {a : Nat} (h : a + 1 < s.size) : ∃ c0 c t, s.data.toList.drop a = c0 :: c :: t ∧ byteAt s a = c0.toNat ∧ byteAt s (a + 1) = c.toNat := by
  have hl := drop_len (s := s) (a := a) rfl
  rcases hd : s.data.toList.drop a with _ | ⟨c0, _ | ⟨c, t⟩⟩
  · rw [hd] at hl; simp at hl; omega
  · rw [hd] at hl; simp at hl; omega
  · exact ⟨c0, c, t, rfl, bAt_head (k := 0) hd rfl, bAt_head (k := 1) hd rfl⟩

set_option maxHeartbeats 1000000 in
theorem escaped_any (s : ByteArray) (a : Nat) (w : World) (hs : s.size ≤ maxLen) (ha : a < s.size) {o : Option (List UInt8 × Nat)} (ho : escL (s.data.toList.drop a) = o) :
    Calls Tryd.prog 71 #[.string s, .int .i64 a] w fun e w' => e = .returned (pieceV o) ∧ w = w' := by
  have hs' := hs
  unfold maxLen at hs
  by_cases h1 : a + 1 = s.size
  · have hn : escL (s.data.toList.drop a) = none := by
      have hl := drop_len (s := s) (a := a) rfl
      rcases hd : s.data.toList.drop a with _ | ⟨c0, _ | ⟨c, t⟩⟩
      · rfl
      · rfl
      · rw [hd] at hl; simp at hl; omega
    rw [hn] at ho
    subst ho
    simp only [pieceV]
    have q : ((a : Int) + 1 == (s.size : Int)) = true := by simp; omega
    clear hn hs'
    go_enter Tryd.func71, Tryd.ntmps71
    go_wp2
    go_ret3
    exact ⟨rfl, rfl⟩
  · have h2 : a + 1 < s.size := by omega
    have q : ((a : Int) + 1 == (s.size : Int)) = false := by simp; omega
    obtain ⟨c0, c, t, hd, _, hc⟩ := drop_two h2
    have hby : s[a + 1].toNat = c.toNat := by rw [byteAt_in h2, hc]
    have hX : escL (s.data.toList.drop a) = match letterB c.toNat with
        | some x => some ([UInt8.ofNat x], 2)
        | none => (codedL (s.data.toList.drop a)).map fun p => (encB p.1, p.2) := by rw [hd]; rfl
    rw [hX] at ho
    have hL := fun w => letter_any c.toNat w rfl
    have hC := fun w => coded_any s a w hs' (by omega) rfl
    rw [← hby] at hL ho
    clear hX hd hc hby hs'
    cases hl : letterB s[a + 1].toNat with
    | some x =>
      rw [hl] at ho hL
      subst ho
      have hx := letter_lt hl
      have hE := enc_small x hx
      have hb1 : 0 ≤ (x : Int) := by omega
      have hb2 : (x : Int) ≤ 1114111 := by omega
      simp only [pieceV, letterV] at hL ⊢
      rw [← hE]
      clear hl hC hE
      go_enter Tryd.func71, Tryd.ntmps71
      go_wp2_with fail
      refine (hL _).mono ?_
      rintro e w' ⟨rfl, rfl⟩
      clear hL
      go_wp2
      go_ret3
      exact ⟨rfl, rfl⟩
    | none =>
      rw [hl] at ho hL
      simp only [] at ho
      simp only [letterV] at hL
      clear hl
      cases hcd : codedL (s.data.toList.drop a) with
      | none =>
        rw [hcd] at ho hC
        subst ho
        simp only [codedV, Option.map_none, pieceV] at hC ⊢
        clear hcd
        go_enter Tryd.func71, Tryd.ntmps71
        go_wp2_with fail
        refine (hL _).mono ?_
        rintro e w' ⟨rfl, rfl⟩
        clear hL
        go_wp2_with fail
        refine (hC _).mono ?_
        rintro e w' ⟨rfl, rfl⟩
        clear hC
        go_wp2
        go_ret3
        exact ⟨rfl, rfl⟩
      | some p =>
        obtain ⟨r, n⟩ := p
        obtain ⟨hpt, hb1, hb2⟩ := coded_pt hcd
        rw [hcd] at ho hC
        subst ho
        simp only [codedV, Option.map_some, pieceV] at hC ⊢
        rw [← enc_pt hpt]
        clear hcd hpt
        go_enter Tryd.func71, Tryd.ntmps71
        go_wp2_with fail
        refine (hL _).mono ?_
        rintro e w' ⟨rfl, rfl⟩
        clear hL
        go_wp2_with fail
        refine (hC _).mono ?_
        rintro e w' ⟨rfl, rfl⟩
        clear hC
        go_wp2
        go_ret3
        exact ⟨rfl, rfl⟩

end Go.Proofs.YtlaagdpanbineaaDoor

/- A string's pieces at a place of a text; the way through a string: plain mathematics. -/
namespace Go.Proofs.YtlaagdpanbineaaDoor
open Go.RowKit

theorem drop_one {s : ByteArray} {a : Nat} (h : a < s.size) : ∃ c t, s.data.toList.drop a = c :: t ∧ byteAt s a = c.toNat ∧ t = s.data.toList.drop (a + 1) := by
  have hl := drop_len (s := s) (a := a) rfl
  rcases hd : s.data.toList.drop a with _ | ⟨c, t⟩
  · rw [hd] at hl; simp at hl; omega
  · exact ⟨c, t, rfl, bAt_head (k := 0) hd rfl, by rw [← List.drop_drop, hd]; rfl⟩

theorem unitL_at (s : ByteArray) (a : Nat) : unitL (s.data.toList.drop a) = if a + 1 < s.size ∧ byteAt s a = 92 ∧ byteAt s (a + 1) = 117 then hexL (s.data.toList.drop (a + 2)) else none := by
  have hl := drop_len (s := s) (a := a) rfl
  rcases hd : s.data.toList.drop a with _ | ⟨c0, _ | ⟨c, t⟩⟩
  · rw [hd] at hl; simp at hl; rw [if_neg (by omega)]; rfl
  · rw [hd] at hl; simp at hl; rw [if_neg (by omega)]; rfl
  · rw [hd] at hl
    simp only [List.length_cons] at hl
    have e0 : byteAt s a = c0.toNat := bAt_head (k := 0) hd rfl
    have e1 : byteAt s (a + 1) = c.toNat := bAt_head (k := 1) hd rfl
    have e2 : s.data.toList.drop (a + 2) = t := by rw [← List.drop_drop, hd]; rfl
    rw [e0, e1, e2]
    show (if c0.toNat = 92 ∧ c.toNat = 117 then hexL t else none) = _
    by_cases h : c0.toNat = 92 ∧ c.toNat = 117
    · rw [if_pos h, if_pos ⟨by omega, h⟩]
    · rw [if_neg h, if_neg (fun x => h x.2)]

theorem piece_end {s : ByteArray} {a : Nat} (h : a + 1 = s.size) (h92 : byteAt s a = 92) : pieceL (s.data.toList.drop a) = none := by
  have hl := drop_len (s := s) (a := a) rfl
  rcases hd : s.data.toList.drop a with _ | ⟨c0, _ | ⟨c, t⟩⟩
  · rfl
  · have e0 : byteAt s a = c0.toNat := bAt_head (k := 0) hd rfl
    unfold pieceL
    simp only []
    rw [if_pos (by omega)]
    rfl
  · rw [hd] at hl; simp at hl; omega
theorem piece_esc {s : ByteArray} {a : Nat} (h : a + 1 < s.size) (h92 : byteAt s a = 92) :
    pieceL (s.data.toList.drop a) = match letterB (byteAt s (a + 1)) with
      | some x => some ([UInt8.ofNat x], 2)
      | none => (codedL (s.data.toList.drop a)).map fun p => (encB p.1, p.2) := by
  have hl := drop_len (s := s) (a := a) rfl
  rcases hd : s.data.toList.drop a with _ | ⟨c0, _ | ⟨c, t⟩⟩
  · rw [hd] at hl; simp at hl; omega
  · rw [hd] at hl; simp at hl; omega
  · have e0 : byteAt s a = c0.toNat := bAt_head (k := 0) hd rfl
    have e1 : byteAt s (a + 1) = c.toNat := bAt_head (k := 1) hd rfl
    rw [e1]
    unfold pieceL
    simp only []
    rw [if_pos (by omega)]
    rfl
theorem piece_plain {s : ByteArray} {a : Nat} (h : a < s.size) (h92 : byteAt s a ≠ 92) :
    pieceL (s.data.toList.drop a) = if (codeD s a).2 = 0 ∨ (codeD s a).1 < 32 then none else some ((s.data.toList.drop a).take (codeD s a).2, (codeD s a).2) := by
  rw [codeD_drop]
  obtain ⟨c, t, hd, e0, _⟩ := drop_one h
  rw [hd]
  unfold pieceL
  simp only []
  rw [if_neg (by omega)]
theorem coded_not {s : ByteArray} {a : Nat} (h : byteAt s (a + 1) ≠ 117) : codedL (s.data.toList.drop a) = none := by
  unfold codedL
  rw [unitL_at, if_neg (fun x => h x.2.2)]

/-! ### the way through a string -/
structure Tk (s : ByteArray) (a i f : Nat) (acc : List UInt8) : Prop where
  eq : takeL (s.data.toList.drop a) = (walkL f (s.data.toList.drop i)).map fun p => (acc ++ p.1, (i - a) + p.2)
  fuel : s.size + 1 ≤ i + f
  pos : a < i

theorem Tk.start {s : ByteArray} {a : Nat} (h : a < s.size) (h34 : byteAt s a = 34) : Tk s a (a + 1) (s.size - a) [] := by
  obtain ⟨c, t, hd, e0, ht⟩ := drop_one h
  have hl := drop_len hd
  simp only [List.length_cons] at hl
  refine ⟨?_, by omega, by omega⟩
  rw [hd]
  unfold takeL
  simp only []
  rw [if_pos (by omega), ht]
  rw [ht] at hl
  rw [hl]
  cases walkL (s.size - a) (s.data.toList.drop (a + 1)) with
  | none => rfl
  | some p =>
    have e1 : a + 1 - a = 1 := by omega
    simp [e1]
    omega
theorem Tk.succ {s : ByteArray} {a i f : Nat} {acc : List UInt8} (h : Tk s a i f acc) (hi : i < s.size) : ∃ g, f = g + 1 := ⟨f - 1, by have := h.fuel; omega⟩
theorem Tk.out {s : ByteArray} {a i f : Nat} {acc : List UInt8} (h : Tk s a i f acc) (hi : ¬ i < s.size) : takeL (s.data.toList.drop a) = none := by
  have hd : s.data.toList.drop i = [] := by rw [List.drop_eq_nil_iff, size_list]; omega
  rw [h.eq, hd]
  cases f <;> rfl
theorem Tk.mark {s : ByteArray} {a i f : Nat} {acc : List UInt8} (h : Tk s a i f acc) (hi : i < s.size) (h34 : byteAt s i = 34) : takeL (s.data.toList.drop a) = some (acc, i + 1 - a) := by
  obtain ⟨g, rfl⟩ := h.succ hi
  obtain ⟨c, t, hd, e0, _⟩ := drop_one hi
  have := h.pos
  rw [h.eq, hd]
  unfold walkL
  simp only []
  rw [if_pos (by omega)]
  simp
  omega
theorem Tk.bad {s : ByteArray} {a i f : Nat} {acc : List UInt8} (h : Tk s a i f acc) (hi : i < s.size) (h34 : byteAt s i ≠ 34) (hp : pieceL (s.data.toList.drop i) = none) : takeL (s.data.toList.drop a) = none := by
  obtain ⟨g, rfl⟩ := h.succ hi
  obtain ⟨c, t, hd, e0, _⟩ := drop_one hi
  rw [hd] at hp
  rw [h.eq, hd]
  unfold walkL
  simp only []
  rw [if_neg (by omega), hp]
  rfl
theorem piece_size {s : ByteArray} {i n : Nat} {x : List UInt8} (hi : i < s.size) (h34 : byteAt s i ≠ 34) (hp : pieceL (s.data.toList.drop i) = some (x, n)) : 1 ≤ n ∧ i + n ≤ s.size ∧ x.length ≤ n := by
  have hl := drop_len (s := s) (a := i) rfl
  obtain ⟨p, t, r, hl2, hP, rfl, rfl⟩ := piece_of hp (fun c t e => by rw [← bAt_head (k := 0) e rfl]; exact h34)
  rw [hl2, List.length_append] at hl
  exact ⟨hP.pos, by omega, hP.le⟩
theorem Tk.step {s : ByteArray} {a i f : Nat} {acc : List UInt8} (h : Tk s a i f acc) (hi : i < s.size) (h34 : byteAt s i ≠ 34) {x : List UInt8} {n : Nat} (hp : pieceL (s.data.toList.drop i) = some (x, n)) :
    Tk s a (i + n) (f - 1) (acc ++ x) := by
  obtain ⟨g, rfl⟩ := h.succ hi
  have hn := (piece_size hi h34 hp).1
  obtain ⟨c, t, hd, e0, _⟩ := drop_one hi
  have hf := h.fuel
  have hpos := h.pos
  refine ⟨?_, by omega, by omega⟩
  rw [h.eq, ← List.drop_drop]
  rw [hd] at hp ⊢
  show (walkL (g + 1) (c :: t)).map _ = _
  rw [show walkL (g + 1) (c :: t) = (walkL g ((c :: t).drop n)).map fun p => (x ++ p.1, n + p.2) by
    conv => lhs; unfold walkL
    simp only []
    rw [if_neg (by omega), hp]]
  rw [Nat.add_sub_cancel]
  cases walkL g ((c :: t).drop n) with
  | none => rfl
  | some p =>
    simp only [Option.map_some, List.append_assoc, Option.some.injEq, Prod.mk.injEq, true_and]
    omega

/-- a text with more behind -/
theorem app_list (s t : ByteArray) : (s ++ t).data.toList = s.data.toList ++ t.data.toList := by rw [ByteArray.data_append, Array.toList_append]
theorem cut_list (s : ByteArray) (a n : Nat) : (s.extract a (a + n)).data.toList = (s.data.toList.drop a).take n := by
  rw [Lib.extract_data]
  congr 1
  omega

/-- a place of a text -/
def restQ (l : List UInt8) (x : Int) : List UInt8 := if 0 ≤ x then l.drop x.toNat else []
theorem restQ_in (l : List UInt8) (a : Nat) : restQ l a = l.drop a := by unfold restQ; rw [if_pos (by omega)]; rfl
theorem restQ_out {s : ByteArray} {x : Int} (h : x < 0 ∨ s.size ≤ x) : restQ s.data.toList x = [] := by
  unfold restQ
  split
  · rw [List.drop_eq_nil_iff, size_list]; omega
  · rfl
theorem takeL_not {s : ByteArray} {a : Nat} (h : a < s.size) (h34 : byteAt s a ≠ 34) : takeL (s.data.toList.drop a) = none := by
  obtain ⟨c, t, hd, e0, _⟩ := drop_one h
  rw [hd]
  unfold takeL
  simp only []
  rw [if_neg (by omega)]

end Go.Proofs.YtlaagdpanbineaaDoor

/- quote.piece: what each call returns. -/
namespace Go.Proofs.YtlaagdpanbineaaDoor
open Go.RowKit

theorem dec_none (s : ByteArray) (a : Nat) (w : World) (hT : Lib.Utf8Tabs 15 16 w) (hs : s.size ≤ maxLen) (ha : a < s.size) (h : (codeD s a).2 = 0) :
    Calls Tryd.prog 72 #[.string s, .int .i64 a] w fun e w' => e = .returned (.tuple #[.int .i64 0, .int .i64 0, .bool false]) ∧ Below w.heap.size w w' :=
  dec_bad s a w hT hs ha (codeD_zero.2 h)
theorem dec_some (s : ByteArray) (a : Nat) (w : World) (hT : Lib.Utf8Tabs 15 16 w) (hs : s.size ≤ maxLen) (ha : a < s.size) (h : (codeD s a).2 ≠ 0) :
    Calls Tryd.prog 72 #[.string s, .int .i64 a] w fun e w' => e = .returned (.tuple #[.int .i64 (codeD s a).1, .int .i64 (codeD s a).2, .bool true]) ∧ Below w.heap.size w w' := by
  have := dec_good s a w hT hs ha (fun x => h (codeD_zero.1 x))
  rw [codeD_eq h]
  exact this

theorem code_fits {s : ByteArray} {a : Nat} (ha : a < s.size) (h : (codeD s a).2 ≠ 0) : a + (codeD s a).2 ≤ s.size := by
  rw [codeD_drop] at h ⊢
  have hl := drop_len (s := s) (a := a) rfl
  have hne : s.data.toList.drop a ≠ [] := by intro e; rw [e] at hl; simp at hl; omega
  obtain ⟨_, h2, h3⟩ := plain_some hne (r := (plainL (s.data.toList.drop a)).1) (n := (plainL (s.data.toList.drop a)).2) rfl h
  have := congrArg List.length h2
  rw [List.length_append, ← h3, List.length_drop, List.length_drop, size_list] at this
  omega

set_option maxHeartbeats 1000000 in
theorem piece_any (s : ByteArray) (a : Nat) (w : World) (hT : Lib.Utf8Tabs 15 16 w) (hs : s.size ≤ maxLen) (ha : a < s.size) {o : Option (List UInt8 × Nat)} (ho : pieceL (s.data.toList.drop a) = o) :
    Calls Tryd.prog 62 #[.string s, .int .i64 a] w fun e w' => e = .returned (pieceV o) ∧ Below w.heap.size w w' := by
  have hs' := hs
  unfold maxLen at hs
  have hby := byteAt_in ha
  by_cases h92 : byteAt s a = 92
  · have hE := fun w => escaped_any s a w hs' ha rfl
    have e : pieceL (s.data.toList.drop a) = escL (s.data.toList.drop a) := by
      obtain ⟨c, t, hd, e0, _⟩ := drop_one ha
      rw [hd]
      unfold pieceL
      simp only []
      rw [if_pos (by omega)]
    rw [e] at ho
    rw [ho] at hE
    have q : ((s[a].toNat : Int) == 92) = true := by rw [hby, h92]; rfl
    clear e ho h92 hby hT hs'
    cases o with
    | none =>
      simp only [pieceV] at hE ⊢
      go_enter Tryd.func62, Tryd.ntmps62
      go_wp2_with (go_at_call 71; refine (hE _).mono ?_; rintro e w' ⟨rfl, rfl⟩)
      go_ret3
      exact ⟨rfl, Below.refl _ _⟩
    | some p =>
      simp only [pieceV] at hE ⊢
      go_enter Tryd.func62, Tryd.ntmps62
      go_wp2_with (go_at_call 71; refine (hE _).mono ?_; rintro e w' ⟨rfl, rfl⟩)
      go_ret3
      exact ⟨rfl, Below.refl _ _⟩
  · have q : ((s[a].toNat : Int) == 92) = false := by rw [hby]; simp; omega
    rw [piece_plain ha h92] at ho
    by_cases hn : (codeD s a).2 = 0
    · rw [if_pos (.inl hn)] at ho
      subst ho
      have hD := dec_none s a w hT hs' ha hn
      simp only [pieceV]
      clear hn h92 hby hT hs'
      go_enter Tryd.func62, Tryd.ntmps62
      go_wp2_with (go_at_call 72; refine hD.mono ?_; rintro e w' ⟨rfl, hb⟩)
      go_ret3
      exact ⟨rfl, hb⟩
    · have hD := dec_some s a w hT hs' ha hn
      have hf := code_fits ha hn
      have hbd := decode_bd s a
      rw [← codeD_eq hn] at hbd
      obtain ⟨b1, b2, b3⟩ := hbd
      have hcut := cut_list s a (codeD s a).2
      by_cases hr : (codeD s a).1 < 32
      · rw [if_pos (.inr hr)] at ho
        subst ho
        simp only [pieceV]
        clear hcut h92 hby hT hs' hn
        generalize (codeD s a).1 = r at *
        generalize (codeD s a).2 = n at *
        go_enter Tryd.func62, Tryd.ntmps62
        go_wp2_with (go_at_call 72; refine hD.mono ?_; rintro e w' ⟨rfl, hb⟩)
        go_ret3
        exact ⟨rfl, hb⟩
      · rw [if_neg (by omega)] at ho
        subst ho
        simp only [pieceV]
        have hX : (⟨((s.data.toList.drop a).take (codeD s a).2).toArray⟩ : ByteArray) = s.extract a (a + (codeD s a).2) := ba_eq (by rw [hcut])
        rw [hX]
        clear hX hcut h92 hby hT hs' hn
        generalize (codeD s a).1 = r at *
        generalize (codeD s a).2 = n at *
        go_enter Tryd.func62, Tryd.ntmps62
        go_wp2_with (go_at_call 72; refine hD.mono ?_; rintro e w' ⟨rfl, hb⟩)
        go_ret3
        exact ⟨rfl, hb⟩

end Go.Proofs.YtlaagdpanbineaaDoor

