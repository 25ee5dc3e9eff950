/- A text's code points, one behind the other: plain mathematics. -/
import Derived.Test.YtnlpdpbmmpeiaaaDoorCode
import Derived.Lib.ValidU
namespace Go.Proofs.YtnlpdpbmmpeiaaaDoor

def ptsD (s : ByteArray) : Nat → Nat → List Int
  | 0, _ => []
  | f + 1, pos => if pos < s.size then ((Utf8.decode s pos).1 : Int) :: ptsD s f (pos + (Utf8.decode s pos).2) else []

def vld (s : ByteArray) : Nat → Nat → Bool
  | 0, _ => true
  | f + 1, pos => if pos < s.size then (if (Utf8.decode s pos).1 = 65533 ∧ (Utf8.decode s pos).2 = 1 then false else vld s f (pos + (Utf8.decode s pos).2)) else true

theorem ptsD_end (s : ByteArray) (f pos : Nat) (h : ¬ pos < s.size) : ptsD s f pos = [] := by
  cases f with
  | zero => rfl
  | succ f => simp [ptsD, h]
theorem vld_end (s : ByteArray) (f pos : Nat) (h : ¬ pos < s.size) : vld s f pos = true := by
  cases f with
  | zero => rfl
  | succ f => simp [vld, h]

theorem byteAt_drop (s : ByteArray) (a i : Nat) : byteAt ⟨(s.data.toList.drop a).toArray⟩ i = byteAt s (a + i) := by
  have hsz : (⟨(s.data.toList.drop a).toArray⟩ : ByteArray).size = s.size - a := by
    show (s.data.toList.drop a).toArray.size = s.data.size - a
    rw [List.size_toArray, List.length_drop]; rfl
  unfold byteAt
  by_cases h : a + i < s.size
  · have h1 : i < (⟨(s.data.toList.drop a).toArray⟩ : ByteArray).size := by rw [hsz]; omega
    rw [dif_pos h1, dif_pos h]
    congr 1
    show (s.data.toList.drop a).toArray[i]'_ = s.data[a + i]'_
    simp
  · have h1 : ¬ i < (⟨(s.data.toList.drop a).toArray⟩ : ByteArray).size := by rw [hsz]; omega
    rw [dif_neg h1, dif_neg h]

theorem decodeL_at (s : ByteArray) (a : Nat) : Lib.decodeL (s.data.toList.drop a) = Utf8.decode s a := by
  unfold Lib.decodeL
  rw [Lib.decode_at, Lib.decode_at]
  simp only [byteAt_get, byteAt_drop, Nat.zero_add, Nat.add_zero, Nat.sub_zero]
  have : (⟨(s.data.toList.drop a).toArray⟩ : ByteArray).size = s.size - a := by
    show (s.data.toList.drop a).toArray.size = s.data.size - a
    rw [List.size_toArray, List.length_drop]; rfl
  rw [this]

theorem validGoD_at (s : ByteArray) : ∀ (f a : Nat), Lib.validGoD f (s.data.toList.drop a) = vld s f a := by
  intro f
  induction f with
  | zero => intro a; rfl
  | succ f ih =>
    intro a
    rw [Lib.validGoD, vld, decodeL_at, List.drop_drop, ih]
    have hl : s.data.toList.length = s.size := rfl
    by_cases h : a < s.size
    · rw [if_neg (by rw [List.drop_eq_nil_iff]; omega), if_pos h]
    · rw [if_pos (by rw [List.drop_eq_nil_iff]; omega), if_neg h]

theorem validD_eq (s : ByteArray) : Lib.validD s.data.toList = vld s s.size 0 := by
  unfold Lib.validD
  have := validGoD_at s s.data.toList.length 0
  rw [List.drop_zero] at this
  exact this

theorem codeD_zero {s : ByteArray} {a : Nat} : ((Utf8.decode s a).1 = 65533 ∧ (Utf8.decode s a).2 = 1) ↔ (codeD s a).2 = 0 := by
  have := decode_bd s a
  unfold codeD
  by_cases h : (Utf8.decode s a).1 = 65533 ∧ (Utf8.decode s a).2 = 1
  · rw [if_pos h]; simp [h]
  · rw [if_neg h]; constructor
    · intro h'; exact absurd h' h
    · intro h'; omega

theorem codeD_eq {s : ByteArray} {a : Nat} (h : ¬ (codeD s a).2 = 0) : codeD s a = Utf8.decode s a := by
  have h' : ¬ ((Utf8.decode s a).1 = 65533 ∧ (Utf8.decode s a).2 = 1) := fun x => h (codeD_zero.1 x)
  unfold codeD
  rw [if_neg h']

/-- one step of a way through a text: what has been read, and what is left, are the whole -/
structure Way (s : ByteArray) (f pos : Nat) (acc : List Int) : Prop where
  list : acc ++ ptsD s f pos = ptsD s s.size 0
  good : vld s f pos = vld s s.size 0
  fuel : s.size ≤ pos + f
  len : acc.length ≤ pos

theorem Way.start (s : ByteArray) : Way s s.size 0 [] := ⟨rfl, rfl, by omega, by simp⟩
theorem Way.step {s : ByteArray} {f pos : Nat} {acc : List Int} (h : Way s (f + 1) pos acc) (hp : pos < s.size) (hc : ¬ (codeD s pos).2 = 0) :
    Way s f (pos + (codeD s pos).2) (acc ++ [((codeD s pos).1 : Int)]) := by
  have hb := decode_bd s pos
  have he := codeD_eq hc
  have h' : ¬ ((Utf8.decode s pos).1 = 65533 ∧ (Utf8.decode s pos).2 = 1) := fun x => hc (codeD_zero.1 x)
  rw [he]
  obtain ⟨h1, h2, h3, h4⟩ := h
  refine ⟨?_, ?_, by omega, by simp; omega⟩
  · rw [← h1, ptsD, if_pos hp]; simp
  · rw [← h2, vld, if_pos hp, if_neg h']
/-- the same by the library's own step, whatever the bytes are -/
theorem Way.stepD {s : ByteArray} {f pos : Nat} {acc : List Int} (hv : vld s s.size 0 = true) (h : Way s (f + 1) pos acc) (hp : pos < s.size) :
    Way s f (pos + (Utf8.decode s pos).2) (acc ++ [((Utf8.decode s pos).1 : Int)]) := by
  have hc : ¬ (codeD s pos).2 = 0 := by
    intro h0
    have := h.good
    rw [vld, if_pos hp, if_pos (codeD_zero.2 h0), hv] at this
    cases this
  have := h.step hp hc
  rwa [codeD_eq hc] at this
theorem Way.bad {s : ByteArray} {f pos : Nat} {acc : List Int} (h : Way s f pos acc) (hp : pos < s.size) (hc : (codeD s pos).2 = 0) : vld s s.size 0 = false := by
  have h2 := h.good
  have h3 := h.fuel
  obtain ⟨g, rfl⟩ : ∃ g, f = g + 1 := ⟨f - 1, by omega⟩
  rw [← h2, vld, if_pos hp, if_pos (codeD_zero.2 hc)]
theorem Way.ends {s : ByteArray} {f pos : Nat} {acc : List Int} (h : Way s f pos acc) (hp : ¬ pos < s.size) : acc = ptsD s s.size 0 ∧ vld s s.size 0 = true := by
  obtain ⟨h1, h2, _, _⟩ := h
  rw [ptsD_end s f pos hp, List.append_nil] at h1
  rw [vld_end s f pos hp] at h2
  exact ⟨h1, h2.symm⟩

end Go.Proofs.YtnlpdpbmmpeiaaaDoor
