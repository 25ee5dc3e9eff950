/- The contract of the document's Decode: the first size whose bytes are a code point's. -/
import Derived.Test.YtnlpdpbmmpeiaaaDoorWalks
import Derived.Lib.Hide
namespace Go.Proofs.YtnlpdpbmmpeiaaaDoor
open Go.RowKit

theorem ret_int2 {a b c d : Int} (h : a = c) (k : b = d) : Ending.returned (.tuple #[.int .i64 a, .int .i64 b]) = .returned (.tuple #[.int .i64 c, .int .i64 d]) := by rw [h, k]

def DecPost (s : ByteArray) (a : Nat) (e : Ending) : Prop := ∃ r : Nat × Nat, RefIs s a r ∧ e = .returned (.tuple #[.int .i64 r.1, .int .i64 r.2])

theorem DecPost.yes {s : ByteArray} {a k : Nat} (h1 : 1 ≤ k) (h4 : k ≤ 4) (hk : a + k ≤ s.size) (ho : okK s a k) :
    DecPost s a (.returned (.tuple #[.int .i64 (cand s a k), .int .i64 k])) := ⟨(cand s a k, k), .inl ⟨k, h1, h4, hk, ho, rfl⟩, rfl⟩
theorem DecPost.no {s : ByteArray} {a : Nat} (h : ∀ k, 1 ≤ k → k ≤ 4 → a + k ≤ s.size → ¬ okK s a k) :
    DecPost s a (.returned (.tuple #[.int .i64 0, .int .i64 0])) := ⟨(0, 0), .inr ⟨h, rfl⟩, rfl⟩

def NoBelow (s : ByteArray) (a k : Nat) : Prop := ∀ j, 1 ≤ j → j < k → ¬ okK s a j
theorem NoBelow.step {s : ByteArray} {a k : Nat} (h : NoBelow s a k) (hk : ¬ okK s a k) : NoBelow s a (k + 1) := fun j h1 h2 => by
  by_cases e : j = k
  · rw [e]; exact hk
  · exact h j h1 (by omega)

theorem encZ_len (r : Int) : 1 ≤ (encZ r).length := by
  unfold encZ
  repeat' split
  all_goals simp
theorem enc_ne (r : Int) : ¬ (strOfNums (encZ r)).toList = [] := by
  intro h
  have h1 := encZ_len r
  have h2 := congrArg List.length h
  rw [ByteArray.toList_eq] at h2
  simp [strOfNums] at h2
  rw [h2] at h1
  simp at h1
theorem enc_ne2 (r : Int) : (strOfNums (encZ r)).toList.isEmpty = false := by
  have := enc_ne r
  cases h : (strOfNums (encZ r)).toList with
  | nil => exact absurd h this
  | cons _ _ => rfl
theorem toList_inj {s t : ByteArray} (h : s.toList = t.toList) : s = t := by
  rw [ByteArray.toList_eq, ByteArray.toList_eq] at h
  exact ByteArray.ext (Array.toList_inj.1 h)

























































































































































































































































































/-- the document's answer is one -/
theorem ref_ex (s : ByteArray) (a : Nat) (ha : a < s.size) (r : Nat × Nat) (h : RefIs s a r) : r = codeD s a := (code_ref s a ha r h).symm





end Go.Proofs.YtnlpdpbmmpeiaaaDoor
