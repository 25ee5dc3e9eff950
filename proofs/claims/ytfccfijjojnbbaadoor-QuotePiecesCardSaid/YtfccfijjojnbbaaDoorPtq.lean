/- What the document's Points answers: a slice that reads as the text's code points. -/
import Derived.Test.YtfccfijjojnbbaaDoorPts
import Derived.Test.YtfccfijjojnbbaaDoorRd
namespace Go.Proofs.YtfccfijjojnbbaaDoor
open Go.RowKit

def PtsYes (s : ByteArray) (e : Ending) (w' : World) : Prop := ∃ A c, e = .returned (.tuple #[.slice A (pts s).length c, .bool true]) ∧ Rd w' A (pts s).length (pts s)

theorem PtsPost.yes {s : ByteArray} {B : Nat} {e : Ending} {w' : World} (h : PtsPost s B e w') (hv : vld s s.size 0 = true) : PtsYes s e w' := by
  rcases h with ⟨_, v, rfl, ho⟩ | ⟨h, _⟩
  · obtain ⟨A, c, rfl, hr⟩ := Rd.of_own ho
    exact ⟨A, c, rfl, hr⟩
  · rw [hv] at h; cases h
theorem PtsPost.no {s : ByteArray} {B : Nat} {e : Ending} {w' : World} (h : PtsPost s B e w') (hv : vld s s.size 0 = false) : e = .returned (.tuple #[.slice none 0 0, .bool false]) := by
  rcases h with ⟨h, _⟩ | ⟨_, h⟩
  · rw [hv] at h; cases h
  · exact h

theorem ptsD_len (s : ByteArray) : ∀ f pos, (ptsD s f pos).length ≤ f := by
  intro f
  induction f with
  | zero => intro pos; simp [ptsD]
  | succ f ih =>
    intro pos
    rw [ptsD]
    split
    · simp [ih]
    · simp
theorem pts_len (s : ByteArray) (hs : s.size ≤ 2000) : (pts s).length ≤ maxLen := by
  have := ptsD_len s s.size 0
  unfold pts maxLen
  omega

theorem ref_points_yes (s : ByteArray) (w : World) (hs : s.size ≤ 2000) (hv : vld s s.size 0 = true) :
    Calls Tryd.prog 19 #[.string s] w fun e w' => (∃ A c, e = .returned (.tuple #[.slice A (pts s).length c, .bool true]) ∧ Rd w' A (pts s).length (pts s)) ∧ Below w.heap.size w w' :=
  (ref_points s w hs).mono fun _ _ ⟨h, hb⟩ => ⟨h.yes hv, hb⟩
theorem ref_points_no (s : ByteArray) (w : World) (hs : s.size ≤ 2000) (hv : vld s s.size 0 = false) :
    Calls Tryd.prog 19 #[.string s] w fun e w' => e = .returned (.tuple #[.slice none 0 0, .bool false]) ∧ Below w.heap.size w w' :=
  (ref_points s w hs).mono fun _ _ ⟨h, hb⟩ => ⟨h.no hv, hb⟩

end Go.Proofs.YtfccfijjojnbbaaDoor
