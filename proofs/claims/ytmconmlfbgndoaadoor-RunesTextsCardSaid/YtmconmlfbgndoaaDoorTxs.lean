/- What RunesTexts wants of its callees: the conditions of its row; the copy; the text. -/
import Derived.Test.YtmconmlfbgndoaaDoorPen
import Derived.Test.YtmconmlfbgndoaaDoorBase
namespace Go.Proofs.YtmconmlfbgndoaaDoor
open Go.RowKit

theorem conds_of_row {W : World} (h : laidMetH Tryd.prog Rows.runesTextsRow.laid W) : Lib.Utf8Tabs 13 14 W ∧ ∃ A, Errs W A := by
  rw [MakeChecks.laidMetH_plain _ _ _ (by kernel_rfl)] at h
  exact ⟨tabs_of _ h (by simp [Rows.runesTextsRow]) (by simp [Rows.runesTextsRow]), errs_of h⟩

theorem ints_copy (A : Option Addr) (n c : Nat) (l : List Int) (w : World) (h : Src w A n c l) (hn : n ≤ 500) :
    Calls Tryd.prog 17 #[.slice A n c] w fun e w' => ∃ g, e = .returned (.slice (some ⟨g, 0, none⟩) n (n + 4)) ∧ Copy w' g n l ∧ Below w.heap.size w w' :=
  (ints_any A n c l w h hn).mono fun _ _ ⟨g, he, ho, hb⟩ => ⟨g, he, Copy.of_own h.len ho, hb⟩

theorem text_yes (A : Nat → Addr) (g n : Nat) (l : List Int) (w : World) (hE : Errs w A) (h : Copy w g n l) (hn : n ≤ 500) (ha : allPt l) :
    Calls Tryd.prog 18 #[.slice (some ⟨g, 0, none⟩) n (n + 4)] w fun e w' => e = .returned (.tuple #[.string (strOfNums (encL l)), .nilIface]) ∧ Below w.heap.size w w' :=
  (text_any A g n l w hE h hn).mono fun _ _ ⟨ht, hb⟩ => ⟨by
    rcases ht with ⟨_, he⟩ | ⟨hna, _⟩
    · exact he
    · exact absurd ha hna, hb⟩
theorem text_no (A : Nat → Addr) (g n : Nat) (l : List Int) (w : World) (hE : Errs w A) (h : Copy w g n l) (hn : n ≤ 500) (ha : ¬ allPt l) :
    Calls Tryd.prog 18 #[.slice (some ⟨g, 0, none⟩) n (n + 4)] w fun e w' => e = .returned (.tuple #[.string ⟨#[]⟩, .iface 75 (.pointer (some (A 0)))]) ∧ Below w.heap.size w w' :=
  (text_any A g n l w hE h hn).mono fun _ _ ⟨ht, hb⟩ => ⟨by
    rcases ht with ⟨hna, _⟩ | ⟨_, he⟩
    · exact absurd hna ha
    · exact he, hb⟩

theorem num_range (A : Nat → Addr) (w : World) (hE : Errs w A) :
    Calls Tryd.prog 19 #[.iface 75 (.pointer (some (A 0)))] w fun e w' => e = .returned (.int .i64 10) ∧ Below w.heap.size w w' := num_any A w hE 9 (by omega)

theorem points_of (l : List Int) (n : Nat) (w : World) (hl : l.length = n) (hn : n ≤ 500) (hT : Lib.Utf8Tabs 13 14 w) (ha : allPt l) :
    Calls Tryd.prog 13 #[.string (strOfNums (encL l))] w fun e w' => (∃ A c, e = .returned (.tuple #[.slice A n c, .bool true]) ∧ Rd w' A n l) ∧ Below w.heap.size w w' := by
  have hp := pts_enc l ha
  have hsz : (strOfNums (encL l)).size ≤ 2000 := by
    have := encL_len l
    rw [strOfNums_size]
    omega
  have h := points_yes (strOfNums (encL l)) w hsz hT hp.2
  rw [hp.1, hl] at h
  exact h

theorem enc_take (l : List Int) (k : Nat) (hk : k < l.length) : strOfNums (encL (l.take k)) ++ strOfNums (encZ (l.getD k 0)) = strOfNums (encL (l.take (k + 1))) := by
  rw [take_snoc l k hk, encL_snoc, strOfNums_append]
theorem allPt_step {l : List Int} {k : Nat} (hk : k < l.length) (h : allPt (l.take k)) (hr : isPt (l.getD k 0)) : allPt (l.take (k + 1)) := by
  rw [take_snoc l k hk]
  intro r hr'
  rcases List.mem_append.1 hr' with h1 | h1
  · exact h r h1
  · simp only [List.mem_singleton] at h1
    rw [h1]; exact hr
theorem allPt_at {l : List Int} {k : Nat} (hk : k < l.length) (h : allPt l) : isPt (l.getD k 0) := h _ (by simp [List.getD, hk])
theorem enc_take_size (l : List Int) (k : Nat) : (strOfNums (encL (l.take k))).size ≤ 4 * k := by
  have h1 := encL_len (l.take k)
  have h2 : (l.take k).length ≤ k := List.length_take_le _ _
  rw [strOfNums_size]
  omega
theorem enc_size (r : Int) : (strOfNums (encZ r)).size ≤ 4 := by rw [strOfNums_size]; exact encZ_le4 r

end Go.Proofs.YtmconmlfbgndoaaDoor
