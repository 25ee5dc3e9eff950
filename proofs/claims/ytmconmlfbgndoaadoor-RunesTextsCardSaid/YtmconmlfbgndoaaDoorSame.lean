/- The contract of SameInts at two slices that read as one list. -/
import Derived.Test.YtmconmlfbgndoaaDoorRows
import Derived.WalkKit
import Derived.WalkSpells
import Derived.WalkLawsBesides
import Derived.Deep.QuietTactic
import Derived.BigQuiet
import Derived.Lib.Hide
namespace Go.Proofs.YtmconmlfbgndoaaDoor
open Go.RowKit

/-- the first n numbers of a slice -/
def Rd (w : World) (A : Option Addr) (n : Nat) (l : List Int) : Prop :=
  l.length = n ∧ (n = 0 ∨ ∃ b off, A = some ⟨b, off, none⟩ ∧ b < w.heap.size ∧ ∀ j, j < n → w.cell? ⟨b, off + j, none⟩ = some (.int .i64 (l.getD j 0)))

theorem Rd.drewN {w : World} {A : Option Addr} {n : Nat} {l : List Int} (h : Rd w A n l) (d : Nat) : Rd (w.drewN d) A n l := h

theorem Rd.below {w w' : World} {A : Option Addr} {n : Nat} {l : List Int} (h : Rd w A n l) (hb : Below w.heap.size w w') : Rd w' A n l := by
  refine ⟨h.1, ?_⟩
  rcases h.2 with h0 | ⟨b, off, hA, hlt, hc⟩
  · exact .inl h0
  · exact .inr ⟨b, off, hA, Nat.lt_of_lt_of_le hlt hb.size, fun j hj => (hb.cell (p := ⟨b, off + j, none⟩) hlt).trans (hc j hj)⟩

set_option maxRecDepth 100000 in
set_option maxHeartbeats 400000 in
theorem same_some (n b off b' off' c c' : Nat) (l : List Int) (w : World) (hn : n ≤ maxLen)
    (h1 : ∀ j, j < n → w.cell? ⟨b, off + j, none⟩ = some (.int .i64 (l.getD j 0))) (h2 : ∀ j, j < n → w.cell? ⟨b', off' + j, none⟩ = some (.int .i64 (l.getD j 0))) :
    Calls Tryd.prog 15 #[.slice (some ⟨b, off, none⟩) n c, .slice (some ⟨b', off', none⟩) n c'] w fun e w' => e = .returned (.bool true) ∧ ∃ d, w' = w.drewN d := by
  unfold maxLen at hn
  have H1 : Hid (∀ j, j < n → w.cell? ⟨b, off + j, none⟩ = some (.int .i64 (l.getD j 0))) := h1
  have H2 : Hid (∀ j, j < n → w.cell? ⟨b', off' + j, none⟩ = some (.int .i64 (l.getD j 0))) := h2
  clear h1 h2
  go_enter Tryd.func15, Tryd.ntmps15
  go_wp2
  go_loopw [5, 13] (fun _ i wr => ∃ k d : Nat, k ≤ n ∧ i = .int .i64 k ∧ wr = w.drewN d) (fun _ i _ => n - (intOf i).toNat)
  case atStart => exact ⟨0, 0, by omega, rfl, rfl⟩
  case round =>
    obtain ⟨k, d, hk, rfl, rfl⟩ := hrel
    by_cases hlt : k < n
    · have c1 : w.cell? ⟨b, off + k, none⟩ = some (.int .i64 (l.getD k 0)) := H1.out k hlt
      have c2 : w.cell? ⟨b', off' + k, none⟩ = some (.int .i64 (l.getD k 0)) := H2.out k hlt
      generalize l.getD k 0 = x at *
      go_wp2
      go_quiet (fail)
      go_wp2
      go_roundw
      case rel => exact ⟨k + 1, _, by omega, by go_num, rfl⟩
      case measure => simp [intOf]; omega
    · go_wp2
      go_ret
      exact ⟨rfl, d, rfl⟩

set_option maxRecDepth 100000 in
set_option maxHeartbeats 400000 in
theorem same_zero (A A' : Option Addr) (c c' : Nat) (w : World) :
    Calls Tryd.prog 15 #[.slice A 0 c, .slice A' 0 c'] w fun e w' => e = .returned (.bool true) ∧ w' = w := by
  go_enter Tryd.func15, Tryd.ntmps15
  go_wp2
  go_loopw [5, 13] (fun _ i wr => i = .int .i64 0 ∧ wr = w) (fun _ i _ => 0 - (intOf i).toNat)
  case atStart => exact ⟨rfl, rfl⟩
  case round =>
    obtain ⟨rfl, rfl⟩ := hrel
    go_wp2
    go_ret
    exact ⟨rfl, rfl⟩

theorem same_any (A A' : Option Addr) (n c c' : Nat) (l : List Int) (w : World) (hn : n ≤ maxLen) (h1 : Rd w A n l) (h2 : Rd w A' n l) :
    Calls Tryd.prog 15 #[.slice A n c, .slice A' n c'] w fun e w' => e = .returned (.bool true) ∧ ∃ d, w' = w.drewN d := by
  rcases h1.2 with rfl | ⟨b, off, rfl, _, hc1⟩
  · exact (same_zero A A' c c' w).mono fun e w' ⟨he, hw⟩ => ⟨he, 0, hw⟩
  · rcases h2.2 with rfl | ⟨b', off', rfl, _, hc2⟩
    · exact (same_zero _ A' c c' w).mono fun e w' ⟨he, hw⟩ => ⟨he, 0, hw⟩
    · exact same_some n b off b' off' c c' l w hn hc1 hc2

theorem below_drewN {B : Nat} {a w : World} (h : Below B a w) (d : Nat) : Below B a (w.drewN d) := ⟨h.os, h.tape, h.output, h.size, h.block⟩

/-- an owned row of numbers reads as them -/
theorem Rd.of_own {w : World} {base : Nat} {v : Value} {n : Nat} {l : List Int} (h : w.ownsRow base 3 1 v n (l.map (Value.int .i64))) : ∃ A c, v = .slice A n c ∧ Rd w A n l := by
  have hlen := h.1
  simp at hlen
  rcases h.2 with ⟨rfl, rfl⟩ | ⟨g, cap, cur, rfl, hb, hg, hn, hc, hs, ht⟩
  · exact ⟨none, 0, rfl, hlen, .inl rfl⟩
  · refine ⟨_, _, rfl, hlen, .inr ⟨g, 0, rfl, (Array.getElem?_eq_some_iff.1 hg).1, fun j hj => ?_⟩⟩
    rw [Nat.zero_add, h.cellAt j (by omega), List.getElem?_map]
    have : j < l.length := by omega
    simp [List.getD, this]

end Go.Proofs.YtmconmlfbgndoaaDoor
