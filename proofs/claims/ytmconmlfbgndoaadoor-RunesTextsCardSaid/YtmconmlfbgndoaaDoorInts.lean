/- The contracts of haversacknum.Ints and KeptInts: a copy with marked room behind, and whether list and room stand. -/
import Derived.Test.YtmconmlfbgndoaaDoorSame
import Derived.OpenShut
namespace Go.Proofs.YtmconmlfbgndoaaDoor
open Go.RowKit

def marks : List Int := [-91, -92, -93, -94]
def intVs (l : List Int) : List Value := l.map (Value.int .i64)

theorem cell_lt {w : World} {p : Addr} {u : Value} (h : w.cell? p = some u) : p.block < w.heap.size := by
  rcases Nat.lt_or_ge p.block w.heap.size with hlt | hge
  · exact hlt
  · simp [World.cell?, Array.getElem?_eq_none hge] at h

/-- what comes in as a list of n numbers -/
structure Src (w : World) (A : Option Addr) (n c : Nat) (l : List Int) : Prop where
  len : l.length = n
  nil : A = none → n = 0 ∧ c = 0
  at' : ∀ ad, A = some ad → ∀ j u, (intVs l)[j]? = some u → w.cell? (ad.add j) = some u
  rd : Rd w A n l

theorem intInfo : (Tryd.prog.info? 3).map (fun i => (i.zero, i.size, i.bytes)) = some (some (.int .i64 0), 1, 8) := by kernel_rfl

theorem intVs_one (l : List Int) : ∀ u ∈ intVs l, u.oneCell' = true := ints_oneCell .i64 l

theorem marks_at (w : World) (ad : Addr) (had : ad = ⟨w.heap.size, 0, none⟩) : ∀ j u, (intVs marks)[j]? = some u → (w.alloc (.cells #[.int .i64 (-91), .int .i64 (-92), .int .i64 (-93), .int .i64 (-94)] 3)).cell? (ad.add j) = some u := by
  intro j u hu
  subst had
  have h := cell_of_row _ w.heap.size j _ 3 (0, 0) (heap_alloc_new w (.cells #[.int .i64 (-91), .int .i64 (-92), .int .i64 (-93), .int .i64 (-94)] 3))
  have e : (⟨w.heap.size, 0, none⟩ : Addr).add j = ⟨w.heap.size, j, none⟩ := by unfold Addr.add; split <;> simp_all
  rw [e, h]
  have e2 : (#[.int .i64 (-91), .int .i64 (-92), .int .i64 (-93), .int .i64 (-94)] : Array Value) = (intVs marks).toArray := rfl
  rw [e2]
  simpa using hu

set_option maxRecDepth 100000 in
set_option maxHeartbeats 1000000 in
theorem ints_any (A : Option Addr) (n c : Nat) (l : List Int) (w : World) (h : Src w A n c l) (hn : n ≤ 500) :
    Calls Tryd.prog 17 #[.slice A n c] w fun e w' => ∃ g, e = .returned (.slice (some ⟨g, 0, none⟩) n (n + 4)) ∧ w'.ownsRow w.heap.size 3 1 (.slice (some ⟨g, 0, none⟩) (n + 4) (n + 4)) (n + 4) (intVs (l ++ marks)) ∧ Below w.heap.size w w' := by
  obtain ⟨i0, hi, hz0, hz1, hz2⟩ := info_parts intInfo
  obtain ⟨hl, hnil, hat, _⟩ := h
  have HL : Hid (l.length = n) := hl
  have HNIL : Hid (A = none → n = 0 ∧ c = 0) := hnil
  have HAT : Hid (∀ ad, A = some ad → ∀ j u, (intVs l)[j]? = some u → w.cell? (ad.add j) = some u) := hat
  clear hl hnil hat
  go_enter Tryd.func17, Tryd.ntmps17
  go_wp2_with (at_make; refine wpList_make_own _ rfl _ _ 32 rfl w.heap.size 3 i0 (.int .i64 0) 1 Tryd.underlying32 hi hz0 hz1 .i64 .i64 _ (n + 4) rfl rfl ?m0 ?m1 ?m2 ?m3 ?_)
  case m0 => omega
  case m1 => rw [hz2]; omega
  case m2 => unfold maxLen; omega
  case m3 => exact Nat.le_refl _
  intro w3 hown3 hg3
  have hsz3 := hg3.size
  have HB3 : Below w.heap.size w w3 := (Below.refl _ _).grown hg3 (Nat.le_refl _) (fun k hk => by cases hk)
  go_wp2_with (at_builtin; refine wpList_append_fits_any _ rfl (.tmp 7) (.tmp 8) 32 rfl w.heap.size 3 i0 1 Tryd.underlying32 hi hz1 w.heap.size 0 (n + 4) [] rfl hown3 A n c (intVs l) rfl ?a1 ?a2 ?a3 (intVs_one l) ?a5 ?_)
  case a1 => have := HL.out; simp [intVs]; omega
  case a2 => exact HNIL.out
  case a3 =>
    intro ad had j u hu
    have h1 := HAT.out ad had j u hu
    exact (HB3.cell (cell_lt h1)).trans h1
  case a5 => omega
  intro w4 hown4 hg4
  have HB4 : Below w.heap.size w w4 := HB3.grown hg4 hsz3 (fun k hk => by cases hk; exact Nat.le_refl _)
  have hsz4 := HB4.size
  clear hg3 hg4 HB3 hown3 hsz3
  go_wp2_with (at_builtin; refine wpList_append_fits_any _ rfl (.tmp 9) (.tmp 10) 32 rfl w.heap.size 3 i0 1 Tryd.underlying32 hi hz1 w.heap.size n (n + 4) (intVs l) ?b0 (hown4.alloc _) (some ⟨w4.heap.size, 0, none⟩) 4 4 (intVs marks) rfl rfl ?b2 ?b3 (intVs_one marks) ?b5 ?_)
  case b0 => first | rfl | simp
  case b2 => intro h; cases h
  case b3 =>
    intro ad had
    cases had
    exact marks_at w4 _ rfl
  case b5 => omega
  intro w5 hown5 hg5
  have HB5 : Below w.heap.size w w5 := (HB4.alloc hsz4 _).grown hg5 (by simp; omega) (fun k hk => by cases hk; exact Nat.le_refl _)
  have HO : Hid (w5.ownsRow w.heap.size 3 1 (.slice (some ⟨w.heap.size, 0, none⟩) (n + 4) (n + 4)) (n + 4) (intVs (l ++ marks))) := by
    have e : intVs (l ++ marks) = intVs l ++ intVs marks := by simp [intVs]
    rw [e]
    exact hown5
  clear hown5 hown4 hg5
  go_wp2
  go_ret
  exact ⟨w.heap.size, rfl, HO.out, HB5⟩

/-- the copy, as it stands: its list, and the marks behind it -/
def Copy (w : World) (g n : Nat) (l : List Int) : Prop := l.length = n ∧ g < w.heap.size ∧ (∀ j, j < n → w.cell? ⟨g, j, none⟩ = some (.int .i64 (l.getD j 0))) ∧ ∀ i, i < 4 → w.cell? ⟨g, n + i, none⟩ = some (.int .i64 (-91 - i))

theorem Copy.of_own {w : World} {base g n : Nat} {l : List Int} (hl : l.length = n) (h : w.ownsRow base 3 1 (.slice (some ⟨g, 0, none⟩) (n + 4) (n + 4)) (n + 4) (intVs (l ++ marks))) : Copy w g n l := by
  refine ⟨hl, (h.lt g rfl).2, fun j hj => ?_, fun i hi => ?_⟩
  · rw [h.cellAt j (by omega)]
    have h1 : j < l.length := by omega
    unfold intVs
    rw [List.map_append, List.getElem?_append_left (by simp; omega)]
    simp [List.getD, h1]
  · rw [h.cellAt (n + i) (by omega)]
    have e : (intVs (l ++ marks))[n + i]? = (intVs marks)[i]? := by
      unfold intVs
      rw [List.map_append, List.getElem?_append_right (by simp; omega)]
      simp [hl]
    rw [e]
    match i, hi with
    | 0, _ => rfl
    | 1, _ => rfl
    | 2, _ => rfl
    | 3, _ => rfl
    | i + 4, h => exact absurd h (by omega)
theorem Copy.below {w w' : World} {g n : Nat} {l : List Int} (h : Copy w g n l) (hb : Below w.heap.size w w') : Copy w' g n l :=
  ⟨h.1, Nat.lt_of_lt_of_le h.2.1 hb.size, fun j hj => (hb.cell (p := ⟨g, j, none⟩) h.2.1).trans (h.2.2.1 j hj), fun i hi => (hb.cell (p := ⟨g, n + i, none⟩) h.2.1).trans (h.2.2.2 i hi)⟩
theorem Copy.rd {w : World} {g n : Nat} {l : List Int} (h : Copy w g n l) : Rd w (some ⟨g, 0, none⟩) n l :=
  ⟨h.1, .inr ⟨g, 0, rfl, h.2.1, fun j hj => by rw [Nat.zero_add]; exact h.2.2.1 j hj⟩⟩

set_option maxRecDepth 100000 in
set_option maxHeartbeats 1000000 in
theorem kept_any (A : Option Addr) (g n c : Nat) (l : List Int) (w : World) (h : Copy w g n l) (hr : Rd w A n l) (hn : n ≤ 500) :
    Calls Tryd.prog 20 #[.slice (some ⟨g, 0, none⟩) n (n + 4), .slice A n c] w fun e w' => e = .returned (.bool true) ∧ ∃ d, w' = w.drewN d := by
  have hS := same_any (some ⟨g, 0, none⟩) A n (n + 4) c l w (by unfold maxLen; omega) h.rd hr
  have HM := Lib.hid h.2.2.2
  clear h hr
  go_enter Tryd.func20, Tryd.ntmps20
  go_wp2_with (go_at_call 15; refine hS.mono ?_; rintro e w' ⟨rfl, d, rfl⟩)
  go_loopw [6] (fun i wr => ∃ k : Nat, k ≤ 4 ∧ i = .int .i64 k ∧ wr = w.drewN d) (fun i _ => 4 - (intOf i).toNat)
  case atStart => exact ⟨0, by omega, rfl, rfl⟩
  case round =>
    obtain ⟨k, hk, rfl, rfl⟩ := hrel
    by_cases hlt : k < 4
    · have hc : w.cell? ⟨g, n + k, none⟩ = some (.int .i64 (-91 - k)) := HM.out k hlt
      go_wp2
      go_roundw
      case rel => exact ⟨k + 1, by omega, by go_num, by first | trivial | rfl⟩
      case measure => simp [intOf]; omega
    · go_wp2
      go_ret
      exact ⟨rfl, d, rfl⟩

end Go.Proofs.YtmconmlfbgndoaaDoor
