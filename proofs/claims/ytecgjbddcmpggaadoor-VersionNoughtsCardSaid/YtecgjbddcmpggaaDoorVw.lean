/- Items: their kinds (package version), in any world; components and rows in memory. -/
import Derived.Test.YtecgjbddcmpggaaDoorRows
import Derived.Test.YtecgjbddcmpggaaDoorVm
import Derived.WalkKit
import Derived.WalkSpells
import Derived.WalkLawsBesides
import Derived.Lib.Bytealg
import Derived.Lib.Hide
import Derived.Handy
namespace Go.Proofs.YtecgjbddcmpggaaDoor
open Go.RowKit

theorem ret_bool {a b : Bool} (h : a = b) : Ending.returned (.bool a) = .returned (.bool b) := by rw [h]
theorem ret_int {a b : Int} (h : a = b) : Ending.returned (.int .i64 a) = .returned (.int .i64 b) := by rw [h]
def bs (l : List UInt8) : ByteArray := ⟨l.toArray⟩
theorem bs_list (l : List UInt8) : (bs l).toList = l := by rw [ByteArray.toList_eq]; rfl
theorem bs_data (l : List UInt8) : (bs l).data.toList = l := rfl
theorem bs_size (l : List UInt8) : (bs l).size = l.length := rfl
def itv (x : It) : Value := .agg #[.int .i64 x.1, .string (bs x.2)]
theorem below_alloc (w : World) (o : Obj) : Below w.heap.size w (w.alloc o) := (Below.refl _ _).alloc (Nat.le_refl _) _

set_option maxHeartbeats 1000000 in
theorem kind_any (x : It) (w : World) : Calls Tryd.prog 43 #[itv x] w fun e w' => e = .returned (.int .i64 (kindI x)) ∧ Below w.heap.size w w' := by
  unfold itv
  have e0 := bs_list x.2
  go_enter Tryd.func43, Tryd.ntmps43
  go_wp2
  all_goals
    go_ret
    refine ⟨ret_int ?_, below_alloc _ _⟩
    unfold kindI
    simp_all

/-! ### in memory -/
/-- a component -/
def CoAt (w : World) (v : Value) (c : Co) : Prop :=
  ∃ ao cap, v = .slice ao c.length cap ∧ c.length ≤ cap ∧ cap ≤ maxLen ∧ (c = [] ∨ ∃ b o, ao = some ⟨b, o, none⟩ ∧ ∀ j, j < c.length → w.cell? ⟨b, o + j * 2, none⟩ = some (.int .i64 (c.getD j zI).1) ∧ w.cell? ⟨b, o + j * 2 + 1, none⟩ = some (.string (bs (c.getD j zI).2)))
/-- a row of components -/
def RowAt (w : World) (v : Value) (r : Row) : Prop :=
  ∃ ao cap, v = .slice ao r.length cap ∧ r.length ≤ cap ∧ cap ≤ maxLen ∧ (r = [] ∨ ∃ b o, ao = some ⟨b, o, none⟩ ∧ ∀ j, j < r.length → ∃ u, w.cell? ⟨b, o + j, none⟩ = some u ∧ CoAt w u (r.getD j []))
/-- a version -/
def VerAt (w : World) (v : Value) (x : Ver) : Prop := ∃ vp vl, v = .agg #[.int .i64 x.1, vp, vl] ∧ RowAt w vp x.2.1 ∧ RowAt w vl x.2.2
theorem CoAt.nil (w : World) : CoAt w (.slice none 0 0) [] := ⟨none, 0, rfl, Nat.le_refl _, Nat.zero_le _, .inl rfl⟩
theorem RowAt.nil (w : World) : RowAt w (.slice none 0 0) [] := ⟨none, 0, rfl, Nat.le_refl _, Nat.zero_le _, .inl rfl⟩
theorem CoAt.below {w w' : World} {v : Value} {c : Co} (h : CoAt w v c) (hb : Below w.heap.size w w') : CoAt w' v c := by
  obtain ⟨ao, cap, rfl, h1, h2, h3⟩ := h
  refine ⟨ao, cap, rfl, h1, h2, ?_⟩
  rcases h3 with h3 | ⟨b, o, rfl, h4⟩
  · exact .inl h3
  · exact .inr ⟨b, o, rfl, fun j hj => ⟨(hb.cell (World.block_lt_of_cell? w _ (h4 j hj).1)).trans (h4 j hj).1, (hb.cell (World.block_lt_of_cell? w _ (h4 j hj).2)).trans (h4 j hj).2⟩⟩
theorem RowAt.below {w w' : World} {v : Value} {r : Row} (h : RowAt w v r) (hb : Below w.heap.size w w') : RowAt w' v r := by
  obtain ⟨ao, cap, rfl, h1, h2, h3⟩ := h
  refine ⟨ao, cap, rfl, h1, h2, ?_⟩
  rcases h3 with h3 | ⟨b, o, rfl, h4⟩
  · exact .inl h3
  · refine .inr ⟨b, o, rfl, fun j hj => ?_⟩
    obtain ⟨u, h5, h6⟩ := h4 j hj
    exact ⟨u, (hb.cell (World.block_lt_of_cell? w _ h5)).trans h5, h6.below hb⟩
theorem VerAt.below {w w' : World} {v : Value} {x : Ver} (h : VerAt w v x) (hb : Below w.heap.size w w') : VerAt w' v x := by
  obtain ⟨vp, vl, rfl, h1, h2⟩ := h
  exact ⟨vp, vl, rfl, h1.below hb, h2.below hb⟩

theorem cell_al {w : World} {a : Addr} {v : Value} (h : w.cell? a = some v) (o : Obj) : (w.alloc o).cell? a = some v := ((below_alloc w o).cell (World.block_lt_of_cell? w _ h)).trans h

/-! ### the piece at a place -/
theorem add_none (b off j : Nat) : (⟨b, off, none⟩ : Addr).add j = ⟨b, off + j, none⟩ := by
  unfold Addr.add
  by_cases h : j = 0
  · subst h; rfl
  · simp [h]
set_option maxHeartbeats 1000000 in
theorem atI_any (c : Co) (v : Value) (i : Nat) (w : World) (h : CoAt w v c) (_hi : i ≤ 9223372036854775807) : Calls Tryd.prog 50 #[v, .int .i64 i] w fun e w' => e = .returned (itv (c.getD i zI)) ∧ Below w.heap.size w w' := by
  obtain ⟨ao, cap, rfl, h1, h2, h3⟩ := h
  unfold maxLen at h2
  by_cases hl : i < c.length
  · rcases h3 with h3 | ⟨b, o, rfl, h4⟩
    · subst h3; simp at hl
    obtain ⟨c1, c2⟩ := h4 i hl
    unfold itv
    generalize c.getD i zI = x at *
    have d1 := cell_al c1
    have d2 := cell_al c2
    clear h4
    go_enter Tryd.func50, Tryd.ntmps50
    go_wp2
    go_returns
    refine ⟨rfl, ?_⟩
    go_grown
  · have e : c.getD i zI = zI := by rw [List.getD_eq_getElem?_getD, List.getElem?_eq_none (by omega)]; rfl
    rw [e]
    clear h3 e
    go_enter Tryd.func50, Tryd.ntmps50
    go_wp2
    go_returns
    refine ⟨rfl, ?_⟩
    go_grown

end Go.Proofs.YtecgjbddcmpggaaDoor
