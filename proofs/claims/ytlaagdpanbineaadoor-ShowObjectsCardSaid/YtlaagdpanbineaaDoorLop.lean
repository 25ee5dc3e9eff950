/- a value that is handed in, opened: a tree in memory. -/
import Derived.Test.YtlaagdpanbineaaDoorLsr
import Derived.ChangeArms
import Derived.Deep.Slices
namespace Go.Proofs.YtlaagdpanbineaaDoor
open Go.RowKit

theorem cell_spot {w : World} {a : Addr} {v : Value} (h : w.cell? a = some v) : a.spot = none ∧ a.block < w.heap.size := by
  unfold World.cell? at h
  constructor
  · cases hs : a.spot with
    | none => rfl
    | some x => rw [hs] at h; simp at h; split at h <;> simp at h
  · rcases Nat.lt_or_ge a.block w.heap.size with hb | hb
    · exact hb
    · rw [Array.getElem?_eq_none hb] at h; simp at h

theorem bound_of (f : Nat → Nat) : ∀ n, ∃ H, ∀ i, i < n → f i ≤ H
  | 0 => ⟨0, fun i h => absurd h (by omega)⟩
  | n + 1 => by
    obtain ⟨H, hH⟩ := bound_of f n
    refine ⟨max H (f n), fun i hi => ?_⟩
    by_cases h : i < n
    · exact Nat.le_trans (hH i h) (Nat.le_max_left _ _)
    · obtain rfl : i = n := by omega
      exact Nat.le_max_right _ _

theorem add_none (b off j : Nat) : (⟨b, off, none⟩ : Addr).add j = ⟨b, off + j, none⟩ := by
  unfold Addr.add
  by_cases h : j = 0
  · subst h; rfl
  · simp [h]
theorem add_zero (a : Addr) : a.add 0 = a := rfl

theorem strs_open {H : Type} {enc : TypeId × Value → H} {W : World} {held : Bool} {fuel : Nat} {c : Value} {x : DataW H × List MemPlace} (hx : DataW.trod enc Tryd.prog W 0 (fun _ => true) held fuel 22 [c] = some x) :
    ∃ ks : List (List UInt8), StrAt (fun _ => True) W c ks ∧ ks.length ≤ 9223372036854775807 := by
  rcases Go.Deep.open_slice1 Tryd.underlying22 (by kernel_rfl) hx with ⟨hcs, _⟩ | ⟨a, len, cap, m, n, V, D, Pl, hcs, hb, hl, hm, hmm, _, hV⟩
  · obtain rfl : c = .slice none 0 0 := by simpa using hcs
    exact ⟨[], ⟨none, 0, rfl, .inl rfl⟩, by simp⟩
  · obtain rfl : c = .slice (some a) len cap := by simpa using hcs
    simp only [if_true] at hmm
    subst hmm
    obtain ⟨s, hs⟩ := Go.Deep.choose_lt (α := ByteArray) (p := fun i s => V i = .string s) (n := m) (fun i hi => by
      obtain ⟨s, h1, _⟩ := DataW.trod_string Tryd.underlying9 (hV i hi).2
      exact ⟨s, by simpa using h1⟩)
    refine ⟨(List.range len).map fun i => (s i).data.toList, ⟨some a, m, by simp, ?_⟩, by unfold maxLen at hm; simp; omega⟩
    by_cases h0 : len = 0
    · subst h0; exact .inl rfl
    · have h1 := cell_spot (hV 0 (by omega)).1
      obtain ⟨b, off, sp⟩ := a
      obtain ⟨h1, h2⟩ := h1
      obtain rfl : sp = none := h1
      refine .inr ⟨b, off, rfl, trivial, h2, fun j hj => ?_⟩
      have hj2 : j < len := by simpa using hj
      have h3 := (hV j (by omega)).1
      rw [hs j (by omega), add_none] at h3
      refine h3.trans ?_
      simp [List.getD, hj2]

set_option maxRecDepth 100000 in
theorem node_open {H : Type} {enc : TypeId × Value → H} {W : World} {held : Bool} : ∀ (fuel : Nat) (cs : List Value) (x : DataW H × List MemPlace), DataW.trod enc Tryd.prog W 0 (fun _ => true) held fuel 25 cs = some x →
    ∃ c0 c1 c2 c3 c4 t h, cs = [c0, c1, c2, c3, c4] ∧ NIs (fun _ => True) h W t (.agg #[c0, c1, c2, c3, c4]) ∧ okLen t := by
  intro fuel
  induction fuel using Nat.strongRecOn with
  | ind fuel ih =>
  intro cs x hx
  obtain ⟨xs, n, rfl, _, hcl, hxl, hf⟩ := DataW.trod_struct Tryd.underlying25 hx
  have hcl5 : cs.length = 5 := hcl.trans (by kernel_rfl)
  obtain ⟨c0, c1, c2, c3, c4, rfl⟩ : ∃ c0 c1 c2 c3 c4, cs = [c0, c1, c2, c3, c4] := by
    match cs, hcl5 with
    | [a, b, c, d, e], _ => exact ⟨a, b, c, d, e, rfl⟩
  have e3 : Tryd.prog.cellsOf 3 = 1 := by kernel_rfl
  have e9 : Tryd.prog.cellsOf 9 = 1 := by kernel_rfl
  have e22 : Tryd.prog.cellsOf 22 = 1 := by kernel_rfl
  have e23 : Tryd.prog.cellsOf 23 = 1 := by kernel_rfl
  have e25 : Tryd.prog.cellsOf 25 = 5 := by kernel_rfl
  have hxl5 : xs.length = 5 := hxl
  have gx : ∀ i, i < 5 → ∃ y, xs[i]? = some y := fun i hi => ⟨_, List.getElem?_eq_getElem (by omega)⟩
  obtain ⟨y0, h0⟩ := gx 0 (by omega)
  obtain ⟨y1, h1⟩ := gx 1 (by omega)
  obtain ⟨y2, h2⟩ := gx 2 (by omega)
  obtain ⟨y3, h3⟩ := gx 3 (by omega)
  obtain ⟨y4, h4⟩ := gx 4 (by omega)
  have g0 : DataW.trod enc Tryd.prog W 0 (fun _ => true) held n 3 (([c0, c1, c2, c3, c4].drop 0).take (Tryd.prog.cellsOf 3)) = some y0 := (hf 0 _ rfl).trans h0
  rw [e3] at g0
  replace g0 : DataW.trod enc Tryd.prog W 0 (fun _ => true) held n 3 [c0] = some y0 := g0
  have g1 : DataW.trod enc Tryd.prog W 0 (fun _ => true) held n 3 (([c0, c1, c2, c3, c4].drop 1).take (Tryd.prog.cellsOf 3)) = some y1 := (hf 1 _ rfl).trans h1
  rw [e3] at g1
  replace g1 : DataW.trod enc Tryd.prog W 0 (fun _ => true) held n 3 [c1] = some y1 := g1
  have g2 : DataW.trod enc Tryd.prog W 0 (fun _ => true) held n 9 (([c0, c1, c2, c3, c4].drop 2).take (Tryd.prog.cellsOf 9)) = some y2 := (hf 2 _ rfl).trans h2
  rw [e9] at g2
  replace g2 : DataW.trod enc Tryd.prog W 0 (fun _ => true) held n 9 [c2] = some y2 := g2
  have g3 : DataW.trod enc Tryd.prog W 0 (fun _ => true) held n 22 (([c0, c1, c2, c3, c4].drop 3).take (Tryd.prog.cellsOf 22)) = some y3 := (hf 3 _ rfl).trans h3
  rw [e22] at g3
  replace g3 : DataW.trod enc Tryd.prog W 0 (fun _ => true) held n 22 [c3] = some y3 := g3
  have g4 : DataW.trod enc Tryd.prog W 0 (fun _ => true) held n 23 (([c0, c1, c2, c3, c4].drop 4).take (Tryd.prog.cellsOf 23)) = some y4 := (hf 4 _ rfl).trans h4
  rw [e23] at g4
  replace g4 : DataW.trod enc Tryd.prog W 0 (fun _ => true) held n 23 [c4] = some y4 := g4
  obtain ⟨kd, hc0, _, _⟩ := DataW.trod_int Tryd.underlying3 g0
  obtain ⟨nn, hc1, _, _⟩ := DataW.trod_int Tryd.underlying3 g1
  obtain ⟨tx, hc2, _, _⟩ := DataW.trod_string Tryd.underlying9 g2
  obtain rfl : c0 = _ := by simpa using hc0
  obtain rfl : c1 = _ := by simpa using hc1
  obtain rfl : c2 = _ := by simpa using hc2
  obtain ⟨ks, hks, lks⟩ := strs_open g3
  have htx : Value.string tx = .string ⟨tx.data.toList.toArray⟩ := by rw [ba_of]
  rcases DataW.trod_slice Tryd.underlying23 g4 with ⟨hcs, _⟩ | ⟨a, len, cap, elems, rest, n', rfl, hcs, _, hb, hl, hm, hlen, hel, _⟩
  · obtain rfl : c4 = .slice none 0 0 := by simpa using hcs
    refine ⟨_, _, _, _, _, .mk kd nn tx.data.toList ks [], 1, rfl, ⟨c3, none, 0, ?_, hks, .inl rfl⟩, ?_⟩
    · rw [htx]; rfl
    · unfold okLen; exact ⟨lks, by simp, fun t ht => by simp at ht⟩
  · obtain rfl : c4 = .slice (some a) len cap := by simpa using hcs
    haveI : Inhabited (NT × Nat) := ⟨(.mk 0 0 [] [] [], 0)⟩
    obtain ⟨f, hF⟩ := Go.Deep.choose_lt (α := NT × Nat) (n := len) (p := fun i y => ∃ c0 c1 c2 c3 c4, W.cells? 0 (a.add (i * 5)) 5 = some [c0, c1, c2, c3, c4] ∧ NIs (fun _ => True) y.2 W y.1 (.agg #[c0, c1, c2, c3, c4]) ∧ okLen y.1) (fun i hi => by
      have he := hel i hi
      rw [List.getElem?_eq_getElem (by omega), e25] at he
      obtain ⟨cs', hcs', hy⟩ := Option.bind_eq_some_iff.1 he
      obtain ⟨c0, c1, c2, c3, c4, t, h, rfl, hN, hO⟩ := ih n' (by omega) cs' _ hy
      exact ⟨(t, h), c0, c1, c2, c3, c4, hcs', hN, hO⟩)
    obtain ⟨B, hB⟩ := bound_of (fun i => (f i).2) len
    refine ⟨_, _, _, _, _, .mk kd nn tx.data.toList ks ((List.range len).map fun i => (f i).1), B + 1, rfl, ⟨c3, some a, cap, ?_, hks, ?_⟩, ?_⟩
    · rw [htx]; simp [litV]
    · by_cases h0 : len = 0
      · subst h0; exact .inl rfl
      · obtain ⟨c0, c1, c2, c3, c4, hc, _, _⟩ := hF 0 (by omega)
        have h1 := cell_spot ((World.cells?_some hc).2.2 0 (by omega))
        obtain ⟨b, off, sp⟩ := a
        obtain ⟨h1, h2⟩ := h1
        obtain rfl : sp = none := h1
        refine .inr ⟨b, off, rfl, trivial, h2, fun j hj => ?_⟩
        have hj2 : j < len := by simpa using hj
        obtain ⟨c0, c1, c2, c3, c4, hc, hN, _⟩ := hF j hj2
        have hcc := (World.cells?_some hc).2.2
        have hcell : ∀ i v, i < 5 → [c0, c1, c2, c3, c4][i]? = some v → W.cell? ⟨b, off + 5 * j + i, none⟩ = some v := fun i v hi hv => by
          have := (hcc i hi).trans hv
          rw [Go.Deep.add_add, Nat.mul_comm j 5, add_none] at this
          rw [Nat.add_assoc]
          exact this
        refine ⟨c0, c1, c2, c3, c4, hcell 0 _ (by omega) rfl, hcell 1 _ (by omega) rfl, hcell 2 _ (by omega) rfl, hcell 3 _ (by omega) rfl, hcell 4 _ (by omega) rfl, ?_⟩
        have := hN.mono (hB j hj2)
        simpa using this
    · unfold okLen
      refine ⟨lks, by unfold maxLen at hm; simp; omega, fun t ht => ?_⟩
      obtain ⟨i, hi, rfl⟩ := List.mem_map.1 ht
      obtain ⟨_, _, _, _, _, _, _, hO⟩ := hF i (List.mem_range.1 hi)
      exact hO

theorem agg_cells {v c0 c1 c2 c3 c4 : Value} (h : v.cells.toList = [c0, c1, c2, c3, c4]) : v = .agg #[c0, c1, c2, c3, c4] := by
  cases v with
  | agg cs =>
    simp only [Value.cells] at h
    rw [← h]
  | _ => simp [Value.cells] at h
theorem open_node {H : Type} {enc : TypeId × Value → H} {W : World} {held : Bool} {v : Value} {d : DataW H} {p : List MemPlace} (h : ∃ m, DataW.trod enc Tryd.prog W 0 (fun _ => true) held m 25 v.cells.toList = some (d, p)) :
    ∃ t g, NIs (fun _ => True) g W t v ∧ okLen t := by
  obtain ⟨m, hm⟩ := h
  obtain ⟨c0, c1, c2, c3, c4, t, g, hc, hN, ho⟩ := node_open m _ _ hm
  exact ⟨t, g, agg_cells hc ▸ hN, ho⟩

end Go.Proofs.YtlaagdpanbineaaDoor

