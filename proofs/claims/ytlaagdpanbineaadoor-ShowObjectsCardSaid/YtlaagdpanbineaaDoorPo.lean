/- values that are handed in, opened: each a tree in memory whose numbers are ints. -/
import Derived.Test.YtlaagdpanbineaaDoorLop
import Derived.Test.YtlaagdpanbineaaDoorRgc
import Derived.Test.YtlaagdpanbineaaDoorSm
namespace Go.Proofs.YtlaagdpanbineaaDoor
open Go.RowKit

theorem wf_bd2 {n : Int} (h : (Lit.int .i64 n).wf = true) : -9223372036854775808 ≤ n ∧ n ≤ 9223372036854775807 := by
  have h1 : IntKind.i64.min = -9223372036854775808 := by decide
  have h2 : IntKind.i64.max = 9223372036854775807 := by decide
  simp only [Lit.wf, Bool.and_eq_true, decide_eq_true_eq, h1, h2] at h
  exact h
theorem okIntL_of : ∀ {l : List NT}, (∀ t ∈ l, okInt t) → okIntL l
  | [], _ => trivial
  | a :: l, h => ⟨h a (by simp), okIntL_of fun t ht => h t (by simp [ht])⟩

theorem kids_of {H : Type} {enc : TypeId × Value → H} {W : World} {held : Bool} {fuel : Nat} {c : Value} {x : DataW H × List MemPlace}
    (hx : DataW.trod enc Tryd.prog W 0 (fun _ => true) held fuel 23 [c] = some x)
    (ih : ∀ n', n' < fuel → ∀ cs y, DataW.trod enc Tryd.prog W 0 (fun _ => true) held n' 25 cs = some y →
      ∃ c0 c1 c2 c3 c4 t h, cs = [c0, c1, c2, c3, c4] ∧ NIs (fun _ => True) h W t (.agg #[c0, c1, c2, c3, c4]) ∧ okLen t ∧ okInt t) :
    ∃ S kids cap h, c = .slice S kids.length cap ∧ KidsAt (fun _ => True) h W S kids ∧ kids.length ≤ 9223372036854775807 ∧ ∀ t ∈ kids, okLen t ∧ okInt t := by
  have e25 : Tryd.prog.cellsOf 25 = 5 := by kernel_rfl
  rcases DataW.trod_slice Tryd.underlying23 hx with ⟨hcs, _⟩ | ⟨a, len, cap, elems, rest, n', rfl, hcs, _, hb, hl, hm, hlen, hel, _⟩
  · obtain rfl : c = .slice none 0 0 := by simpa using hcs
    exact ⟨none, [], 0, 1, rfl, .inl rfl, by simp, fun t ht => by simp at ht⟩
  · obtain rfl : c = .slice (some a) len cap := by simpa using hcs
    haveI : Inhabited (NT × Nat) := ⟨(.mk 0 0 [] [] [], 0)⟩
    obtain ⟨f, hF⟩ := Go.Deep.choose_lt (α := NT × Nat) (n := len) (p := fun i y => ∃ c0 c1 c2 c3 c4, W.cells? 0 (a.add (i * 5)) 5 = some [c0, c1, c2, c3, c4] ∧ NIs (fun _ => True) y.2 W y.1 (.agg #[c0, c1, c2, c3, c4]) ∧ okLen y.1 ∧ okInt y.1) (fun i hi => by
      have he := hel i hi
      rw [List.getElem?_eq_getElem (by omega), e25] at he
      obtain ⟨cs', hcs', hy⟩ := Option.bind_eq_some_iff.1 he
      obtain ⟨c0, c1, c2, c3, c4, t, h, rfl, hN, hO⟩ := ih n' (by omega) cs' _ hy
      exact ⟨(t, h), c0, c1, c2, c3, c4, hcs', hN, hO⟩)
    obtain ⟨B, hB⟩ := bound_of (fun i => (f i).2) len
    have hlen2 : ((List.range len).map fun i => (f i).1).length = len := by simp
    refine ⟨some a, (List.range len).map fun i => (f i).1, cap, B, ?_, ?_, ?_, ?_⟩
    · rw [hlen2]
    · by_cases h0 : len = 0
      · subst h0; exact .inl rfl
      · obtain ⟨c0, c1, c2, c3, c4, hc, _, _⟩ := hF 0 (by omega)
        have h1 := cell_spot ((World.cells?_some hc).2.2 0 (by omega))
        obtain ⟨b, off, sp⟩ := a
        obtain ⟨h1, h2⟩ := h1
        obtain rfl : sp = none := h1
        refine .inr ⟨b, off, rfl, trivial, h2, fun j hj => ?_⟩
        have hj2 : j < len := by simpa using hj
        obtain ⟨c0, c1, c2, c3, c4, hc, hN, _⟩ := hF j hj2
        have hcc := (World.cells?_some hc).2.2
        have hcell : ∀ i v, i < 5 → [c0, c1, c2, c3, c4][i]? = some v → W.cell? ⟨b, off + 5 * j + i, none⟩ = some v := fun i v hi hv => by
          have := (hcc i hi).trans hv
          rw [Go.Deep.add_add, Nat.mul_comm j 5, add_none] at this
          rw [Nat.add_assoc]
          exact this
        refine ⟨c0, c1, c2, c3, c4, hcell 0 _ (by omega) rfl, hcell 1 _ (by omega) rfl, hcell 2 _ (by omega) rfl, hcell 3 _ (by omega) rfl, hcell 4 _ (by omega) rfl, ?_⟩
        have := hN.mono (hB j hj2)
        simpa using this
    · rw [hlen2]; unfold maxLen at hm; omega
    · intro t ht
      obtain ⟨i, hi, rfl⟩ := List.mem_map.1 ht
      obtain ⟨_, _, _, _, _, _, _, hO⟩ := hF i (List.mem_range.1 hi)
      exact hO

set_option maxRecDepth 100000 in
theorem node_open2 {H : Type} {enc : TypeId × Value → H} {W : World} {held : Bool} : ∀ (fuel : Nat) (cs : List Value) (x : DataW H × List MemPlace), DataW.trod enc Tryd.prog W 0 (fun _ => true) held fuel 25 cs = some x →
    ∃ c0 c1 c2 c3 c4 t h, cs = [c0, c1, c2, c3, c4] ∧ NIs (fun _ => True) h W t (.agg #[c0, c1, c2, c3, c4]) ∧ okLen t ∧ okInt t := by
  intro fuel
  induction fuel using Nat.strongRecOn with
  | ind fuel ih =>
  intro cs x hx
  obtain ⟨xs, n, rfl, _, hcl, hxl, hf⟩ := DataW.trod_struct Tryd.underlying25 hx
  have hcl5 : cs.length = 5 := hcl.trans (by kernel_rfl)
  obtain ⟨c0, c1, c2, c3, c4, rfl⟩ : ∃ c0 c1 c2 c3 c4, cs = [c0, c1, c2, c3, c4] := by
    match cs, hcl5 with
    | [a, b, c, d, e], _ => exact ⟨a, b, c, d, e, rfl⟩
  have e3 : Tryd.prog.cellsOf 3 = 1 := by kernel_rfl
  have e9 : Tryd.prog.cellsOf 9 = 1 := by kernel_rfl
  have e22 : Tryd.prog.cellsOf 22 = 1 := by kernel_rfl
  have e23 : Tryd.prog.cellsOf 23 = 1 := by kernel_rfl
  have e25 : Tryd.prog.cellsOf 25 = 5 := by kernel_rfl
  have hxl5 : xs.length = 5 := hxl
  have gx : ∀ i, i < 5 → ∃ y, xs[i]? = some y := fun i hi => ⟨_, List.getElem?_eq_getElem (by omega)⟩
  obtain ⟨y0, h0⟩ := gx 0 (by omega)
  obtain ⟨y1, h1⟩ := gx 1 (by omega)
  obtain ⟨y2, h2⟩ := gx 2 (by omega)
  obtain ⟨y3, h3⟩ := gx 3 (by omega)
  obtain ⟨y4, h4⟩ := gx 4 (by omega)
  have g0 : DataW.trod enc Tryd.prog W 0 (fun _ => true) held n 3 (([c0, c1, c2, c3, c4].drop 0).take (Tryd.prog.cellsOf 3)) = some y0 := (hf 0 _ rfl).trans h0
  rw [e3] at g0
  replace g0 : DataW.trod enc Tryd.prog W 0 (fun _ => true) held n 3 [c0] = some y0 := g0
  have g1 : DataW.trod enc Tryd.prog W 0 (fun _ => true) held n 3 (([c0, c1, c2, c3, c4].drop 1).take (Tryd.prog.cellsOf 3)) = some y1 := (hf 1 _ rfl).trans h1
  rw [e3] at g1
  replace g1 : DataW.trod enc Tryd.prog W 0 (fun _ => true) held n 3 [c1] = some y1 := g1
  have g2 : DataW.trod enc Tryd.prog W 0 (fun _ => true) held n 9 (([c0, c1, c2, c3, c4].drop 2).take (Tryd.prog.cellsOf 9)) = some y2 := (hf 2 _ rfl).trans h2
  rw [e9] at g2
  replace g2 : DataW.trod enc Tryd.prog W 0 (fun _ => true) held n 9 [c2] = some y2 := g2
  have g3 : DataW.trod enc Tryd.prog W 0 (fun _ => true) held n 22 (([c0, c1, c2, c3, c4].drop 3).take (Tryd.prog.cellsOf 22)) = some y3 := (hf 3 _ rfl).trans h3
  rw [e22] at g3
  replace g3 : DataW.trod enc Tryd.prog W 0 (fun _ => true) held n 22 [c3] = some y3 := g3
  have g4 : DataW.trod enc Tryd.prog W 0 (fun _ => true) held n 23 (([c0, c1, c2, c3, c4].drop 4).take (Tryd.prog.cellsOf 23)) = some y4 := (hf 4 _ rfl).trans h4
  rw [e23] at g4
  replace g4 : DataW.trod enc Tryd.prog W 0 (fun _ => true) held n 23 [c4] = some y4 := g4
  obtain ⟨kd, hc0, _, _⟩ := DataW.trod_int Tryd.underlying3 g0
  obtain ⟨nn, hc1, _, wf1⟩ := DataW.trod_int Tryd.underlying3 g1
  obtain ⟨tx, hc2, _, _⟩ := DataW.trod_string Tryd.underlying9 g2
  obtain rfl : c0 = _ := by simpa using hc0
  obtain rfl : c1 = _ := by simpa using hc1
  obtain rfl : c2 = _ := by simpa using hc2
  obtain ⟨ks, hks, lks⟩ := strs_open g3
  have htx : Value.string tx = .string ⟨tx.data.toList.toArray⟩ := by rw [ba_of]
  obtain ⟨S, kids, cap, h, rfl, hK, lK, hall⟩ := kids_of g4 (fun n' hn cs y => ih n' (by omega) cs y)
  refine ⟨_, _, _, _, _, .mk kd nn tx.data.toList ks kids, h + 1, rfl, ⟨c3, S, cap, ?_, hks, hK⟩, ?_, ?_⟩
  · rw [htx]; rfl
  · unfold okLen; exact ⟨lks, lK, fun t ht => (hall t ht).1⟩
  · unfold okInt
    have hb := wf_bd2 wf1
    exact ⟨hb.1, hb.2, okIntL_of fun t ht => (hall t ht).2⟩

theorem open_nodes {H : Type} {enc : TypeId × Value → H} {W : World} {held : Bool} {m : Nat} {c : Value} {x : DataW H × List MemPlace} (h : DataW.trod enc Tryd.prog W 0 (fun _ => true) held m 23 [c] = some x) :
    ∃ S kids cap h, c = .slice S kids.length cap ∧ KidsAt (fun _ => True) h W S kids ∧ kids.length ≤ 9223372036854775807 ∧ ∀ t ∈ kids, okLen t ∧ okInt t :=
  kids_of h fun n' _ cs y hy => node_open2 n' cs y hy

mutual
theorem rgt_shift : ∀ (t : NT) (d e : Nat), rgt d t → e + dep t < 32 → rgt e t
  | .mk k n tx ks kids, d, e, h, hb => by
    have hL := rgt_shiftL kids (d + 1) (e + 1)
    unfold rgt at h ⊢
    simp only [dep] at hb
    obtain ⟨h1, h2, h3, h4, h5, h6, h7, h8, h9, _, h11, h12, h13, h14⟩ := h
    exact ⟨h1, h2, h3, h4, h5, h6, h7, h8, h9, fun _ => by omega, h11, h12, h13, hL h14 (by omega)⟩
termination_by t => SizeOf.sizeOf t
theorem rgt_shiftL : ∀ (l : List NT) (d e : Nat), rgtL d l → e + depL l ≤ 32 → rgtL e l
  | [], _, _, _, _ => trivial
  | a :: l, d, e, h, hb => by
    simp only [depL] at hb
    exact ⟨rgt_shift a d e h.1 (by omega), rgt_shiftL l d e h.2 (by omega)⟩
termination_by l => SizeOf.sizeOf l
end
mutual
theorem cnt_szT : ∀ t : NT, cnt t ≤ szT t
  | .mk k n tx ks kids => by
    have := cnt_szL kids
    simp only [cnt, szT]; omega
termination_by t => SizeOf.sizeOf t
theorem cnt_szL : ∀ l : List NT, cntL l ≤ szL l
  | [] => by simp [cntL, szL]
  | a :: l => by
    have h1 := cnt_szT a
    have h2 := cnt_szL l
    simp only [cntL, szL]; omega
termination_by l => SizeOf.sizeOf l
end
mutual
theorem dep_cnt : ∀ t : NT, dep t + 1 ≤ cnt t
  | .mk k n tx ks kids => by
    have := dep_cntL kids
    simp only [dep, cnt]; omega
termination_by t => SizeOf.sizeOf t
theorem dep_cntL : ∀ l : List NT, depL l ≤ cntL l
  | [] => by simp [depL, cntL]
  | a :: l => by
    have h1 := dep_cnt a
    have h2 := dep_cntL l
    simp only [depL, cntL]; omega
termination_by l => SizeOf.sizeOf l
end
end Go.Proofs.YtlaagdpanbineaaDoor
