/- the capacities of what is handed in: no list of keys is longer than its capacity, however deep. -/
import Derived.Test.YtlaagdpanbineaaGreatDoorLop
namespace Go.Proofs.YtlaagdpanbineaaGreatDoor
open Go.RowKit

/-- a value's keys, and those of all values in it that lie in blocks below N, are no longer than their capacity -/
def KCap (N : Nat) : Nat → World → NT → Value → Prop
  | 0, _, _, _ => True
  | h + 1, w, .mk _ _ _ _ kids, v => ∀ (k n : Int) (tx : ByteArray) (S1 S : Option Addr) (l1 c1 l2 c2 : Nat), v = .agg #[.int .i64 k, .int .i64 n, .string tx, .slice S1 l1 c1, .slice S l2 c2] →
      l1 ≤ c1 ∧ ∀ b off, S = some ⟨b, off, none⟩ → b < N → ∀ j (hj : j < kids.length) (x0 x1 x2 x3 x4 : Value),
        w.cell? ⟨b, off + 5 * j, none⟩ = some x0 → w.cell? ⟨b, off + 5 * j + 1, none⟩ = some x1 → w.cell? ⟨b, off + 5 * j + 2, none⟩ = some x2 → w.cell? ⟨b, off + 5 * j + 3, none⟩ = some x3 → w.cell? ⟨b, off + 5 * j + 4, none⟩ = some x4 →
        KCap N h w kids[j] (.agg #[x0, x1, x2, x3, x4])
theorem KCap.below {N : Nat} {w w' : World} (hb : ∀ b, b < N → w'.heap[b]? = w.heap[b]?) : ∀ {h : Nat} {t : NT} {v : Value}, KCap N h w t v → KCap N h w' t v
  | 0, _, _, _ => trivial
  | h + 1, .mk _ _ _ _ kids, v, hK => by
    intro k n tx S1 S l1 c1 l2 c2 hv
    obtain ⟨h1, h2⟩ := hK k n tx S1 S l1 c1 l2 c2 hv
    refine ⟨h1, fun b off hS hbN j hj x0 x1 x2 x3 x4 e0 e1 e2 e3 e4 => ?_⟩
    have hc : ∀ o, w'.cell? ⟨b, o, none⟩ = w.cell? ⟨b, o, none⟩ := fun o => cell_kept (hb b hbN)
    rw [hc] at e0 e1 e2 e3 e4
    exact KCap.below hb (h2 b off hS hbN j hj x0 x1 x2 x3 x4 e0 e1 e2 e3 e4)
theorem KCap.at {N h : Nat} {w w' : World} {t : NT} {v : Value} (hK : KCap N h w t v) (hN : N ≤ w.heap.size) (hb : Below w.heap.size w w') : KCap N h w' t v :=
  hK.below fun b hb' => hb.block b (by omega)

set_option maxRecDepth 100000 in
theorem caps_of {H : Type} {enc : TypeId × Value → H} {W : World} {held : Bool} {ok : Nat → Prop} : ∀ (fuel : Nat) (cs : List Value) (x : DataW H × List MemPlace), DataW.trod enc Tryz.prog W 0 (fun _ => true) held fuel 26 cs = some x →
    ∀ (h : Nat) (t : NT), NIs ok h W t (.agg cs.toArray) → KCap W.heap.size h W t (.agg cs.toArray) := by
  intro fuel
  induction fuel using Nat.strongRecOn with
  | ind fuel ih =>
  intro cs x hx h t hN
  cases h with
  | zero => exact hN.elim
  | succ h =>
  obtain ⟨kd0, nn0, tx0, ks, kids⟩ := t
  intro k n tx S1 S l1 c1 l2 c2 hv
  obtain rfl : cs = [.int .i64 k, .int .i64 n, .string tx, .slice S1 l1 c1, .slice S l2 c2] := by
    have := congrArg (fun v => v.cells.toList) hv
    simpa [Value.cells] using this
  obtain ⟨kv, A0, c0, hL, _, hk⟩ := hN
  obtain ⟨rfl, rfl⟩ : S = A0 ∧ l2 = kids.length := by
    unfold litV at hL
    simp at hL
    exact ⟨hL.2.2.2.2.1, hL.2.2.2.2.2.1⟩
  clear hv hL
  obtain ⟨xs, m, rfl, _, hcl, hxl, hf⟩ := DataW.trod_struct Tryz.underlying26 hx
  have e22 : Tryz.prog.cellsOf 23 = 1 := by kernel_rfl
  have e23 : Tryz.prog.cellsOf 24 = 1 := by kernel_rfl
  have e25 : Tryz.prog.cellsOf 26 = 5 := by kernel_rfl
  have hxl5 : xs.length = 5 := hxl
  have gx : ∀ i, i < 5 → ∃ y, xs[i]? = some y := fun i hi => ⟨_, List.getElem?_eq_getElem (by omega)⟩
  obtain ⟨y3, h3⟩ := gx 3 (by omega)
  obtain ⟨y4, h4⟩ := gx 4 (by omega)
  have g3 : DataW.trod enc Tryz.prog W 0 (fun _ => true) held m 23 (([.int .i64 k, .int .i64 n, .string tx, .slice S1 l1 c1, .slice S kids.length c2].drop 3).take (Tryz.prog.cellsOf 23)) = some y3 := (hf 3 _ rfl).trans h3
  rw [e22] at g3
  replace g3 : DataW.trod enc Tryz.prog W 0 (fun _ => true) held m 23 [.slice S1 l1 c1] = some y3 := g3
  have g4 : DataW.trod enc Tryz.prog W 0 (fun _ => true) held m 24 (([.int .i64 k, .int .i64 n, .string tx, .slice S1 l1 c1, .slice S kids.length c2].drop 4).take (Tryz.prog.cellsOf 24)) = some y4 := (hf 4 _ rfl).trans h4
  rw [e23] at g4
  replace g4 : DataW.trod enc Tryz.prog W 0 (fun _ => true) held m 24 [.slice S kids.length c2] = some y4 := g4
  refine ⟨?_, ?_⟩
  · rcases DataW.trod_slice Tryz.underlying23 g3 with ⟨hcs, _⟩ | ⟨a, len, cap, elems, rest, n', rfl, hcs, _, hb, hl, _⟩
    · obtain ⟨_, rfl, _⟩ : S1 = none ∧ l1 = 0 ∧ c1 = 0 := by simpa using hcs
      exact Nat.zero_le _
    · obtain ⟨_, rfl, rfl⟩ : S1 = some a ∧ l1 = len ∧ c1 = cap := by simpa using hcs
      exact hl
  · intro b off hS hbN j hj x0 x1 x2 x3 x4 f0 f1 f2 f3 f4
    subst hS
    rcases hk with e | ⟨b', off', hA, _, _, hcs⟩
    · rw [e] at hj; simp at hj
    obtain ⟨rfl, rfl⟩ : b = b' ∧ off = off' := by simpa using hA
    obtain ⟨z0, z1, z2, z3, z4, q0, q1, q2, q3, q4, hNk⟩ := hcs j hj
    obtain rfl : x0 = z0 := Option.some.inj (f0.symm.trans q0)
    obtain rfl : x1 = z1 := Option.some.inj (f1.symm.trans q1)
    obtain rfl : x2 = z2 := Option.some.inj (f2.symm.trans q2)
    obtain rfl : x3 = z3 := Option.some.inj (f3.symm.trans q3)
    obtain rfl : x4 = z4 := Option.some.inj (f4.symm.trans q4)
    rcases DataW.trod_slice Tryz.underlying24 g4 with ⟨hcs2, _⟩ | ⟨a, len, cap, elems, rest, n', hn', hcs2, _, hb, hl, hm, hlen, hel, _⟩
    · simp at hcs2
    · obtain ⟨rfl, rfl, rfl⟩ : (⟨b, off, none⟩ : Addr) = a ∧ kids.length = len ∧ c2 = cap := by simpa using hcs2
      have he := hel j hj
      rw [List.getElem?_eq_getElem (by omega), e25] at he
      obtain ⟨cs', hcs', hy⟩ := Option.bind_eq_some_iff.1 he
      have hl5 : cs'.length = 5 := (World.cells?_some hcs').2.1
      have hcc := (World.cells?_some hcs').2.2
      have hcell : ∀ i v, i < 5 → W.cell? ⟨b, off + 5 * j + i, none⟩ = some v → cs'[i]? = some v := fun i v hi hv => by
        have := hcc i hi
        rw [Go.Deep.add_add, Nat.mul_comm j 5, add_none, ← Nat.add_assoc] at this
        rw [← this]; exact hv
      obtain rfl : cs' = [x0, x1, x2, x3, x4] := by
        apply List.ext_getElem?
        intro i
        by_cases hi : i < 5
        · rcases (show i = 0 ∨ i = 1 ∨ i = 2 ∨ i = 3 ∨ i = 4 by omega) with rfl | rfl | rfl | rfl | rfl
          · rw [hcell 0 _ hi f0]; rfl
          · rw [hcell 1 _ hi f1]; rfl
          · rw [hcell 2 _ hi f2]; rfl
          · rw [hcell 3 _ hi f3]; rfl
          · rw [hcell 4 _ hi f4]; rfl
        · rw [List.getElem?_eq_none (by omega), List.getElem?_eq_none (by simp; omega)]
      exact ih n' (by omega) _ _ hy h kids[j] hNk

end Go.Proofs.YtlaagdpanbineaaGreatDoor
