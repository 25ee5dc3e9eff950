/- A value of JSON in memory: what reads as it, and that it goes on doing so. -/
import Derived.Test.YtnlpdpbmmpeiaaaDoorJg
namespace Go.Proofs.YtnlpdpbmmpeiaaaDoor
open Go.RowKit

/-- a slice of texts -/
def StrAt (ok : Nat → Prop) (w : World) (v : Value) (ks : List (List UInt8)) : Prop :=
  ∃ A c, v = .slice A ks.length c ∧ (ks = [] ∨ ∃ b off, A = some ⟨b, off, none⟩ ∧ ok b ∧ b < w.heap.size ∧ ∀ j, j < ks.length → w.cell? ⟨b, off + j, none⟩ = some (.string ⟨(ks.getD j []).toArray⟩))

def litV (k n : Int) (t : List UInt8) (kv cv : Value) : Value := .agg #[.int .i64 k, .int .i64 n, .string ⟨t.toArray⟩, kv, cv]

/-- a value and all that stands in it, at most h of them in one another; all blocks that it lies in are ok -/
def NIs (ok : Nat → Prop) : Nat → World → NT → Value → Prop
  | 0, _, _, _ => False
  | h + 1, w, .mk k n t ks kids, v => ∃ kv A c, v = litV k n t kv (.slice A kids.length c) ∧ StrAt ok w kv ks ∧
      (kids = [] ∨ ∃ b off, A = some ⟨b, off, none⟩ ∧ ok b ∧ b < w.heap.size ∧ ∀ j (hj : j < kids.length), ∃ c0 c1 c2 c3 c4,
        w.cell? ⟨b, off + 5 * j, none⟩ = some c0 ∧ w.cell? ⟨b, off + 5 * j + 1, none⟩ = some c1 ∧ w.cell? ⟨b, off + 5 * j + 2, none⟩ = some c2 ∧ w.cell? ⟨b, off + 5 * j + 3, none⟩ = some c3 ∧ w.cell? ⟨b, off + 5 * j + 4, none⟩ = some c4 ∧
        NIs ok h w kids[j] (.agg #[c0, c1, c2, c3, c4]))

theorem cell_kept {w w' : World} {b j : Nat} (h : w'.heap[b]? = w.heap[b]?) : w'.cell? ⟨b, j, none⟩ = w.cell? ⟨b, j, none⟩ := World.cell?_of_block h

theorem StrAt.kept {ok ok' : Nat → Prop} {w w' : World} {v : Value} {ks : List (List UInt8)} (h : StrAt ok w v ks) (hs : w.heap.size ≤ w'.heap.size) (hk : ∀ b, ok b → b < w.heap.size → ok' b ∧ w'.heap[b]? = w.heap[b]?) : StrAt ok' w' v ks := by
  obtain ⟨A, c, rfl, h2⟩ := h
  refine ⟨A, c, rfl, ?_⟩
  rcases h2 with h2 | ⟨b, off, hA, ho, hb, hc⟩
  · exact .inl h2
  · obtain ⟨o1, o2⟩ := hk b ho hb
    exact .inr ⟨b, off, hA, o1, by omega, fun j hj => (cell_kept o2).trans (hc j hj)⟩

theorem NIs.kept {ok ok' : Nat → Prop} {w w' : World} (hs : w.heap.size ≤ w'.heap.size) (hk : ∀ b, ok b → b < w.heap.size → ok' b ∧ w'.heap[b]? = w.heap[b]?) : ∀ {h : Nat} {t : NT} {v : Value}, NIs ok h w t v → NIs ok' h w' t v
  | 0, _, _, h => h.elim
  | h + 1, .mk k n t ks kids, v, hN => by
    obtain ⟨kv, A, c, rfl, h1, h2⟩ := hN
    refine ⟨kv, A, c, rfl, h1.kept hs hk, ?_⟩
    rcases h2 with h2 | ⟨b, off, hA, ho, hb, hc⟩
    · exact .inl h2
    · obtain ⟨o1, o2⟩ := hk b ho hb
      refine .inr ⟨b, off, hA, o1, by omega, fun j hj => ?_⟩
      obtain ⟨c0, c1, c2, c3, c4, e0, e1, e2, e3, e4, hN⟩ := hc j hj
      exact ⟨c0, c1, c2, c3, c4, (cell_kept o2).trans e0, (cell_kept o2).trans e1, (cell_kept o2).trans e2, (cell_kept o2).trans e3, (cell_kept o2).trans e4, hN.kept hs hk⟩

theorem NIs.mono {ok : Nat → Prop} {w : World} : ∀ {h h' : Nat} {t : NT} {v : Value}, h ≤ h' → NIs ok h w t v → NIs ok h' w t v
  | 0, _, _, _, _, h => h.elim
  | h + 1, 0, _, _, hh, _ => absurd hh (by omega)
  | h + 1, h' + 1, .mk k n t ks kids, v, hh, hN => by
    obtain ⟨kv, A, c, rfl, h1, h2⟩ := hN
    refine ⟨kv, A, c, rfl, h1, ?_⟩
    rcases h2 with h2 | ⟨b, off, hA, ho, hb, hc⟩
    · exact .inl h2
    · refine .inr ⟨b, off, hA, ho, hb, fun j hj => ?_⟩
      obtain ⟨c0, c1, c2, c3, c4, e0, e1, e2, e3, e4, hN⟩ := hc j hj
      exact ⟨c0, c1, c2, c3, c4, e0, e1, e2, e3, e4, hN.mono (by omega)⟩

theorem NIs.below {ok : Nat → Prop} {w w' : World} {h : Nat} {t : NT} {v : Value} (hN : NIs ok h w t v) (hb : Below w.heap.size w w') : NIs ok h w' t v :=
  hN.kept hb.size (fun b ho hlt => ⟨ho, hb.block b hlt⟩)
theorem NIs.grown {ok : Nat → Prop} {w w' : World} {R : Nat} {h : Nat} {t : NT} {v : Value} (hN : NIs ok h w t v) (hg : w.grownBy w' (some R)) (hR : ∀ b, ok b → b ≠ R) : NIs ok h w' t v :=
  hN.kept hg.size (fun b ho hlt => ⟨ho, hg.block b hlt (fun e => hR b ho (by simpa using e))⟩)

/-- the cells of a row of values -/
structure CIs (ok : Nat → Prop) (h : Nat) (w : World) (kids : List NT) (xs : List Value) : Prop where
  len : xs.length = kids.length * 5
  kid : ∀ j (hj : j < kids.length), NIs ok h w kids[j] (.agg #[xs.getD (5 * j) .nilIface, xs.getD (5 * j + 1) .nilIface, xs.getD (5 * j + 2) .nilIface, xs.getD (5 * j + 3) .nilIface, xs.getD (5 * j + 4) .nilIface])

theorem CIs.kept {ok ok' : Nat → Prop} {h : Nat} {w w' : World} {kids : List NT} {xs : List Value} (hC : CIs ok h w kids xs) (hs : w.heap.size ≤ w'.heap.size) (hk : ∀ b, ok b → b < w.heap.size → ok' b ∧ w'.heap[b]? = w.heap[b]?) : CIs ok' h w' kids xs :=
  ⟨hC.len, fun j hj => (hC.kid j hj).kept hs hk⟩
theorem CIs.nil (ok : Nat → Prop) (h : Nat) (w : World) : CIs ok h w [] [] := ⟨rfl, fun j hj => absurd hj (by simp)⟩
theorem CIs.snoc {ok : Nat → Prop} {h : Nat} {w : World} {kids : List NT} {xs : List Value} (hC : CIs ok h w kids xs) {t : NT} {c0 c1 c2 c3 c4 : Value} (hN : NIs ok h w t (.agg #[c0, c1, c2, c3, c4])) : CIs ok h w (kids ++ [t]) (xs ++ [c0, c1, c2, c3, c4]) := by
  have hl := hC.len
  refine ⟨by simp [hl]; omega, fun j hj => ?_⟩
  have hj2 : j < kids.length + 1 := by simpa using hj
  by_cases hjk : j < kids.length
  · have := hC.kid j hjk
    have e : (kids ++ [t])[j] = kids[j] := by rw [List.getElem_append_left hjk]
    rw [e]
    have g : ∀ i, i < xs.length → (xs ++ [c0, c1, c2, c3, c4]).getD i .nilIface = xs.getD i .nilIface := fun i hi => by
      simp [List.getD, List.getElem?_append_left hi]
    rw [g _ (by omega), g _ (by omega), g _ (by omega), g _ (by omega), g _ (by omega)]
    exact this
  · obtain rfl : j = kids.length := by omega
    have e : (kids ++ [t])[kids.length]'hj = t := by simp
    rw [e]
    have g : ∀ i, (xs ++ [c0, c1, c2, c3, c4]).getD (5 * kids.length + i) .nilIface = [c0, c1, c2, c3, c4].getD i .nilIface := fun i => by
      simp only [List.getD]
      rw [List.getElem?_append_right (by omega)]
      congr 2
      omega
    have g0 := g 0
    rw [Nat.add_zero] at g0
    rw [g0, g, g, g, g]
    exact hN

/-- a value's shape -/
def NdV (v : Value) : Prop := ∃ (k n : Int) (t : List UInt8) (A : Option Addr) (l c : Nat) (A2 : Option Addr) (l2 c2 : Nat), v = .agg #[.int .i64 k, .int .i64 n, .string ⟨t.toArray⟩, .slice A l c, .slice A2 l2 c2]
theorem NIs.nd {ok : Nat → Prop} {h : Nat} {w : World} {t : NT} {v : Value} (hN : NIs ok h w t v) : NdV v := by
  cases h with
  | zero => exact hN.elim
  | succ h =>
    cases t with
    | mk k n t ks kids =>
      obtain ⟨kv, A, c, rfl, ⟨A2, c2, rfl, _⟩, _⟩ := hN
      exact ⟨k, n, t, A2, ks.length, c2, A, kids.length, c, rfl⟩


/-- a row that is owned reads as the values -/
theorem NIs.of_own {ok : Nat → Prop} {h B : Nat} {w : World} {kids : List NT} {xs : List Value} {cv kv : Value} {k n : Int} {t : List UInt8} {ks : List (List UInt8)} (hown : w.ownsRow B 25 5 cv kids.length xs) (hC : CIs ok h w kids xs)
    (hg : ∀ g, cv.ownBlock = some g → ok g) (hk : StrAt ok w kv ks) : NIs ok (h + 1) w (.mk k n t ks kids) (litV k n t kv cv) := by
  rcases hown.2 with ⟨rfl, h0⟩ | ⟨g, cap, cur, rfl, hb, hgg, hn, hc, hs, ht⟩
  · have hz : kids = [] := List.eq_nil_of_length_eq_zero h0
    subst hz
    exact ⟨kv, none, 0, rfl, hk, .inl rfl⟩
  · refine ⟨kv, _, cap, rfl, hk, .inr ⟨g, 0, rfl, hg g rfl, (Array.getElem?_eq_some_iff.1 hgg).1, fun j hj => ?_⟩⟩
    have hl := hC.len
    have hcell : ∀ i, i < 5 → w.cell? ⟨g, 0 + 5 * j + i, none⟩ = some (xs.getD (5 * j + i) .nilIface) := fun i hi => by
      have := hown.cellAt (0 + 5 * j + i) (by omega)
      rw [this, Nat.zero_add]
      have hlt : 5 * j + i < xs.length := by omega
      simp [List.getD, hlt]
    exact ⟨_, _, _, _, _, hcell 0 (by omega), hcell 1 (by omega), hcell 2 (by omega), hcell 3 (by omega), hcell 4 (by omega), hC.kid j hj⟩

end Go.Proofs.YtnlpdpbmmpeiaaaDoor
