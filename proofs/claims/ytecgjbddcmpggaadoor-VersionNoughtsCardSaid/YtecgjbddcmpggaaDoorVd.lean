/- The chapter's examples (alive), in any world. -/
import Derived.Test.YtecgjbddcmpggaaDoorVb
import Derived.Test.YtecgjbddcmpggaaDoorVn
namespace Go.Proofs.YtecgjbddcmpggaaDoor
open Go.RowKit Go.Shelf

def aS : List (List UInt8) := [[49, 46, 48, 100, 101, 118], [49, 46, 48, 97, 49], [49, 46, 48], [49, 46, 48, 112, 111, 115, 116], [49, 46, 49]]
def aV : List Ver := [(0, [[(1, [])], [(0, []), (0, [100, 101, 118])]], []), (0, [[(1, [])], [(0, []), (0, [97]), (1, [])]], []), (0, [[(1, [])], [(0, [])]], []), (0, [[(1, [])], [(0, []), (0, [112, 111, 115, 116])]], []), (0, [[(1, [])], [(1, [])]], [])]
theorem aP : ∀ j, j < 5 → parseL (aS.getD j []) = some (aV.getD j zV)
  | 0, _ => by rfl
  | 1, _ => by rfl
  | 2, _ => by rfl
  | 3, _ => by rfl
  | 4, _ => by rfl
theorem aC : ∀ j, j < 4 → verC (aV.getD j zV) (aV.getD (j + 1) zV) = -1
  | 0, _ => by rfl
  | 1, _ => by rfl
  | 2, _ => by rfl
  | 3, _ => by rfl
theorem aL : aV.length = 5 := rfl
theorem aN : newAt aV 5 = 4 := by rfl
theorem aA : parseL [49, 46, 49, 48, 46, 51] = some (0, [[(1, [])], [(10, [])], [(3, [])]], []) := by rfl
theorem aB : parseL [49, 46, 49] = some (0, [[(1, [])], [(1, [])]], []) := by rfl
theorem aG : begC (0, [[(1, [])], [(10, [])], [(3, [])]], []) (0, [[(1, [])], [(1, [])]], []) = false := by rfl

/-- Parse of a text that is a version -/
theorem parse_ok (s : ByteArray) (m : Int) (T : TypeId) (pv : Value) (w : World) (hs : s.size ≤ maxLen) (hm : w.cell? ⟨1, 0, none⟩ = some (.int .i64 m)) (hE : w.cell? ⟨0, 0, none⟩ = some (.iface T pv)) {x : Ver} (hx : parseL s.data.toList = some x) :
    Calls Tryd.prog 8 #[.string s] w fun e w' => (∃ v, e = .returned (.tuple #[v, .nilIface]) ∧ VerB w' v x) ∧ Below w.heap.size w w' := by
  refine (parse_any s m T pv w hs hm hE).mono ?_
  rintro e w' ⟨⟨v, y, rfl, h⟩, hb⟩
  rcases h with ⟨rfl, z, hz, hv⟩ | ⟨_, hz, _⟩
  · rw [hx] at hz
    cases hz
    exact ⟨⟨v, rfl, hv⟩, hb⟩
  · rw [hx] at hz
    cases hz
theorem parse_no (s : ByteArray) (m : Int) (T : TypeId) (pv : Value) (w : World) (hs : s.size ≤ maxLen) (hm : w.cell? ⟨1, 0, none⟩ = some (.int .i64 m)) (hE : w.cell? ⟨0, 0, none⟩ = some (.iface T pv)) (hx : parseL s.data.toList = none) :
    Calls Tryd.prog 8 #[.string s] w fun e w' => e = .returned (.tuple #[zeroV, .iface T pv]) ∧ Below w.heap.size w w' := by
  refine (parse_any s m T pv w hs hm hE).mono ?_
  rintro e w' ⟨⟨v, y, rfl, h⟩, hb⟩
  rcases h with ⟨rfl, z, hz, hv⟩ | ⟨rfl, hz, rfl⟩
  · rw [hx] at hz
    cases hz
  · exact ⟨rfl, hb⟩

/-! ### rows of versions -/
theorem verInfo : (Tryd.prog.info? 25).map (fun i => (i.zero, i.size, i.bytes)) = some (some zeroV, 3, 56) := by kernel_rfl
def VersIn (w : World) (cs : List Value) (l : List Ver) : Prop :=
  cs.length = l.length * 3 ∧ ∀ j, j < l.length → ∃ p q, cs[j * 3]? = some (.int .i64 (l.getD j zV).1) ∧ cs[j * 3 + 1]? = some p ∧ cs[j * 3 + 2]? = some q ∧ RowB w p (l.getD j zV).2.1 ∧ RowB w q (l.getD j zV).2.2
theorem VersIn.below {w w' : World} {cs : List Value} {l : List Ver} (h : VersIn w cs l) (hb : Below w.heap.size w w') : VersIn w' cs l :=
  ⟨h.1, fun j hj => by
    obtain ⟨p, q, h1, h2, h3, h4, h5⟩ := h.2 j hj
    exact ⟨p, q, h1, h2, h3, h4.below hb, h5.below hb⟩⟩
theorem RowB.grown {w w' : World} {v u : Value} {r : Row} {B n : Nat} {xs : List Value} (h : RowB w u r) (ho : w.ownsRow B 25 3 v n xs) (hg : w.grownBy w' v.ownBlock) : RowB w' u r := by
  rcases ho.2 with ⟨rfl, h0⟩ | ⟨g, cap, cur2, rfl, _, h2, _⟩
  · have hg2 : w.grownBy w' none := hg
    exact h.below ⟨hg2.os, hg2.tape, hg2.output, hg2.size, fun k hk => hg2.block k hk (by simp)⟩
  · exact h.other h2 (by decide) (by decide) hg
theorem VersIn.grown {w w' : World} {v : Value} {cs xs : List Value} {l : List Ver} {B n : Nat} (h : VersIn w cs l) (ho : w.ownsRow B 25 3 v n xs) (hg : w.grownBy w' v.ownBlock) : VersIn w' cs l :=
  ⟨h.1, fun j hj => by
    obtain ⟨p, q, h1, h2, h3, h4, h5⟩ := h.2 j hj
    exact ⟨p, q, h1, h2, h3, h4.grown ho hg, h5.grown ho hg⟩⟩
theorem VersIn.snoc {w : World} {cs : List Value} {l : List Ver} {x : Ver} {p q : Value} (h : VersIn w cs l) (hp : RowB w p x.2.1) (hq : RowB w q x.2.2) : VersIn w (cs ++ [.int .i64 x.1, p, q]) (l ++ [x]) := by
  refine ⟨by rw [List.length_append, List.length_append, h.1]; simp; omega, fun j hj => ?_⟩
  rw [List.length_append, List.length_singleton] at hj
  by_cases hl : j < l.length
  · obtain ⟨p', q', h1, h2, h3, h4, h5⟩ := h.2 j hl
    have e : (l ++ [x]).getD j zV = l.getD j zV := by simp [List.getD_eq_getElem?_getD, List.getElem?_append_left hl]
    have hc := h.1
    rw [e]
    exact ⟨p', q', by rw [List.getElem?_append_left (by omega)]; exact h1, by rw [List.getElem?_append_left (by omega)]; exact h2, by rw [List.getElem?_append_left (by omega)]; exact h3, h4, h5⟩
  · obtain rfl : j = l.length := by omega
    have e : (l ++ [x]).getD l.length zV = x := by simp [List.getD_eq_getElem?_getD]
    have hc := h.1
    rw [e]
    refine ⟨p, q, ?_, ?_, ?_, hp, hq⟩
    · rw [List.getElem?_append_right (by omega), hc]; simp
    · rw [List.getElem?_append_right (by omega), hc]; simp
    · rw [List.getElem?_append_right (by omega), hc]; simp
theorem own_vers {w : World} {B : Nat} {v : Value} {cs : List Value} {l : List Ver} (h : w.ownsRow B 25 3 v l.length cs) (hi : VersIn w cs l) : VersAt w v l := by
  rcases h.2 with ⟨rfl, h0⟩ | ⟨g, cap, cur, rfl, hb, hg, hn, hc, hs2, ht⟩
  · have : l = [] := List.eq_nil_of_length_eq_zero h0
    subst this
    exact ⟨none, 0, rfl, Nat.le_refl _, Nat.zero_le _, .inl rfl⟩
  · refine ⟨_, cap, rfl, hn, hc, ?_⟩
    by_cases h0 : l = []
    · exact .inl h0
    · refine .inr ⟨g, 0, rfl, fun j hj => ?_⟩
      obtain ⟨p, q, h1, h2, h3, h4, h5⟩ := hi.2 j hj
      simp only [Nat.zero_add]
      exact ⟨p, q, by rw [h.cellAt _ (by omega), h1], by rw [h.cellAt _ (by omega), h2], by rw [h.cellAt _ (by omega), h3], h4.row, h5.row⟩

end Go.Proofs.YtecgjbddcmpggaaDoor
