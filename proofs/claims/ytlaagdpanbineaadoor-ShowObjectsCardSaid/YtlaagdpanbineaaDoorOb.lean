/- show: rows of nodes of the call's own; copies of lists (slices.Clone at keys and at kids). -/
import Derived.Test.YtlaagdpanbineaaDoorOa
import Derived.Test.YtlaagdpanbineaaDoorLop
import Derived.WalkSpells
namespace Go.Proofs.YtlaagdpanbineaaDoor
open Go.RowKit

/-- a row of n nodes in a block of the call's own, cell by cell -/
structure ORow (w : World) (B g n : Nat) (f : Nat → Value) : Prop where
  lo : B ≤ g
  ex : ∃ cur : Array Value, w.heap[g]? = some (.cells cur 25 (0, 0)) ∧ ∀ o, o < 5 * n → cur[o]? = some (f o)
theorem ORow.lt {w : World} {B g n : Nat} {f : Nat → Value} (h : ORow w B g n f) : g < w.heap.size := by
  obtain ⟨cur, h1, _⟩ := h.ex
  exact (Array.getElem?_eq_some_iff.1 h1).1
theorem ORow.cell {w : World} {B g n : Nat} {f : Nat → Value} (h : ORow w B g n f) (o : Nat) (ho : o < 5 * n) : w.cell? ⟨g, o, none⟩ = some (f o) := by
  obtain ⟨cur, h1, h2⟩ := h.ex
  rw [cell_of_row w g o cur 25 _ h1]
  exact h2 o ho
theorem ORow.free {w : World} {B g n : Nat} {f : Nat → Value} (h : ORow w B g n f) (o : Nat) : w.frozen? ⟨g, o, none⟩ = false := by
  obtain ⟨cur, h1, _⟩ := h.ex
  exact frozen_of_row w g o cur 25 h1
theorem ORow.kept {w w' : World} {B g n : Nat} {f : Nat → Value} (h : ORow w B g n f) (hh : w'.heap[g]? = w.heap[g]?) : ORow w' B g n f := by
  obtain ⟨cur, h1, h2⟩ := h.ex
  exact ⟨h.lo, cur, hh.trans h1, h2⟩
theorem ORow.store {w : World} {B g n : Nat} {f : Nat → Value} (h : ORow w B g n f) (o : Nat) (v : Value) : ORow (w.setCell ⟨g, o, none⟩ v) B g n (fun x => if x = o then v else f x) := by
  obtain ⟨cur, h1, h2⟩ := h.ex
  refine ⟨h.lo, cur.setIfInBounds o v, heap_setCell_same w g o cur 25 v h1, fun x hx => ?_⟩
  rw [Array.getElem?_setIfInBounds]
  by_cases e : o = x
  · subst e
    have := h2 o hx
    have hlt := (Array.getElem?_eq_some_iff.1 this).1
    simp [hlt]
  · rw [if_neg e, if_neg (fun e2 => e e2.symm)]
    exact h2 x hx
/-- node k of a row is another one -/
def put5 (f : Nat → Value) (k : Nat) (d0 d1 d2 d3 d4 : Value) : Nat → Value := fun x => if x = k * 5 + 4 then d4 else if x = k * 5 + 3 then d3 else if x = k * 5 + 2 then d2 else if x = k * 5 + 1 then d1 else if x = k * 5 then d0 else f x
theorem ORow.store5 {w : World} {B g n : Nat} {f : Nat → Value} (h : ORow w B g n f) (k : Nat) (d0 d1 d2 d3 d4 : Value) :
    ORow (((((w.setCell ⟨g, k * 5, none⟩ d0).setCell ⟨g, k * 5 + 1, none⟩ d1).setCell ⟨g, k * 5 + 2, none⟩ d2).setCell ⟨g, k * 5 + 3, none⟩ d3).setCell ⟨g, k * 5 + 4, none⟩ d4) B g n (put5 f k d0 d1 d2 d3 d4) :=
  ((((h.store (k * 5) d0).store (k * 5 + 1) d1).store (k * 5 + 2) d2).store (k * 5 + 3) d3).store (k * 5 + 4) d4
/-- node j of a row, as a value -/
def nodeAt (f : Nat → Value) (j : Nat) : Value := .agg #[f (j * 5), f (j * 5 + 1), f (j * 5 + 2), f (j * 5 + 3), f (j * 5 + 4)]
theorem nodeAt_same (f : Nat → Value) (k : Nat) (d0 d1 d2 d3 d4 : Value) : nodeAt (put5 f k d0 d1 d2 d3 d4) k = .agg #[d0, d1, d2, d3, d4] := by
  unfold nodeAt put5
  simp
theorem nodeAt_other (f : Nat → Value) (k j : Nat) (h : j ≠ k) (d0 d1 d2 d3 d4 : Value) : nodeAt (put5 f k d0 d1 d2 d3 d4) j = nodeAt f j := by
  unfold nodeAt put5
  have e : ∀ a b : Nat, a < 5 → b < 5 → ¬ (j * 5 + a = k * 5 + b) := fun a b ha hb => by omega
  have e0 := e 0
  simp only [Nat.add_zero] at e0
  have e1 : ∀ a : Nat, a < 5 → ¬ (j * 5 + a = k * 5) := fun a ha => by omega
  have e2 : ¬ (j * 5 = k * 5) := by omega
  simp [e, e0, e1, e2]
theorem set5_gb {w : World} {g k : Nat} (d0 d1 d2 d3 d4 : Value) : w.grownBy (((((w.setCell ⟨g, k * 5, none⟩ d0).setCell ⟨g, k * 5 + 1, none⟩ d1).setCell ⟨g, k * 5 + 2, none⟩ d2).setCell ⟨g, k * 5 + 3, none⟩ d3).setCell ⟨g, k * 5 + 4, none⟩ d4) (some g) :=
  gb_set (gb_set (gb_set (gb_set (gb_set (gb_refl _ _) _) _) _) _) _

theorem nodeInfo5 : (Tryd.prog.info? 25).map (fun i => (i.zero, i.size, i.bytes)) = some (some (.agg #[.int .i64 0, .int .i64 0, .string ⟨#[]⟩, .slice none 0 0, .slice none 0 0]), 5, 80) := by kernel_rfl

/-- what a copy of kids is -/
def CloneN (ok : Nat → Prop) (h : Nat) (kids : List NT) (wo w : World) (e : Ending) (w' : World) : Prop :=
  ∃ (S : Option Addr) (c : Nat), e = .returned (.slice S kids.length c) ∧ Hid (Below w.heap.size w w') ∧
    Hid (kids = [] ∨ ∃ g f, S = some ⟨g, 0, none⟩ ∧ ORow w' w.heap.size g kids.length f ∧ ∀ j (hj : j < kids.length), NIs ok h wo kids[j] (nodeAt f j))

/-- the cells that kids lie in, one behind the other -/
theorem kids_cells {ok : Nat → Prop} {h : Nat} {w : World} {b off : Nat} {kids : List NT} (hc : ∀ j (hj : j < kids.length), ∃ c0 c1 c2 c3 c4,
      w.cell? ⟨b, off + 5 * j, none⟩ = some c0 ∧ w.cell? ⟨b, off + 5 * j + 1, none⟩ = some c1 ∧ w.cell? ⟨b, off + 5 * j + 2, none⟩ = some c2 ∧ w.cell? ⟨b, off + 5 * j + 3, none⟩ = some c3 ∧ w.cell? ⟨b, off + 5 * j + 4, none⟩ = some c4 ∧ NIs ok h w kids[j] (.agg #[c0, c1, c2, c3, c4])) :
    ∃ F : Nat → Value, (∀ o, o < 5 * kids.length → w.cell? ⟨b, off + o, none⟩ = some (F o) ∧ (F o).oneCell' = true) ∧ ∀ j (hj : j < kids.length), NIs ok h w kids[j] (nodeAt F j) := by
  refine ⟨fun o => (w.cell? ⟨b, off + o, none⟩).getD .nilIface, fun o ho => ?_, fun j hj => ?_⟩
  · obtain ⟨c0, c1, c2, c3, c4, e0, e1, e2, e3, e4, hN⟩ := hc (o / 5) (by omega)
    obtain ⟨k1, n1, x1, A1, l1, m1, B1, l2, m2, hv⟩ := hN.nd
    simp only [Value.agg.injEq, Array.mk.injEq, List.cons.injEq, and_true] at hv
    obtain ⟨rfl, rfl, rfl, rfl, rfl⟩ := hv
    dsimp only
    have hoo : o = 5 * (o / 5) + o % 5 := by omega
    have h5 : o % 5 = 0 ∨ o % 5 = 1 ∨ o % 5 = 2 ∨ o % 5 = 3 ∨ o % 5 = 4 := by omega
    rcases h5 with h5 | h5 | h5 | h5 | h5
    · rw [show off + o = off + 5 * (o / 5) by omega, e0]; exact ⟨rfl, rfl⟩
    · rw [show off + o = off + 5 * (o / 5) + 1 by omega, e1]; exact ⟨rfl, rfl⟩
    · rw [show off + o = off + 5 * (o / 5) + 2 by omega, e2]; exact ⟨rfl, rfl⟩
    · rw [show off + o = off + 5 * (o / 5) + 3 by omega, e3]; exact ⟨rfl, rfl⟩
    · rw [show off + o = off + 5 * (o / 5) + 4 by omega, e4]; exact ⟨rfl, rfl⟩
  · obtain ⟨c0, c1, c2, c3, c4, e0, e1, e2, e3, e4, hN⟩ := hc j hj
    unfold nodeAt
    dsimp only
    rw [show off + j * 5 = off + 5 * j by omega, show off + (j * 5 + 1) = off + 5 * j + 1 by omega, show off + (j * 5 + 2) = off + 5 * j + 2 by omega, show off + (j * 5 + 3) = off + 5 * j + 3 by omega, show off + (j * 5 + 4) = off + 5 * j + 4 by omega, e0, e1, e2, e3, e4]
    exact hN
/-- a row that is owned, cell by cell -/
theorem orow_of {w : World} {B n : Nat} {v : Value} {F : Nat → Value} (h : w.ownsRow B 25 5 v n ((List.range (5 * n)).map F)) (hn : 0 < n) : ∃ g c, v = .slice (some ⟨g, 0, none⟩) n c ∧ ORow w B g n F := by
  rcases h.2 with ⟨_, h0⟩ | ⟨g, cap, cur, rfl, hb, hg, hnc, _, hcs, ht⟩
  · omega
  · refine ⟨g, cap, rfl, hb, cur, hg, fun o ho => ?_⟩
    have h1 : (cur.toList.take (n * 5))[o]? = some (F o) := by rw [ht]; simp [ho]
    rw [List.getElem?_take, if_pos (by omega)] at h1
    simpa using h1

set_option maxRecDepth 100000 in
set_option maxHeartbeats 2000000 in
theorem cloneN_any (ok : Nat → Prop) (h : Nat) (S : Option Addr) (kids : List NT) (c : Nat) (wo w : World) (hK : KidsAt ok h wo S kids) (hbo : Below wo.heap.size wo w) (hn : kids.length ≤ 1000000) :
    Calls Tryd.prog 43 #[.slice S kids.length c] w (CloneN ok h kids wo w) := by
  obtain ⟨i0, hi, hz0, hz1, hz2⟩ := info_parts nodeInfo5
  have q22 : ∀ (w : World) (a : Option Addr) (n c n' c' : Nat), (binOp .eql 23 (.slice a n c) (.slice none n' c')).run Tryd.prog w = .ok (.bool a.isNone) w := fun w a n c n' c' => Lib.run_eql_slice_nil w _ _ a n c n' c' Tryd.underlying23
  by_cases hk0 : kids = []
  · subst hk0
    show Calls _ _ #[.slice S 0 c] _ _
    cases S with
    | none =>
      go_enter Tryd.func43, Tryd.ntmps43
      go_wp2
      go_ret
      exact ⟨none, 0, rfl, Below.refl _ _, .inl rfl⟩
    | some a =>
      go_enter Tryd.func43, Tryd.ntmps43
      go_wp2_with (at_builtin; refine wpList_append_own _ rfl _ _ 23 rfl w.heap.size 25 i0 (.agg #[.int .i64 0, .int .i64 0, .string ⟨#[]⟩, .slice none 0 0, .slice none 0 0]) 5 80 Tryd.underlying23 hi hz0 hz1 hz2 rfl (by decide) _ _ _ rfl (World.ownsRow_made w #[] 0 (Nat.le_refl _) (Nat.zero_le _) rfl) a 0 c [] rfl rfl ?pc2 ?pc3 ?pc4 ?pc5 ?pc6 ?_)
      case pc2 => intro j u hj; simp at hj
      case pc3 => intro u hu; simp at hu
      case pc4 => unfold maxLen; omega
      case pc5 => omega
      case pc6 => simp
      intro v' w1 hown hgrow hnil
      have hS : ∃ S' c', v' = .slice S' 0 c' := by
        rcases hown.2 with ⟨rfl, _⟩ | ⟨g, cap, cur, rfl, _⟩
        · exact ⟨none, 0, rfl⟩
        · exact ⟨_, cap, rfl⟩
      have HB : Hid (Below w.heap.size w w1) := ((Below.refl _ w).alloc (Nat.le_refl _) _).grown hgrow (by simp) (by intro k hk; simp [Value.ownBlock] at hk; omega)
      obtain ⟨S', c', hv⟩ := hS
      rw [hv]
      clear hown hgrow hnil
      go_wp2
      go_ret
      exact ⟨S', c', rfl, HB, .inl rfl⟩
  · have hpos : 0 < kids.length := List.length_pos_iff.2 hk0
    obtain ⟨b, off, rfl, hok, hbl, hc⟩ : ∃ b off, S = some ⟨b, off, none⟩ ∧ ok b ∧ b < wo.heap.size ∧ ∀ j (hj : j < kids.length), ∃ c0 c1 c2 c3 c4,
        wo.cell? ⟨b, off + 5 * j, none⟩ = some c0 ∧ wo.cell? ⟨b, off + 5 * j + 1, none⟩ = some c1 ∧ wo.cell? ⟨b, off + 5 * j + 2, none⟩ = some c2 ∧ wo.cell? ⟨b, off + 5 * j + 3, none⟩ = some c3 ∧ wo.cell? ⟨b, off + 5 * j + 4, none⟩ = some c4 ∧
        NIs ok h wo kids[j] (.agg #[c0, c1, c2, c3, c4]) := by
      rcases hK with e | ⟨b, off, e, h0, h1, h2⟩
      · exact absurd e hk0
      · exact ⟨b, off, e, h0, h1, h2⟩
    obtain ⟨F, hF, hNF⟩ := kids_cells hc
    have HF : Hid (∀ o, o < 5 * kids.length → w.cell? ⟨b, off + o, none⟩ = some (F o) ∧ (F o).oneCell' = true) := fun o ho => ⟨(hbo.cell (p := ⟨b, off + o, none⟩) hbl).trans (hF o ho).1, (hF o ho).2⟩
    have HNF := Lib.hid hNF
    clear hF hNF hc hK hk0 hbo
    go_enter Tryd.func43, Tryd.ntmps43
    go_wp2_with (at_builtin; refine wpList_append_own _ rfl _ _ 23 rfl w.heap.size 25 i0 (.agg #[.int .i64 0, .int .i64 0, .string ⟨#[]⟩, .slice none 0 0, .slice none 0 0]) 5 80 Tryd.underlying23 hi hz0 hz1 hz2 rfl (by decide) _ _ _ rfl (World.ownsRow_made w #[] 0 (Nat.le_refl _) (Nat.zero_le _) rfl) ⟨b, off, none⟩ kids.length c ((List.range (5 * kids.length)).map F) rfl ?pc1 ?pc2 ?pc3 ?pc4 ?pc5 ?pc6 ?_)
    case pc1 => simp; omega
    case pc2 =>
      intro j u hj
      have hjn : j < 5 * kids.length := by
        have := (List.getElem?_eq_some_iff.1 hj).1
        simpa using this
      rw [Addr.add_lit]
      refine Lib.cell?_alloc_some _ ?_
      rw [(HF.out j hjn).1]
      simpa [hjn] using hj
    case pc3 =>
      intro u hu
      obtain ⟨o, ho, rfl⟩ := List.mem_map.1 hu
      exact (HF.out o (List.mem_range.1 ho)).2
    case pc4 => unfold maxLen; omega
    case pc5 => omega
    case pc6 => simp
    intro v' w1 hown hgrow hnil
    have HB : Hid (Below w.heap.size w w1) := ((Below.refl _ w).alloc (Nat.le_refl _) _).grown hgrow (by simp) (by intro k hk; simp [Value.ownBlock] at hk; omega)
    obtain ⟨g, c', hv, hR⟩ := orow_of hown hpos
    have HR := Lib.hid hR
    rw [hv]
    clear hown hgrow hnil hR
    go_wp2
    go_ret
    exact ⟨_, c', rfl, HB, .inr ⟨g, F, rfl, HR.out, HNF.out⟩⟩

/-- a copy of keys -/
def CloneK (ks : List (List UInt8)) (w : World) (e : Ending) (w' : World) : Prop :=
  ∃ (S : Option Addr) (c : Nat), e = .returned (.slice S ks.length c) ∧ Hid (Below w.heap.size w w') ∧ Hid (StrAt (fun b => w.heap.size ≤ b) w' (.slice S ks.length c) ks)
set_option maxRecDepth 100000 in
set_option maxHeartbeats 2000000 in
theorem cloneK_any (ok : Nat → Prop) (S : Option Addr) (ks : List (List UInt8)) (c : Nat) (w : World) (hK : StrAt ok w (.slice S ks.length c) ks) (hn : ks.length ≤ 1000000) :
    Calls Tryd.prog 42 #[.slice S ks.length c] w (CloneK ks w) := by
  obtain ⟨A, c0, he, hc⟩ := hK
  obtain ⟨rfl, rfl⟩ : S = A ∧ c = c0 := by simpa using he
  clear he
  obtain ⟨i0, hi, hz0, hz1, hz2⟩ := info_parts (show (Tryd.prog.info? 9).map (fun i => (i.zero, i.size, i.bytes)) = some (some (.string ⟨#[]⟩), 1, 16) by kernel_rfl)
  have q22 : ∀ (w : World) (a : Option Addr) (n c n' c' : Nat), (binOp .eql 22 (.slice a n c) (.slice none n' c')).run Tryd.prog w = .ok (.bool a.isNone) w := fun w a n c n' c' => Lib.run_eql_slice_nil w _ _ a n c n' c' Tryd.underlying22
  by_cases hk0 : ks = []
  · subst hk0
    show Calls _ _ #[.slice S 0 c] _ _
    cases S with
    | none =>
      go_enter Tryd.func42, Tryd.ntmps42
      go_wp2
      go_ret
      exact ⟨none, 0, rfl, Below.refl _ _, ⟨none, 0, rfl, .inl rfl⟩⟩
    | some a =>
      go_enter Tryd.func42, Tryd.ntmps42
      go_wp2_with (at_builtin; refine wpList_append_own _ rfl _ _ 22 rfl w.heap.size 9 i0 (.string ⟨#[]⟩) 1 16 Tryd.underlying22 hi hz0 hz1 hz2 rfl (by decide) _ _ _ rfl (World.ownsRow_made w #[] 0 (Nat.le_refl _) (Nat.zero_le _) rfl) a 0 c [] rfl rfl ?pc2 ?pc3 ?pc4 ?pc5 ?pc6 ?_)
      intro v' w1 hown hgrow hnil
      have hS : ∃ S' c', v' = .slice S' 0 c' := by
        rcases hown.2 with ⟨rfl, _⟩ | ⟨g, cap, cur, rfl, _⟩
        · exact ⟨none, 0, rfl⟩
        · exact ⟨_, cap, rfl⟩
      have HB : Hid (Below w.heap.size w w1) := ((Below.refl _ w).alloc (Nat.le_refl _) _).grown hgrow (by simp) (by intro k hk; simp [Value.ownBlock] at hk; omega)
      obtain ⟨S', c', hv⟩ := hS
      rw [hv]
      clear hown hgrow hnil
      go_wp2
      go_ret
      exact ⟨S', c', rfl, HB, ⟨S', c', rfl, .inl rfl⟩⟩
  · obtain ⟨b, off, rfl, hok, hbl, hcs⟩ : ∃ b off, S = some ⟨b, off, none⟩ ∧ ok b ∧ b < w.heap.size ∧ ∀ j, j < ks.length → w.cell? ⟨b, off + j, none⟩ = some (.string ⟨(ks.getD j []).toArray⟩) := by
      rcases hc with e | ⟨b, off, e, h0, h1, h2⟩
      · exact absurd e hk0
      · exact ⟨b, off, e, h0, h1, h2⟩
    have HF := Lib.hid hcs
    clear hcs hc
    go_enter Tryd.func42, Tryd.ntmps42
    go_wp2_with (at_builtin; refine wpList_append_own _ rfl _ _ 22 rfl w.heap.size 9 i0 (.string ⟨#[]⟩) 1 16 Tryd.underlying22 hi hz0 hz1 hz2 rfl (by decide) _ _ _ rfl (World.ownsRow_made w #[] 0 (Nat.le_refl _) (Nat.zero_le _) rfl) ⟨b, off, none⟩ ks.length c (ks.map fun x => Value.string ⟨x.toArray⟩) rfl ?qc1 ?qc2 ?qc3 ?qc4 ?qc5 ?qc6 ?_)
    case qc1 => simp
    case qc2 =>
      intro j u hj
      have hjn : j < ks.length := by
        have := (List.getElem?_eq_some_iff.1 hj).1
        simpa using this
      rw [Addr.add_lit]
      refine Lib.cell?_alloc_some _ ?_
      rw [HF.out j hjn]
      rw [← hj]
      simp [List.getD, hjn]
    case qc3 =>
      intro u hu
      obtain ⟨o, ho, rfl⟩ := List.mem_map.1 hu
      rfl
    case qc4 => unfold maxLen; omega
    case qc5 => omega
    case qc6 => simp
    intro v' w1 hown hgrow hnil
    have HB : Hid (Below w.heap.size w w1) := ((Below.refl _ w).alloc (Nat.le_refl _) _).grown hgrow (by simp) (by intro k hk; simp [Value.ownBlock] at hk; omega)
    have hpos : 0 < ks.length := List.length_pos_iff.2 hk0
    have hS : ∃ g c', v' = .slice (some ⟨g, 0, none⟩) ks.length c' ∧ w.heap.size ≤ g ∧ g < w1.heap.size ∧ ∀ j, j < ks.length → w1.cell? ⟨g, 0 + j, none⟩ = some (.string ⟨(ks.getD j []).toArray⟩) := by
      rcases hown.2 with ⟨_, h0⟩ | ⟨g, cap, cur, rfl, hlo, hgg, _⟩
      · omega
      · refine ⟨g, cap, rfl, hlo, (Array.getElem?_eq_some_iff.1 hgg).1, fun j hj => ?_⟩
        rw [Nat.zero_add, hown.cellAt j (by omega)]
        simp [List.getD, hj]
    obtain ⟨g, c', hv, h1, h2, h3⟩ := hS
    have HS : Hid (StrAt (fun b => w.heap.size ≤ b) w1 (.slice (some ⟨g, 0, none⟩) ks.length c') ks) := ⟨_, c', rfl, .inr ⟨g, 0, rfl, h1, h2, h3⟩⟩
    rw [hv]
    clear hown hgrow hnil h1 h2 h3
    go_wp2
    go_ret
    exact ⟨_, c', rfl, HB, HS⟩

end Go.Proofs.YtlaagdpanbineaaDoor
