/- A text's version read (package version), in any world. -/
import Derived.Test.YtecgjbddcmpggaaDoorVt
import Derived.Test.YtecgjbddcmpggaaDoorVa
import Derived.Test.YtecgjbddcmpggaaDoorVk
namespace Go.Proofs.YtecgjbddcmpggaaDoor
open Go.RowKit Go.Shelf

/-! ### strings.Cut at a byte -/
theorem cut_one (c : UInt8) : ∀ s : List UInt8, Lib.cut s [c] = match cutL c s with
    | some (x, y) => (x, y, true)
    | none => (s, [], false)
  | [] => by unfold Lib.cut cutL; simp [Lib.index]
  | b :: l => by
    have ih := cut_one c l
    by_cases h : b = c
    · subst h
      have hix : Lib.index (b :: l) [b] = 0 := by rw [Lib.index]; simp [List.isPrefixOf]
      unfold Lib.cut cutL
      rw [hix]
      simp
    · have hp : ([c] : List UInt8).isPrefixOf (b :: l) = false := by simp [List.isPrefixOf, Ne.symm h]
      have hbc : (b != c) = true := by simpa using h
      by_cases hm : c ∈ l
      · have e1 : cutL c l = some (l.takeWhile (· != c), (l.dropWhile (· != c)).drop 1) := if_pos hm
        have e2 : cutL c (b :: l) = some (b :: l.takeWhile (· != c), (l.dropWhile (· != c)).drop 1) := by
          unfold cutL
          rw [if_pos (List.mem_cons_of_mem _ hm), List.takeWhile_cons, List.dropWhile_cons, hbc]
          rfl
        rw [e1] at ih
        rw [e2]
        simp only [] at ih ⊢
        unfold Lib.cut at ih ⊢
        by_cases hi : 0 ≤ Lib.index l [c]
        · rw [if_pos hi] at ih
          have hne : (Lib.index l [c] == -1) = false := by rw [beq_eq_false_iff_ne]; omega
          have hix : Lib.index (b :: l) [c] = Lib.index l [c] + 1 := by rw [Lib.index, hp, hne]; rfl
          rw [hix, if_pos (by omega)]
          have e3 : (Lib.index l [c] + 1).toNat = (Lib.index l [c]).toNat + 1 := by omega
          rw [e3]
          simp only [Prod.mk.injEq, List.take_succ_cons, List.length_singleton] at ih ⊢
          refine ⟨by rw [ih.1], ?_, trivial⟩
          rw [← ih.2.1]
          rfl
        · rw [if_neg hi] at ih
          simp at ih
      · have e1 : cutL c l = none := if_neg hm
        have e2 : cutL c (b :: l) = none := by
          unfold cutL
          rw [if_neg]
          intro h2
          rcases List.mem_cons.1 h2 with h3 | h3
          · exact h h3.symm
          · exact hm h3
        rw [e1] at ih
        rw [e2]
        simp only [] at ih ⊢
        unfold Lib.cut at ih ⊢
        by_cases hi : 0 ≤ Lib.index l [c]
        · rw [if_pos hi] at ih
          simp at ih
        · have hneg : Lib.index l [c] = -1 := by have := Lib.index_ge l [c]; omega
          have hix : Lib.index (b :: l) [c] = -1 := by rw [Lib.index, hp, hneg]; rfl
          rw [hix, if_neg (by decide)]
theorem cut_some (c : UInt8) (s : ByteArray) (m : Int) (w : World) (hs : s.size ≤ 100000) (hm : w.cell? ⟨1, 0, none⟩ = some (.int .i64 m)) {x y : List UInt8} (h : cutL c s.data.toList = some (x, y)) :
    Calls Tryd.prog 34 #[.string s, .string ⟨#[c]⟩] w fun e w' => e = .returned (.tuple #[.string (bs x), .string (bs y), .bool true]) ∧ ∃ n, w' = w.drewN n := by
  have q := Tryd.strings_Cut s ⟨#[c]⟩ m w (by omega) hm
  have e := cut_one c s.data.toList
  rw [h] at e
  have e2 : Lib.cut s.data.toList (⟨#[c]⟩ : ByteArray).data.toList = Lib.cut s.data.toList [c] := rfl
  rw [e2, e] at q
  exact q
theorem cut_none (c : UInt8) (s : ByteArray) (m : Int) (w : World) (hs : s.size ≤ 100000) (hm : w.cell? ⟨1, 0, none⟩ = some (.int .i64 m)) (h : cutL c s.data.toList = none) :
    Calls Tryd.prog 34 #[.string s, .string ⟨#[c]⟩] w fun e w' => e = .returned (.tuple #[.string s, .string ⟨#[]⟩, .bool false]) ∧ ∃ n, w' = w.drewN n := by
  have q := Tryd.strings_Cut s ⟨#[c]⟩ m w (by omega) hm
  have e := cut_one c s.data.toList
  rw [h] at e
  have e2 : Lib.cut s.data.toList (⟨#[c]⟩ : ByteArray).data.toList = Lib.cut s.data.toList [c] := rfl
  rw [e2, e] at q
  exact q
theorem drop_ne (c : UInt8) : ∀ s : List UInt8, c ∈ s → 0 < (s.dropWhile (· != c)).length
  | [], h => by cases h
  | b :: l, h => by
    rw [List.dropWhile_cons]
    by_cases hb : b = c
    · subst hb; simp
    · have hbc : (b != c) = true := by simpa using hb
      rw [hbc]
      rcases List.mem_cons.1 h with h2 | h2
      · exact absurd h2.symm hb
      · exact drop_ne c l h2
theorem cutL_len {c : UInt8} {s x y : List UInt8} (h : cutL c s = some (x, y)) : x.length + y.length + 1 = s.length := by
  unfold cutL at h
  split at h
  · rename_i hm
    simp only [Option.some.injEq, Prod.mk.injEq] at h
    obtain ⟨rfl, rfl⟩ := h
    have h1 : (s.takeWhile (· != c)).length + (s.dropWhile (· != c)).length = s.length := by
      rw [← List.length_append, List.takeWhile_append_dropWhile]
    have h2 := drop_ne c s hm
    rw [List.length_drop]
    omega
  · cases h

/-! ### a version in a variable of the call's own -/
def BlkV (w : World) (b : Nat) (n : Int) (p l : Value) : Prop := w.heap[b]? = some (.cells #[.int .i64 n, p, l] 25 (0, 0))
theorem BlkV.cell {w : World} {b : Nat} {n : Int} {p l : Value} (h : BlkV w b n p l) (j : Nat) : w.cell? ⟨b, j, none⟩ = (#[.int .i64 n, p, l] : Array Value)[j]? := cell_of_row w b j _ _ _ h
theorem BlkV.fz {w : World} {b : Nat} {n : Int} {p l : Value} (h : BlkV w b n p l) (j : Nat) : w.frozen? ⟨b, j, none⟩ = false := by
  simp only [World.frozen?, show w.heap[b]? = _ from h]
  simp
theorem BlkV.below {w w' : World} {b : Nat} {n : Int} {p l : Value} (h : BlkV w b n p l) (hb : Below w.heap.size w w') : BlkV w' b n p l :=
  (hb.block b (Array.getElem?_eq_some_iff.1 h).1).trans h
theorem BlkV.drewN {w : World} {b : Nat} {n : Int} {p l : Value} (h : BlkV w b n p l) (k : Nat) : BlkV (w.drewN k) b n p l := h
theorem BlkV.set0 {w : World} {b : Nat} {n : Int} {p l : Value} (h : BlkV w b n p l) (k : Int) : BlkV (w.setCell ⟨b, 0, none⟩ (.int .i64 k)) b k p l := by
  unfold BlkV at *
  simp [World.setCell, Array.getElem?_modify, h]
theorem BlkV.set1 {w : World} {b : Nat} {n : Int} {p l : Value} (h : BlkV w b n p l) (k : Value) : BlkV (w.setCell ⟨b, 1, none⟩ k) b n k l := by
  unfold BlkV at *
  simp [World.setCell, Array.getElem?_modify, h]
theorem BlkV.set2 {w : World} {b : Nat} {n : Int} {p l : Value} (h : BlkV w b n p l) (k : Value) : BlkV (w.setCell ⟨b, 2, none⟩ k) b n p k := by
  unfold BlkV at *
  simp [World.setCell, Array.getElem?_modify, h]
theorem BlkV.far {w : World} {b c j : Nat} {n : Int} {p l : Value} (h : BlkV w b n p l) (hc : c ≠ b) (v : Value) : BlkV (w.setCell ⟨c, j, none⟩ v) b n p l := by
  unfold BlkV at *
  simp [World.setCell, Array.getElem?_modify, h, hc]
theorem BlkV.lt {w : World} {b : Nat} {n : Int} {p l : Value} (h : BlkV w b n p l) : b < w.heap.size := (Array.getElem?_eq_some_iff.1 h).1
theorem BlkV.new (w : World) (n : Int) (p l : Value) : BlkV (w.alloc (.cells #[.int .i64 n, p, l] 25)) w.heap.size n p l := heap_alloc_new w _
theorem gb_set (w : World) (b j : Nat) (v : Value) : w.grownBy (w.setCell ⟨b, j, none⟩ v) (some b) :=
  ⟨rfl, rfl, rfl, by simp [World.setCell], fun k _ hr => by
    simp only [World.setCell]
    rw [Array.getElem?_modify]
    rw [if_neg (fun e => hr (by rw [e]))]⟩
theorem RowB.set {w : World} {v : Value} {r : Row} {b j : Nat} {n : Int} {p l : Value} (h : RowB w v r) (hb : BlkV w b n p l) (u : Value) : RowB (w.setCell ⟨b, j, none⟩ u) v r :=
  h.other hb (by decide) (by decide) (gb_set w b j u)
theorem RowB.drewN {w : World} {v : Value} {r : Row} (h : RowB w v r) (k : Nat) : RowB (w.drewN k) v r := h.below ⟨rfl, rfl, rfl, Nat.le_refl _, fun _ _ => rfl⟩
/-- a version whose blocks are rows -/
def VerB (w : World) (v : Value) (x : Ver) : Prop := ∃ vp vl, v = .agg #[.int .i64 x.1, vp, vl] ∧ RowB w vp x.2.1 ∧ RowB w vl x.2.2
theorem VerB.ver {w : World} {v : Value} {x : Ver} (h : VerB w v x) : VerAt w v x := by
  obtain ⟨vp, vl, e, h1, h2⟩ := h
  exact ⟨vp, vl, e, h1.row, h2.row⟩
def zeroV : Value := .agg #[.int .i64 0, .slice none 0 0, .slice none 0 0]
/-- what read answers -/
def ReadPost (w : World) (o : Option Ver) (e : Ending) (w' : World) : Prop :=
  (∃ v b, e = .returned (.tuple #[v, .bool b]) ∧ ((b = true ∧ ∃ x, o = some x ∧ VerB w' v x) ∨ (b = false ∧ o = none ∧ v = zeroV))) ∧ Below w.heap.size w w'


set_option maxRecDepth 100000 in
set_option maxHeartbeats 3000000 in
theorem read_any (s : ByteArray) (m : Int) (w : World) (hs : s.size ≤ 50000) (hm : w.cell? ⟨1, 0, none⟩ = some (.int .i64 m)) : Calls Tryd.prog 16 #[.string s] w (ReadPost w (verL s.data.toList)) := by
  obtain ⟨X, HX⟩ : ∃ X, Hid (verL s.data.toList = X) := ⟨_, rfl⟩
  rw [HX.out]
  have HP : Hid (∀ e w', (∃ v b, e = .returned (.tuple #[v, .bool b]) ∧ ((b = true ∧ ∃ x, X = some x ∧ VerB w' v x) ∨ (b = false ∧ X = none ∧ v = zeroV))) ∧ Below w.heap.size w w' → ReadPost w X e w') := fun e w' h => h
  have HM := Lib.hid hm
  clear hm
  go_enter Tryd.func16, Tryd.ntmps16
  go_wp2_with fail
  refine calls_gen (fun w1 => Hid (Below w.heap.size w w1) ∧ Hid (BlkV w1 w.heap.size 0 (.slice none 0 0) (.slice none 0 0)) ∧ Hid (BlkV w1 (w.heap.size + 1) 0 (.slice none 0 0) (.slice none 0 0)))
    ⟨(below_alloc _ _).trans ((below_alloc _ _).mono (by simp)), (BlkV.new _ _ _ _).below (below_alloc _ _), Lib.hid (by simpa using BlkV.new (w.alloc (.cells #[.int .i64 0, .slice none 0 0, .slice none 0 0] 25)) 0 (.slice none 0 0) (.slice none 0 0))⟩ ?_
  intro w1 ⟨HB, HR, HV⟩
  have HM1 := Lib.hid (maxAt HM.out HB.out)
  cases hb : cutL 33 s.data.toList with
  | none =>
    have HT0 : Hid (tailL 0 s.data.toList = X) := by
      have h := HX.out
      unfold verL at h
      rw [hb] at h
      exact h
    refine (cut_none 33 s m w1 (by omega) HM1.out hb).mono ?_
    rintro e _ ⟨rfl, n1, rfl⟩
    clear hb HX
    go_wp2_with fail
    refine calls_gen (fun w4 => Hid (Below w.heap.size w w4) ∧ Hid (BlkV w4 w.heap.size 0 (.slice none 0 0) (.slice none 0 0)) ∧ Hid (BlkV w4 (w.heap.size + 1) 0 (.slice none 0 0) (.slice none 0 0)) ∧ Hid (w4.cell? ⟨1, 0, none⟩ = some (.int .i64 m))) ⟨below_dr HB.out _, HR.out.drewN _, HV.out.drewN _, HM1.out⟩ ?_
    intro w4 ⟨HB4, HR4, HV4, HM4⟩
    clear HB HR HV HM1
    have HT := HT0
    have htz := hs
    clear HT0
    cases hc : cutL 43 s.data.toList with
    | none =>
      have HX2 : Hid ((rowL [] s.data.toList).map (fun a => (0, a, [])) = X) := by
        have h := HT.out
        unfold tailL at h
        rw [hc] at h
        exact h
      refine (cut_none 43 s m w4 (by omega) HM4.out hc).mono ?_
      rintro e _ ⟨rfl, n2, rfl⟩
      have q := row_any s m (w4.drewN n2) htz HM4.out
      clear hc HT
      go_wp2_with fail
      refine q.mono ?_
      rintro e w5 ⟨⟨v, b, rfl, hx⟩, h5⟩
      have HB5 := Lib.hid (HB4.out.trans ((below_dn h5).mono HB4.out.size))
      have HR5 := Lib.hid (HR4.out.below (below_dn h5))
      have HV5 := Lib.hid (HV4.out.below (below_dn h5))
      clear h5 q
      have v0 := HV5.out.cell 0
      have v1 := HV5.out.cell 1
      have v2 := HV5.out.cell 2
      have fv := HV5.out.fz
      have r0 := HR5.out.cell 0
      have r1 := HR5.out.cell 1
      have r2 := HR5.out.cell 2
      have fr := HR5.out.fz
      simp only [List.getElem?_toArray, List.getElem?_cons_zero, List.getElem?_cons_succ] at v0 v1 v2 r0 r1 r2
      rcases hx with ⟨rfl, r, hr, hrow⟩ | ⟨rfl, hr, rfl⟩
      · have HXX : Hid (X = some (0, r, [])) := by
          have h := HX2.out
          rw [hr] at h
          exact h.symm
        obtain ⟨ao, cap, rfl, _, _⟩ := hrow.row.sl
        have HW := Lib.hid hrow
        clear hrow hr HX2
        generalize r.length = ln at *
        go_wp2
        refine bp_gen (fun w9 => Hid (BlkV w9 w.heap.size 0 (.slice ao ln cap) (.slice none 0 0)) ∧ Hid (VerB w9 (.agg #[.int .i64 0, (.slice ao ln cap), (.slice none 0 0)]) (0, r, [])) ∧ Hid (Below w.heap.size w w9)) ⟨(((HR5.out.far (by omega) _).set0 0).set1 _).set2 _, ⟨_, _, rfl, (((HW.out.set HV5.out _).set (HR5.out.far (by omega) _) _).set ((HR5.out.far (by omega) _).set0 0) _).set (((HR5.out.far (by omega) _).set0 0).set1 _) _, RowB.nil _⟩, (((HB5.out.setCell (by simp; try omega) _).setCell (by simp; try omega) _).setCell (by simp; try omega) _).setCell (by simp; try omega) _⟩ ?_
        intro w9 ⟨HR9, HX9, HB9⟩
        have y0 := HR9.out.cell 0
        have y1 := HR9.out.cell 1
        have y2 := HR9.out.cell 2
        simp only [List.getElem?_toArray, List.getElem?_cons_zero, List.getElem?_cons_succ] at y0 y1 y2
        (try simp only [Exit.inBlock, Exit.then])
        refine bodyPost_ret (v := .tuple #[.agg #[.int .i64 0, (.slice ao ln cap), (.slice none 0 0)], .bool true]) ?_ rfl ?_
        · simp [results, Tryd.results16, go_sem, y0, y1, y2]
          try rfl
        · exact HP.out _ _ ⟨⟨_, _, rfl, .inl ⟨rfl, _, HXX.out, HX9.out⟩⟩, HB9.out⟩
      · have HN : Hid (X = none) := by
          have h := HX2.out
          rw [hr] at h
          exact h.symm
        clear hr HX2
        go_wp2
        refine bp_gen (fun w9 => Hid (BlkV w9 w.heap.size 0 (.slice none 0 0) (.slice none 0 0)) ∧ Hid (Below w.heap.size w w9)) ⟨(((HR5.out.far (by omega) _).set0 0).set1 _).set2 _, (((HB5.out.setCell (by simp; try omega) _).setCell (by simp; try omega) _).setCell (by simp; try omega) _).setCell (by simp; try omega) _⟩ ?_
        intro w9 ⟨HR9, HB9⟩
        have y0 := HR9.out.cell 0
        have y1 := HR9.out.cell 1
        have y2 := HR9.out.cell 2
        simp only [List.getElem?_toArray, List.getElem?_cons_zero, List.getElem?_cons_succ] at y0 y1 y2
        (try simp only [Exit.inBlock, Exit.then])
        refine bodyPost_ret (v := .tuple #[.agg #[.int .i64 0, .slice none 0 0, .slice none 0 0], .bool false]) ?_ rfl ?_
        · simp [results, Tryd.results16, go_sem, y0, y1, y2]
          try rfl
        · exact HP.out _ _ ⟨⟨_, _, rfl, .inr ⟨rfl, HN.out, rfl⟩⟩, HB9.out⟩
    | some p =>
      obtain ⟨x, y⟩ := p
      have HX2 : Hid ((rowL [] x).bind (fun a => (rowL [] y).map fun b => (0, a, b)) = X) := by
        have h := HT.out
        unfold tailL at h
        rw [hc] at h
        exact h
      have hlen := cutL_len hc
      rw [size_list] at hlen
      refine (cut_some 43 s m w4 (by omega) HM4.out hc).mono ?_
      rintro e _ ⟨rfl, n2, rfl⟩
      have q := row_any (bs x) m (w4.drewN n2) (by rw [bs_size]; omega) HM4.out
      rw [bs_data] at q
      clear hc HT
      go_wp2_with fail
      refine q.mono ?_
      rintro e w5 ⟨⟨v, b, rfl, hx⟩, h5⟩
      have HB5 := Lib.hid (HB4.out.trans ((below_dn h5).mono HB4.out.size))
      have HR5 := Lib.hid (HR4.out.below (below_dn h5))
      have HV5 := Lib.hid (HV4.out.below (below_dn h5))
      have HM5 := Lib.hid (maxAt HM4.out (below_dn h5))
      clear h5 q
      have v0 := HV5.out.cell 0
      have v1 := HV5.out.cell 1
      have v2 := HV5.out.cell 2
      have fv := HV5.out.fz
      have r0 := HR5.out.cell 0
      have r1 := HR5.out.cell 1
      have r2 := HR5.out.cell 2
      have fr := HR5.out.fz
      simp only [List.getElem?_toArray, List.getElem?_cons_zero, List.getElem?_cons_succ] at v0 v1 v2 r0 r1 r2
      rcases hx with ⟨rfl, r, hr, hrow⟩ | ⟨rfl, hr, rfl⟩
      · have HX3 : Hid ((rowL [] y).map (fun b => (0, r, b)) = X) := by
          have h := HX2.out
          rw [hr] at h
          exact h
        obtain ⟨ao, cap, rfl, _, _⟩ := hrow.row.sl
        have HW := Lib.hid hrow
        clear hrow hr HX2
        generalize r.length = ln at *
        go_wp2_with fail
        refine calls_gen (fun w6 => Hid (Below w.heap.size w w6) ∧ Hid (BlkV w6 w.heap.size 0 (.slice none 0 0) (.slice none 0 0)) ∧ Hid (BlkV w6 (w.heap.size + 1) 0 (.slice ao ln cap) (.slice none 0 0)) ∧ Hid (RowB w6 (.slice ao ln cap) r) ∧ Hid (w6.cell? ⟨1, 0, none⟩ = some (.int .i64 m))) ⟨HB5.out.setCell (by simp) _, HR5.out.far (by omega) _, HV5.out.set1 _, HW.out.set HV5.out _, Lib.hid (maxAt HM.out (HB5.out.setCell (by simp) _))⟩ ?_
        intro w6 ⟨HB6, HR6, HV6, HW6, HM6⟩
        have q := row_any (bs y) m w6 (by rw [bs_size]; omega) HM6.out
        rw [bs_data] at q
        clear v0 v1 v2 fv r0 r1 r2 fr HB5 HR5 HV5 HM5 HW
        refine q.mono ?_
        rintro e w7 ⟨⟨v, b, rfl, hx⟩, h7⟩
        have HB7 := Lib.hid (HB6.out.trans (h7.mono HB6.out.size))
        have HR7 := Lib.hid (HR6.out.below h7)
        have HV7 := Lib.hid (HV6.out.below h7)
        have HW7 := Lib.hid (HW6.out.below h7)
        clear h7 q
        have v0 := HV7.out.cell 0
        have v1 := HV7.out.cell 1
        have v2 := HV7.out.cell 2
        have fv := HV7.out.fz
        have r0 := HR7.out.cell 0
        have r1 := HR7.out.cell 1
        have r2 := HR7.out.cell 2
        have fr := HR7.out.fz
        simp only [List.getElem?_toArray, List.getElem?_cons_zero, List.getElem?_cons_succ] at v0 v1 v2 r0 r1 r2
        rcases hx with ⟨rfl, r2, hr2, hrow2⟩ | ⟨rfl, hr2, rfl⟩
        · have HXX : Hid (X = some (0, r, r2)) := by
            have h := HX3.out
            rw [hr2] at h
            exact h.symm
          obtain ⟨ao2, cap2, rfl, _, _⟩ := hrow2.row.sl
          have HW8 := Lib.hid hrow2
          clear hrow2 hr2 HX3
          generalize r2.length = ln2 at *
          go_wp2
          refine bp_gen (fun w9 => Hid (BlkV w9 w.heap.size 0 (.slice ao ln cap) (.slice ao2 ln2 cap2)) ∧ Hid (VerB w9 (.agg #[.int .i64 0, (.slice ao ln cap), (.slice ao2 ln2 cap2)]) (0, r, r2)) ∧ Hid (Below w.heap.size w w9)) ⟨(((HR7.out.far (by omega) _).set0 0).set1 _).set2 _, ⟨_, _, rfl, (((HW7.out.set HV7.out _).set (HR7.out.far (by omega) _) _).set ((HR7.out.far (by omega) _).set0 0) _).set (((HR7.out.far (by omega) _).set0 0).set1 _) _, (((HW8.out.set HV7.out _).set (HR7.out.far (by omega) _) _).set ((HR7.out.far (by omega) _).set0 0) _).set (((HR7.out.far (by omega) _).set0 0).set1 _) _⟩, (((HB7.out.setCell (by simp; try omega) _).setCell (by simp; try omega) _).setCell (by simp; try omega) _).setCell (by simp; try omega) _⟩ ?_
          intro w9 ⟨HR9, HX9, HB9⟩
          have y0 := HR9.out.cell 0
          have y1 := HR9.out.cell 1
          have y2 := HR9.out.cell 2
          simp only [List.getElem?_toArray, List.getElem?_cons_zero, List.getElem?_cons_succ] at y0 y1 y2
          (try simp only [Exit.inBlock, Exit.then])
          refine bodyPost_ret (v := .tuple #[.agg #[.int .i64 0, (.slice ao ln cap), (.slice ao2 ln2 cap2)], .bool true]) ?_ rfl ?_
          · simp [results, Tryd.results16, go_sem, y0, y1, y2]
            try rfl
          · exact HP.out _ _ ⟨⟨_, _, rfl, .inl ⟨rfl, _, HXX.out, HX9.out⟩⟩, HB9.out⟩
        · have HN : Hid (X = none) := by
            have h := HX3.out
            rw [hr2] at h
            exact h.symm
          clear hr2 HX3
          go_wp2
          refine bp_gen (fun w9 => Hid (BlkV w9 w.heap.size 0 (.slice none 0 0) (.slice none 0 0)) ∧ Hid (Below w.heap.size w w9)) ⟨(((HR7.out.far (by omega) _).set0 0).set1 _).set2 _, (((HB7.out.setCell (by simp; try omega) _).setCell (by simp; try omega) _).setCell (by simp; try omega) _).setCell (by simp; try omega) _⟩ ?_
          intro w9 ⟨HR9, HB9⟩
          have y0 := HR9.out.cell 0
          have y1 := HR9.out.cell 1
          have y2 := HR9.out.cell 2
          simp only [List.getElem?_toArray, List.getElem?_cons_zero, List.getElem?_cons_succ] at y0 y1 y2
          (try simp only [Exit.inBlock, Exit.then])
          refine bodyPost_ret (v := .tuple #[.agg #[.int .i64 0, .slice none 0 0, .slice none 0 0], .bool false]) ?_ rfl ?_
          · simp [results, Tryd.results16, go_sem, y0, y1, y2]
            try rfl
          · exact HP.out _ _ ⟨⟨_, _, rfl, .inr ⟨rfl, HN.out, rfl⟩⟩, HB9.out⟩
      · have HN : Hid (X = none) := by
          have h := HX2.out
          rw [hr] at h
          exact h.symm
        clear hr HX2
        go_wp2
        refine bp_gen (fun w9 => Hid (BlkV w9 w.heap.size 0 (.slice none 0 0) (.slice none 0 0)) ∧ Hid (Below w.heap.size w w9)) ⟨(((HR5.out.far (by omega) _).set0 0).set1 _).set2 _, (((HB5.out.setCell (by simp; try omega) _).setCell (by simp; try omega) _).setCell (by simp; try omega) _).setCell (by simp; try omega) _⟩ ?_
        intro w9 ⟨HR9, HB9⟩
        have y0 := HR9.out.cell 0
        have y1 := HR9.out.cell 1
        have y2 := HR9.out.cell 2
        simp only [List.getElem?_toArray, List.getElem?_cons_zero, List.getElem?_cons_succ] at y0 y1 y2
        (try simp only [Exit.inBlock, Exit.then])
        refine bodyPost_ret (v := .tuple #[.agg #[.int .i64 0, .slice none 0 0, .slice none 0 0], .bool false]) ?_ rfl ?_
        · simp [results, Tryd.results16, go_sem, y0, y1, y2]
          try rfl
        · exact HP.out _ _ ⟨⟨_, _, rfl, .inr ⟨rfl, HN.out, rfl⟩⟩, HB9.out⟩
  | some p =>
    obtain ⟨d, t0⟩ := p
    have HXd : Hid ((smallL d).bind (fun e => tailL e t0) = X) := by
      have h := HX.out
      unfold verL at h
      rw [hb] at h
      exact h
    have hlen := cutL_len hb
    rw [size_list] at hlen
    refine (cut_some 33 s m w1 (by omega) HM1.out hb).mono ?_
    rintro e _ ⟨rfl, n1, rfl⟩
    clear hb HX
    have qn := number_any (bs d) (w1.drewN n1) (by rw [bs_size]; unfold maxLen; omega)
    rw [bs_data] at qn
    have htz : (bs t0).size ≤ 50000 := by rw [bs_size]; omega
    have v0 := HV.out.cell 0
    have v1 := HV.out.cell 1
    have v2 := HV.out.cell 2
    have fv := HV.out.fz
    have r0 := HR.out.cell 0
    have r1 := HR.out.cell 1
    have r2 := HR.out.cell 2
    have fr := HR.out.fz
    simp only [List.getElem?_toArray, List.getElem?_cons_zero, List.getElem?_cons_succ] at v0 v1 v2 r0 r1 r2
    cases hsm : smallL d with
    | none =>
      have HN : Hid (X = none) := by
        have h := HXd.out
        rw [hsm] at h
        exact h.symm
      have hq : smallV d = .tuple #[.int .i64 0, .bool false] := by unfold smallV; rw [hsm]
      rw [hq] at qn
      clear hq hsm HXd
      cases hc : cutL 43 t0 with
      | none =>
        go_wp2_with fail
        refine qn.mono ?_
        rintro e _ ⟨rfl, rfl⟩
        clear qn
        go_wp2_with fail
        refine calls_gen (fun w4 => Hid (Below w.heap.size w w4) ∧ Hid (BlkV w4 w.heap.size 0 (.slice none 0 0) (.slice none 0 0)) ∧ Hid (w4.cell? ⟨1, 0, none⟩ = some (.int .i64 m))) ⟨(below_dr HB.out n1).setCell (by simp) _, (HR.out.drewN n1).far (by omega) _, Lib.hid (maxAt HM.out ((below_dr HB.out n1).setCell (by simp) _))⟩ ?_
        intro w4 ⟨HB4, HR4, HM4⟩
        clear v0 v1 v2 fv r0 r1 r2 fr HB HR HV HM1
        refine (cut_none 43 (bs t0) m w4 (by omega) HM4.out hc).mono ?_
        rintro e _ ⟨rfl, n2, rfl⟩
        have r0 := HR4.out.cell 0
        have r1 := HR4.out.cell 1
        have r2 := HR4.out.cell 2
        have fr := HR4.out.fz
        simp only [List.getElem?_toArray, List.getElem?_cons_zero, List.getElem?_cons_succ] at r0 r1 r2
        clear hc
        go_wp2
        refine bp_gen (fun w9 => Hid (BlkV w9 w.heap.size 0 (.slice none 0 0) (.slice none 0 0)) ∧ Hid (Below w.heap.size w w9)) ⟨(((HR4.out.drewN n2).set0 0).set1 _).set2 _, (((below_dr HB4.out n2).setCell (by simp) _).setCell (by simp) _).setCell (by simp) _⟩ ?_
        intro w9 ⟨HR9, HB9⟩
        have y0 := HR9.out.cell 0
        have y1 := HR9.out.cell 1
        have y2 := HR9.out.cell 2
        simp only [List.getElem?_toArray, List.getElem?_cons_zero, List.getElem?_cons_succ] at y0 y1 y2
        (try simp only [Exit.inBlock, Exit.then])
        refine bodyPost_ret (v := .tuple #[.agg #[.int .i64 0, .slice none 0 0, .slice none 0 0], .bool false]) ?_ rfl ?_
        · simp [results, Tryd.results16, go_sem, y0, y1, y2]
          try rfl
        · exact HP.out _ _ ⟨⟨_, _, rfl, .inr ⟨rfl, HN.out, rfl⟩⟩, HB9.out⟩
      | some p =>
        obtain ⟨x, y⟩ := p
        go_wp2_with fail
        refine qn.mono ?_
        rintro e _ ⟨rfl, rfl⟩
        clear qn
        go_wp2_with fail
        refine calls_gen (fun w4 => Hid (Below w.heap.size w w4) ∧ Hid (BlkV w4 w.heap.size 0 (.slice none 0 0) (.slice none 0 0)) ∧ Hid (w4.cell? ⟨1, 0, none⟩ = some (.int .i64 m))) ⟨(below_dr HB.out n1).setCell (by simp) _, (HR.out.drewN n1).far (by omega) _, Lib.hid (maxAt HM.out ((below_dr HB.out n1).setCell (by simp) _))⟩ ?_
        intro w4 ⟨HB4, HR4, HM4⟩
        clear v0 v1 v2 fv r0 r1 r2 fr HB HR HV HM1
        refine (cut_some 43 (bs t0) m w4 (by omega) HM4.out hc).mono ?_
        rintro e _ ⟨rfl, n2, rfl⟩
        have r0 := HR4.out.cell 0
        have r1 := HR4.out.cell 1
        have r2 := HR4.out.cell 2
        have fr := HR4.out.fz
        simp only [List.getElem?_toArray, List.getElem?_cons_zero, List.getElem?_cons_succ] at r0 r1 r2
        clear hc
        go_wp2
        refine bp_gen (fun w9 => Hid (BlkV w9 w.heap.size 0 (.slice none 0 0) (.slice none 0 0)) ∧ Hid (Below w.heap.size w w9)) ⟨(((HR4.out.drewN n2).set0 0).set1 _).set2 _, (((below_dr HB4.out n2).setCell (by simp) _).setCell (by simp) _).setCell (by simp) _⟩ ?_
        intro w9 ⟨HR9, HB9⟩
        have y0 := HR9.out.cell 0
        have y1 := HR9.out.cell 1
        have y2 := HR9.out.cell 2
        simp only [List.getElem?_toArray, List.getElem?_cons_zero, List.getElem?_cons_succ] at y0 y1 y2
        (try simp only [Exit.inBlock, Exit.then])
        refine bodyPost_ret (v := .tuple #[.agg #[.int .i64 0, .slice none 0 0, .slice none 0 0], .bool false]) ?_ rfl ?_
        · simp [results, Tryd.results16, go_sem, y0, y1, y2]
          try rfl
        · exact HP.out _ _ ⟨⟨_, _, rfl, .inr ⟨rfl, HN.out, rfl⟩⟩, HB9.out⟩
    | some e0 =>
      have HT : Hid (tailL e0 (bs t0).data.toList = X) := by
        have h := HXd.out
        rw [hsm] at h
        exact h
      have hq : smallV d = .tuple #[.int .i64 e0, .bool true] := by unfold smallV; rw [hsm]
      rw [hq] at qn
      clear hq hsm HXd
      go_wp2_with fail
      refine qn.mono ?_
      rintro e _ ⟨rfl, rfl⟩
      clear qn
      go_wp2_with fail
      refine calls_gen (fun w4 => Hid (Below w.heap.size w w4) ∧ Hid (BlkV w4 w.heap.size 0 (.slice none 0 0) (.slice none 0 0)) ∧ Hid (BlkV w4 (w.heap.size + 1) e0 (.slice none 0 0) (.slice none 0 0)) ∧ Hid (w4.cell? ⟨1, 0, none⟩ = some (.int .i64 m))) ⟨(below_dr HB.out n1).setCell (by simp) _, (HR.out.drewN n1).far (by omega) _, (HV.out.drewN n1).set0 _, Lib.hid (maxAt HM.out ((below_dr HB.out n1).setCell (by simp) _))⟩ ?_
      intro w4 ⟨HB4, HR4, HV4, HM4⟩
      clear v0 v1 v2 fv r0 r1 r2 fr HB HR HV HM1
      cases hc : cutL 43 (bs t0).data.toList with
      | none =>
        have HX2 : Hid ((rowL [] (bs t0).data.toList).map (fun a => (e0, a, [])) = X) := by
          have h := HT.out
          unfold tailL at h
          rw [hc] at h
          exact h
        refine (cut_none 43 (bs t0) m w4 (by omega) HM4.out hc).mono ?_
        rintro e _ ⟨rfl, n2, rfl⟩
        have q := row_any (bs t0) m (w4.drewN n2) htz HM4.out
        clear hc HT
        go_wp2_with fail
        refine q.mono ?_
        rintro e w5 ⟨⟨v, b, rfl, hx⟩, h5⟩
        have HB5 := Lib.hid (HB4.out.trans ((below_dn h5).mono HB4.out.size))
        have HR5 := Lib.hid (HR4.out.below (below_dn h5))
        have HV5 := Lib.hid (HV4.out.below (below_dn h5))
        clear h5 q
        have v0 := HV5.out.cell 0
        have v1 := HV5.out.cell 1
        have v2 := HV5.out.cell 2
        have fv := HV5.out.fz
        have r0 := HR5.out.cell 0
        have r1 := HR5.out.cell 1
        have r2 := HR5.out.cell 2
        have fr := HR5.out.fz
        simp only [List.getElem?_toArray, List.getElem?_cons_zero, List.getElem?_cons_succ] at v0 v1 v2 r0 r1 r2
        rcases hx with ⟨rfl, r, hr, hrow⟩ | ⟨rfl, hr, rfl⟩
        · have HXX : Hid (X = some (e0, r, [])) := by
            have h := HX2.out
            rw [hr] at h
            exact h.symm
          obtain ⟨ao, cap, rfl, _, _⟩ := hrow.row.sl
          have HW := Lib.hid hrow
          clear hrow hr HX2
          generalize r.length = ln at *
          go_wp2
          refine bp_gen (fun w9 => Hid (BlkV w9 w.heap.size e0 (.slice ao ln cap) (.slice none 0 0)) ∧ Hid (VerB w9 (.agg #[.int .i64 e0, (.slice ao ln cap), (.slice none 0 0)]) (e0, r, [])) ∧ Hid (Below w.heap.size w w9)) ⟨(((HR5.out.far (by omega) _).set0 e0).set1 _).set2 _, ⟨_, _, rfl, (((HW.out.set HV5.out _).set (HR5.out.far (by omega) _) _).set ((HR5.out.far (by omega) _).set0 e0) _).set (((HR5.out.far (by omega) _).set0 e0).set1 _) _, RowB.nil _⟩, (((HB5.out.setCell (by simp; try omega) _).setCell (by simp; try omega) _).setCell (by simp; try omega) _).setCell (by simp; try omega) _⟩ ?_
          intro w9 ⟨HR9, HX9, HB9⟩
          have y0 := HR9.out.cell 0
          have y1 := HR9.out.cell 1
          have y2 := HR9.out.cell 2
          simp only [List.getElem?_toArray, List.getElem?_cons_zero, List.getElem?_cons_succ] at y0 y1 y2
          (try simp only [Exit.inBlock, Exit.then])
          refine bodyPost_ret (v := .tuple #[.agg #[.int .i64 e0, (.slice ao ln cap), (.slice none 0 0)], .bool true]) ?_ rfl ?_
          · simp [results, Tryd.results16, go_sem, y0, y1, y2]
            try rfl
          · exact HP.out _ _ ⟨⟨_, _, rfl, .inl ⟨rfl, _, HXX.out, HX9.out⟩⟩, HB9.out⟩
        · have HN : Hid (X = none) := by
            have h := HX2.out
            rw [hr] at h
            exact h.symm
          clear hr HX2
          go_wp2
          refine bp_gen (fun w9 => Hid (BlkV w9 w.heap.size 0 (.slice none 0 0) (.slice none 0 0)) ∧ Hid (Below w.heap.size w w9)) ⟨(((HR5.out.far (by omega) _).set0 0).set1 _).set2 _, (((HB5.out.setCell (by simp; try omega) _).setCell (by simp; try omega) _).setCell (by simp; try omega) _).setCell (by simp; try omega) _⟩ ?_
          intro w9 ⟨HR9, HB9⟩
          have y0 := HR9.out.cell 0
          have y1 := HR9.out.cell 1
          have y2 := HR9.out.cell 2
          simp only [List.getElem?_toArray, List.getElem?_cons_zero, List.getElem?_cons_succ] at y0 y1 y2
          (try simp only [Exit.inBlock, Exit.then])
          refine bodyPost_ret (v := .tuple #[.agg #[.int .i64 0, .slice none 0 0, .slice none 0 0], .bool false]) ?_ rfl ?_
          · simp [results, Tryd.results16, go_sem, y0, y1, y2]
            try rfl
          · exact HP.out _ _ ⟨⟨_, _, rfl, .inr ⟨rfl, HN.out, rfl⟩⟩, HB9.out⟩
      | some p =>
        obtain ⟨x, y⟩ := p
        have HX2 : Hid ((rowL [] x).bind (fun a => (rowL [] y).map fun b => (e0, a, b)) = X) := by
          have h := HT.out
          unfold tailL at h
          rw [hc] at h
          exact h
        have hlen2 := cutL_len hc
        rw [size_list] at hlen2
        refine (cut_some 43 (bs t0) m w4 (by omega) HM4.out hc).mono ?_
        rintro e _ ⟨rfl, n2, rfl⟩
        have q := row_any (bs x) m (w4.drewN n2) (by rw [bs_size]; omega) HM4.out
        rw [bs_data] at q
        clear hc HT
        go_wp2_with fail
        refine q.mono ?_
        rintro e w5 ⟨⟨v, b, rfl, hx⟩, h5⟩
        have HB5 := Lib.hid (HB4.out.trans ((below_dn h5).mono HB4.out.size))
        have HR5 := Lib.hid (HR4.out.below (below_dn h5))
        have HV5 := Lib.hid (HV4.out.below (below_dn h5))
        have HM5 := Lib.hid (maxAt HM4.out (below_dn h5))
        clear h5 q
        have v0 := HV5.out.cell 0
        have v1 := HV5.out.cell 1
        have v2 := HV5.out.cell 2
        have fv := HV5.out.fz
        have r0 := HR5.out.cell 0
        have r1 := HR5.out.cell 1
        have r2 := HR5.out.cell 2
        have fr := HR5.out.fz
        simp only [List.getElem?_toArray, List.getElem?_cons_zero, List.getElem?_cons_succ] at v0 v1 v2 r0 r1 r2
        rcases hx with ⟨rfl, r, hr, hrow⟩ | ⟨rfl, hr, rfl⟩
        · have HX3 : Hid ((rowL [] y).map (fun b => (e0, r, b)) = X) := by
            have h := HX2.out
            rw [hr] at h
            exact h
          obtain ⟨ao, cap, rfl, _, _⟩ := hrow.row.sl
          have HW := Lib.hid hrow
          clear hrow hr HX2
          generalize r.length = ln at *
          go_wp2_with fail
          refine calls_gen (fun w6 => Hid (Below w.heap.size w w6) ∧ Hid (BlkV w6 w.heap.size 0 (.slice none 0 0) (.slice none 0 0)) ∧ Hid (BlkV w6 (w.heap.size + 1) e0 (.slice ao ln cap) (.slice none 0 0)) ∧ Hid (RowB w6 (.slice ao ln cap) r) ∧ Hid (w6.cell? ⟨1, 0, none⟩ = some (.int .i64 m))) ⟨HB5.out.setCell (by simp) _, HR5.out.far (by omega) _, HV5.out.set1 _, HW.out.set HV5.out _, Lib.hid (maxAt HM.out (HB5.out.setCell (by simp) _))⟩ ?_
          intro w6 ⟨HB6, HR6, HV6, HW6, HM6⟩
          have q := row_any (bs y) m w6 (by rw [bs_size]; omega) HM6.out
          rw [bs_data] at q
          clear v0 v1 v2 fv r0 r1 r2 fr HB5 HR5 HV5 HM5 HW
          refine q.mono ?_
          rintro e w7 ⟨⟨v, b, rfl, hx⟩, h7⟩
          have HB7 := Lib.hid (HB6.out.trans (h7.mono HB6.out.size))
          have HR7 := Lib.hid (HR6.out.below h7)
          have HV7 := Lib.hid (HV6.out.below h7)
          have HW7 := Lib.hid (HW6.out.below h7)
          clear h7 q
          have v0 := HV7.out.cell 0
          have v1 := HV7.out.cell 1
          have v2 := HV7.out.cell 2
          have fv := HV7.out.fz
          have r0 := HR7.out.cell 0
          have r1 := HR7.out.cell 1
          have r2 := HR7.out.cell 2
          have fr := HR7.out.fz
          simp only [List.getElem?_toArray, List.getElem?_cons_zero, List.getElem?_cons_succ] at v0 v1 v2 r0 r1 r2
          rcases hx with ⟨rfl, r2, hr2, hrow2⟩ | ⟨rfl, hr2, rfl⟩
          · have HXX : Hid (X = some (e0, r, r2)) := by
              have h := HX3.out
              rw [hr2] at h
              exact h.symm
            obtain ⟨ao2, cap2, rfl, _, _⟩ := hrow2.row.sl
            have HW8 := Lib.hid hrow2
            clear hrow2 hr2 HX3
            generalize r2.length = ln2 at *
            go_wp2
            refine bp_gen (fun w9 => Hid (BlkV w9 w.heap.size e0 (.slice ao ln cap) (.slice ao2 ln2 cap2)) ∧ Hid (VerB w9 (.agg #[.int .i64 e0, (.slice ao ln cap), (.slice ao2 ln2 cap2)]) (e0, r, r2)) ∧ Hid (Below w.heap.size w w9)) ⟨(((HR7.out.far (by omega) _).set0 e0).set1 _).set2 _, ⟨_, _, rfl, (((HW7.out.set HV7.out _).set (HR7.out.far (by omega) _) _).set ((HR7.out.far (by omega) _).set0 e0) _).set (((HR7.out.far (by omega) _).set0 e0).set1 _) _, (((HW8.out.set HV7.out _).set (HR7.out.far (by omega) _) _).set ((HR7.out.far (by omega) _).set0 e0) _).set (((HR7.out.far (by omega) _).set0 e0).set1 _) _⟩, (((HB7.out.setCell (by simp; try omega) _).setCell (by simp; try omega) _).setCell (by simp; try omega) _).setCell (by simp; try omega) _⟩ ?_
            intro w9 ⟨HR9, HX9, HB9⟩
            have y0 := HR9.out.cell 0
            have y1 := HR9.out.cell 1
            have y2 := HR9.out.cell 2
            simp only [List.getElem?_toArray, List.getElem?_cons_zero, List.getElem?_cons_succ] at y0 y1 y2
            (try simp only [Exit.inBlock, Exit.then])
            refine bodyPost_ret (v := .tuple #[.agg #[.int .i64 e0, (.slice ao ln cap), (.slice ao2 ln2 cap2)], .bool true]) ?_ rfl ?_
            · simp [results, Tryd.results16, go_sem, y0, y1, y2]
              try rfl
            · exact HP.out _ _ ⟨⟨_, _, rfl, .inl ⟨rfl, _, HXX.out, HX9.out⟩⟩, HB9.out⟩
          · have HN : Hid (X = none) := by
              have h := HX3.out
              rw [hr2] at h
              exact h.symm
            clear hr2 HX3
            go_wp2
            refine bp_gen (fun w9 => Hid (BlkV w9 w.heap.size 0 (.slice none 0 0) (.slice none 0 0)) ∧ Hid (Below w.heap.size w w9)) ⟨(((HR7.out.far (by omega) _).set0 0).set1 _).set2 _, (((HB7.out.setCell (by simp; try omega) _).setCell (by simp; try omega) _).setCell (by simp; try omega) _).setCell (by simp; try omega) _⟩ ?_
            intro w9 ⟨HR9, HB9⟩
            have y0 := HR9.out.cell 0
            have y1 := HR9.out.cell 1
            have y2 := HR9.out.cell 2
            simp only [List.getElem?_toArray, List.getElem?_cons_zero, List.getElem?_cons_succ] at y0 y1 y2
            (try simp only [Exit.inBlock, Exit.then])
            refine bodyPost_ret (v := .tuple #[.agg #[.int .i64 0, .slice none 0 0, .slice none 0 0], .bool false]) ?_ rfl ?_
            · simp [results, Tryd.results16, go_sem, y0, y1, y2]
              try rfl
            · exact HP.out _ _ ⟨⟨_, _, rfl, .inr ⟨rfl, HN.out, rfl⟩⟩, HB9.out⟩
        · have HN : Hid (X = none) := by
            have h := HX2.out
            rw [hr] at h
            exact h.symm
          clear hr HX2
          go_wp2
          refine bp_gen (fun w9 => Hid (BlkV w9 w.heap.size 0 (.slice none 0 0) (.slice none 0 0)) ∧ Hid (Below w.heap.size w w9)) ⟨(((HR5.out.far (by omega) _).set0 0).set1 _).set2 _, (((HB5.out.setCell (by simp; try omega) _).setCell (by simp; try omega) _).setCell (by simp; try omega) _).setCell (by simp; try omega) _⟩ ?_
          intro w9 ⟨HR9, HB9⟩
          have y0 := HR9.out.cell 0
          have y1 := HR9.out.cell 1
          have y2 := HR9.out.cell 2
          simp only [List.getElem?_toArray, List.getElem?_cons_zero, List.getElem?_cons_succ] at y0 y1 y2
          (try simp only [Exit.inBlock, Exit.then])
          refine bodyPost_ret (v := .tuple #[.agg #[.int .i64 0, .slice none 0 0, .slice none 0 0], .bool false]) ?_ rfl ?_
          · simp [results, Tryd.results16, go_sem, y0, y1, y2]
            try rfl
          · exact HP.out _ _ ⟨⟨_, _, rfl, .inr ⟨rfl, HN.out, rfl⟩⟩, HB9.out⟩


/-- what Parse answers: a version, or the error that is listed -/
def ParsePost (E : Value) (w : World) (o : Option Ver) (e : Ending) (w' : World) : Prop :=
  (∃ v x, e = .returned (.tuple #[v, x]) ∧ ((x = .nilIface ∧ ∃ y, o = some y ∧ VerB w' v y) ∨ (x = E ∧ o = none ∧ v = zeroV))) ∧ Below w.heap.size w w'
end Go.Proofs.YtecgjbddcmpggaaDoor
