/- Rows of components read from a text (package version), in any world. -/
import Derived.Test.YtecgjbddcmpggaaDoorVp
import Derived.Test.YtecgjbddcmpggaaDoorVq
namespace Go.Proofs.YtecgjbddcmpggaaDoor
open Go.RowKit Go.Shelf

theorem coInfo : (Tryd.prog.info? 51).map (fun i => (i.zero, i.size, i.bytes)) = some (some (.slice none 0 0), 1, 24) := by kernel_rfl
/-- the cells of a row of components -/
def RowIn (w : World) (vs : List Value) (r : Row) : Prop := vs.length = r.length ∧ ∀ j, j < r.length → ∃ u, vs[j]? = some u ∧ CoB w u (r.getD j [])
theorem RowIn.below {w w' : World} {vs : List Value} {r : Row} (h : RowIn w vs r) (hb : Below w.heap.size w w') : RowIn w' vs r :=
  ⟨h.1, fun j hj => by
    obtain ⟨u, h1, h2⟩ := h.2 j hj
    exact ⟨u, h1, h2.below hb⟩⟩
theorem CoAt.one {w : World} {u : Value} {c : Co} (h : CoAt w u c) : u.oneCell' = true := by
  obtain ⟨ao, cap, rfl, _⟩ := h
  rfl
/-- what a row that grew leaves of the components -/
theorem CoB.grown {w w' : World} {v u : Value} {c : Co} {B n : Nat} {xs : List Value} (h : CoB w u c) (ho : w.ownsRow B 51 1 v n xs) (hg : w.grownBy w' v.ownBlock) : CoB w' u c := by
  have hne : ∀ b, u.ownBlock = some b → w'.heap[b]? = w.heap[b]? := by
    intro b hb
    obtain ⟨cur, h1⟩ := h.2 b hb
    refine hg.block b (Array.getElem?_eq_some_iff.1 h1).1 ?_
    intro e
    rcases ho.2 with ⟨rfl, h0⟩ | ⟨g, cap, cur2, rfl, _, h2, _⟩
    · cases e
    · simp [Value.ownBlock] at e
      subst e
      rw [h1] at h2
      simp at h2
  refine ⟨?_, fun b e => ?_⟩
  · obtain ⟨ao, cap, rfl, h1, h2, h3⟩ := h.1
    refine ⟨ao, cap, rfl, h1, h2, ?_⟩
    rcases h3 with h3 | ⟨b, o, rfl, h4⟩
    · exact .inl h3
    · have hb := hne b rfl
      refine .inr ⟨b, o, rfl, fun j hj => ?_⟩
      rw [World.cell?_of_block (w := w) (w' := w') (a := ⟨b, o + j * 2, none⟩) hb, World.cell?_of_block (w := w) (w' := w') (a := ⟨b, o + j * 2 + 1, none⟩) hb]
      exact h4 j hj
  · obtain ⟨cur, h1⟩ := h.2 b e
    exact ⟨cur, (hne b e).trans h1⟩
theorem RowIn.grown {w w' : World} {v : Value} {vs : List Value} {r : Row} {B n : Nat} {xs : List Value} (h : RowIn w vs r) (ho : w.ownsRow B 51 1 v n xs) (hg : w.grownBy w' v.ownBlock) : RowIn w' vs r :=
  ⟨h.1, fun j hj => by
    obtain ⟨u, h1, h2⟩ := h.2 j hj
    exact ⟨u, h1, h2.grown ho hg⟩⟩
theorem RowIn.snoc {w : World} {vs : List Value} {r : Row} {u : Value} {c : Co} (h : RowIn w vs r) (hu : CoB w u c) : RowIn w (vs ++ [u]) (r ++ [c]) := by
  refine ⟨by rw [List.length_append, List.length_append, h.1]; rfl, fun j hj => ?_⟩
  rw [List.length_append, List.length_singleton] at hj
  by_cases hl : j < r.length
  · obtain ⟨x, h1, h2⟩ := h.2 j hl
    refine ⟨x, by rw [List.getElem?_append_left (by rw [h.1]; exact hl)]; exact h1, ?_⟩
    have e : (r ++ [c]).getD j [] = r.getD j [] := by simp [List.getD_eq_getElem?_getD, List.getElem?_append_left hl]
    rw [e]; exact h2
  · obtain rfl : j = r.length := by omega
    refine ⟨u, by rw [List.getElem?_append_right (by rw [h.1]; exact Nat.le_refl _), h.1]; simp, ?_⟩
    have e : (r ++ [c]).getD r.length [] = c := by simp [List.getD_eq_getElem?_getD]
    rw [e]; exact hu
theorem own_row {w : World} {B : Nat} {v : Value} {vs : List Value} {r : Row} (h : w.ownsRow B 51 1 v r.length vs) (hi : RowIn w vs r) : RowAt w v r := by
  rcases h.2 with ⟨rfl, h0⟩ | ⟨g, cap, cur, rfl, hb, hg, hn, hc, hs2, ht⟩
  · have : r = [] := List.eq_nil_of_length_eq_zero h0
    subst this
    exact RowAt.nil w
  · refine ⟨_, cap, rfl, hn, hc, ?_⟩
    by_cases h0 : r = []
    · exact .inl h0
    · refine .inr ⟨g, 0, rfl, fun j hj => ?_⟩
      obtain ⟨u, h1, h2⟩ := hi.2 j hj
      exact ⟨u, by rw [Nat.zero_add, h.cellAt j (by omega), h1], h2.1⟩

/-- a row whose blocks are rows of components and of items -/
def RowB (w : World) (v : Value) (r : Row) : Prop := ∃ vs, RowIn w vs r ∧ w.ownsRow 0 51 1 v r.length vs
theorem RowB.row {w : World} {v : Value} {r : Row} (h : RowB w v r) : RowAt w v r := by
  obtain ⟨vs, h1, h2⟩ := h
  exact own_row h2 h1
theorem RowB.nil (w : World) : RowB w (.slice none 0 0) [] := ⟨[], ⟨rfl, fun j hj => absurd hj (by simp)⟩, World.ownsRow_nil _ _ _ _⟩
theorem RowB.below {w w' : World} {v : Value} {r : Row} (h : RowB w v r) (hb : Below w.heap.size w w') : RowB w' v r := by
  obtain ⟨vs, h1, h2⟩ := h
  exact ⟨vs, h1.below hb, own_below h2 hb⟩
theorem own_base {w : World} {B T n m : Nat} {v : Value} {xs : List Value} (h : w.ownsRow B T m v n xs) : w.ownsRow 0 T m v n xs := by
  refine ⟨h.1, ?_⟩
  rcases h.2 with hn | ⟨g, cap, cur, rfl, _, rest⟩
  · exact .inl hn
  · exact .inr ⟨g, cap, cur, rfl, Nat.zero_le _, rest⟩
/-- a change of a block of another type -/
theorem RowB.other {w w' : World} {v : Value} {r : Row} {b T : Nat} {cur : Array Value} {fz : Nat × Nat} (h : RowB w v r) (hb : w.heap[b]? = some (.cells cur T fz)) (hT : T ≠ 51) (hT2 : T ≠ 57) (hg : w.grownBy w' (some b)) : RowB w' v r := by
  obtain ⟨vs, h1, h2⟩ := h
  refine ⟨vs, ⟨h1.1, fun j hj => ?_⟩, h2.kept hg (.inr fun e => ?_)⟩
  · obtain ⟨u, h3, h4⟩ := h1.2 j hj
    refine ⟨u, h3, ?_⟩
    have hne : ∀ k, u.ownBlock = some k → w'.heap[k]? = w.heap[k]? := fun k hk => by
      obtain ⟨cur2, h5⟩ := h4.2 k hk
      refine hg.block k (Array.getElem?_eq_some_iff.1 h5).1 (fun e => ?_)
      cases e
      rw [hb] at h5
      simp at h5
      exact hT2 h5.2.1
    refine ⟨?_, fun k e => ?_⟩
    · obtain ⟨ao, cap, rfl, h5, h6, h7⟩ := h4.1
      refine ⟨ao, cap, rfl, h5, h6, ?_⟩
      rcases h7 with h7 | ⟨k, o, rfl, h8⟩
      · exact .inl h7
      · have hk := hne k rfl
        refine .inr ⟨k, o, rfl, fun i hi => ?_⟩
        rw [World.cell?_of_block (w := w) (w' := w') (a := ⟨k, o + i * 2, none⟩) hk, World.cell?_of_block (w := w) (w' := w') (a := ⟨k, o + i * 2 + 1, none⟩) hk]
        exact h8 i hi
    · obtain ⟨cur2, h5⟩ := h4.2 k e
      exact ⟨cur2, (hne k e).trans h5⟩
  · rcases h2.2 with ⟨rfl, _⟩ | ⟨g, cap, cur2, rfl, _, h3, _⟩
    · cases e
    · simp [Value.ownBlock] at e
      subst e
      rw [hb] at h3
      simp at h3
      exact hT h3.2.1

/-- what readRow answers -/
def RowPost (w : World) (l : List UInt8) (e : Ending) (w' : World) : Prop :=
  (∃ v b, e = .returned (.tuple #[v, .bool b]) ∧ ((b = true ∧ ∃ r, rowL [] l = some r ∧ RowB w' v r) ∨ (b = false ∧ rowL [] l = none ∧ v = .slice none 0 0))) ∧ Below w.heap.size w w'

theorem maxAt {w w' : World} {m : Int} (hm : w.cell? ⟨1, 0, none⟩ = some (.int .i64 m)) (hb : Below w.heap.size w w') : w'.cell? ⟨1, 0, none⟩ = some (.int .i64 m) :=
  (hb.cell (World.block_lt_of_cell? w _ hm)).trans hm
theorem count_le (s : ByteArray) (c : UInt8) : Lib.countB s ⟨#[c]⟩ ≤ s.size := Lib.countB_le ⟨#[c]⟩ (show 1 ≤ (#[c] : Array UInt8).size from Nat.le_refl _) s.size s (Nat.le_refl _)
theorem repl_any (c d : UInt8) (s : ByteArray) (m : Int) (w : World) (hs : s.size ≤ 100000) (hm : w.cell? ⟨1, 0, none⟩ = some (.int .i64 m)) :
    Calls Tryd.prog 47 #[.string s, .string ⟨#[c]⟩, .string ⟨#[d]⟩] w fun e w' => e = .returned (.string (bs (s.data.toList.map fun b => if b = c then d else b))) ∧ Below w.heap.size w w' := by
  have h := count_le s c
  have q := Tryd.strings_ReplaceAll s ⟨#[c]⟩ ⟨#[d]⟩ m w (by omega) hm (show 1 ≤ (#[c] : Array UInt8).size from Nat.le_refl _) (by
    have : (⟨#[d]⟩ : ByteArray).size = 1 := rfl
    rw [this]; omega)
  have e : Lib.replaceAll s.data.toList (⟨#[c]⟩ : ByteArray).data.toList (⟨#[d]⟩ : ByteArray).data.toList = s.data.toList.map fun b => if b = c then d else b := repl_one c d _
  rw [e] at q
  exact q

theorem split_small (sep : ByteArray) : ∀ (k : Nat) (s : ByteArray), s.size ≤ 100000 → ∀ p ∈ Lib.splitB sep 0 k s, p.size ≤ 100000
  | 0, s, h, p, hp => by
    rw [Lib.splitB_zero] at hp
    simp at hp
    subst hp; exact h
  | k + 1, s, h, p, hp => by
    rcases Lib.indexB_cases s sep with hi | ⟨i, hi, _⟩
    · rw [Lib.splitB_miss _ _ _ _ hi] at hp
      simp at hp
      subst hp; exact h
    · rw [Lib.splitB_hit _ _ _ _ _ hi] at hp
      rcases List.mem_cons.1 hp with rfl | hp
      · rw [Nat.add_zero, ext_take, bs_size, List.length_take, size_list]; omega
      · exact split_small sep k _ (by rw [ext_size]; omega) p hp
/-- the pieces in memory -/
theorem pieces_any (s : ByteArray) (m : Int) (w : World) (hs : s.size ≤ 100000) (hm : w.cell? ⟨1, 0, none⟩ = some (.int .i64 m)) (hp : ∀ b ∈ s.data.toList, spB b = true → b = 46) :
    Calls Tryd.prog 48 #[.string s, .string ⟨#[46]⟩] w fun e w' => ∃ ps : List ByteArray, e = .returned (.slice (some ⟨w.heap.size, 0, none⟩) ps.length ps.length) ∧ w' = w.alloc (.cells (ps.map Value.string).toArray 9) ∧ ps.length ≤ s.size + 1 ∧ (∀ p ∈ ps, p.size ≤ 100000) ∧ rowL [] s.data.toList = mapO (ps.map fun p => p.data.toList) := by
  have h1 := count_le s 46
  have hl := Lib.splitB_all ⟨#[46]⟩ (by decide) 0 _ s rfl
  have q := Tryd.strings_Split s ⟨#[46]⟩ m w (by omega) hm (by decide)
  refine q.mono ?_
  rintro e w' ⟨rfl, rfl⟩
  refine ⟨Lib.splitB ⟨#[46]⟩ 0 (Lib.countB s ⟨#[46]⟩) s, by rw [hl], rfl, by rw [hl]; omega, split_small _ _ _ hs, ?_⟩
  obtain ⟨p, ps, h2, h3⟩ := row_split s.data.toList [] hp
  have e := Lib.splitB_data ⟨#[46]⟩ 0 (Lib.countB s ⟨#[46]⟩) s
  have e2 : Lib.splitK (⟨#[46]⟩ : ByteArray).data.toList 0 (Lib.countB s ⟨#[46]⟩) s.data.toList = Lib.splitK [46] 0 (Lib.count s.data.toList [46]) s.data.toList := rfl
  rw [e2, h2] at e
  rw [h3, List.nil_append]
  exact congrArg mapO e.symm

set_option maxRecDepth 100000 in
set_option maxHeartbeats 4000000 in
theorem row_any (s : ByteArray) (m : Int) (w : World) (hs : s.size ≤ 50000) (hm : w.cell? ⟨1, 0, none⟩ = some (.int .i64 m)) : Calls Tryd.prog 36 #[.string s] w (RowPost w s.data.toList) := by
  obtain ⟨i0, hi, hz0, hz1, hz2⟩ := info_parts coInfo
  have q1 : ∀ W, W.cell? ⟨1, 0, none⟩ = some (.int .i64 m) → Calls Tryd.prog 47 #[.string s, .string ⟨#[95]⟩, .string ⟨#[46]⟩] W fun e w' => e = .returned (.string (bs (s.data.toList.map fun b => if b = 95 then 46 else b))) ∧ Below W.heap.size W w' := fun W h => repl_any 95 46 s m W (by omega) h
  have q2 : ∀ W, W.cell? ⟨1, 0, none⟩ = some (.int .i64 m) → Calls Tryd.prog 47 #[.string (bs (s.data.toList.map fun b => if b = 95 then 46 else b)), .string ⟨#[45]⟩, .string ⟨#[46]⟩] W fun e w' => e = .returned (.string (bs (s.data.toList.map nrm))) ∧ Below W.heap.size W w' := fun W h => by
    have q := repl_any 45 46 (bs (s.data.toList.map fun b => if b = 95 then 46 else b)) m W (by rw [bs_size, List.length_map, size_list]; omega) h
    rw [bs_data, nrm_two] at q
    exact q
  have q3 : ∀ W, W.cell? ⟨1, 0, none⟩ = some (.int .i64 m) → Calls Tryd.prog 48 #[.string (bs (s.data.toList.map nrm)), .string ⟨#[46]⟩] W fun e w' => ∃ ps : List ByteArray, e = .returned (.slice (some ⟨W.heap.size, 0, none⟩) ps.length ps.length) ∧ w' = W.alloc (.cells (ps.map Value.string).toArray 9) ∧ ps.length ≤ s.size + 1 ∧ (∀ p ∈ ps, p.size ≤ 100000) ∧ rowL [] s.data.toList = mapO (ps.map fun p => p.data.toList) := fun W h => by
    have hsz : (bs (s.data.toList.map nrm)).size = s.size := by rw [bs_size, List.length_map, size_list]
    have q := pieces_any (bs (s.data.toList.map nrm)) m W (by rw [hsz]; omega) h (nrm_only _)
    rw [bs_data, rowL_nrm, hsz] at q
    exact q
  obtain ⟨X, HX⟩ : ∃ X, Hid (rowL [] s.data.toList = X) := ⟨_, rfl⟩
  have HP : Hid (∀ e w', (∃ v b, e = .returned (.tuple #[v, .bool b]) ∧ ((b = true ∧ ∃ c, X = some c ∧ RowB w' v c) ∨ (b = false ∧ X = none ∧ v = .slice none 0 0))) ∧ Below w.heap.size w w' → RowPost w s.data.toList e w') := fun e w' h => by
    unfold RowPost; rw [HX.out]; exact h
  have HM := Lib.hid hm
  generalize bs (s.data.toList.map fun b => if b = 95 then 46 else b) = T1 at *
  generalize bs (s.data.toList.map nrm) = T2 at *
  clear hm
  go_enter Tryd.func36, Tryd.ntmps36
  go_wp2_with fail
  refine (q1 _ HM.out).mono ?_
  rintro e w1 ⟨rfl, h1⟩
  have HB1 := Lib.hid h1
  have HM1 := Lib.hid (maxAt HM.out h1)
  clear h1 q1
  go_wp2_with fail
  refine (q2 _ HM1.out).mono ?_
  rintro e w2 ⟨rfl, h2⟩
  have HB2 := Lib.hid (HB1.out.trans (h2.mono HB1.out.size))
  have HM2 := Lib.hid (maxAt HM1.out h2)
  clear h2 q2 HB1
  go_wp2_with fail
  refine (q3 _ HM2.out).mono ?_
  rintro e w3 ⟨ps, rfl, hw3, hps, hsm, hro⟩
  have HB3 : Hid (Below w.heap.size w w3) := by rw [hw3]; exact HB2.out.alloc HB2.out.size _
  have HC3 : Hid (∀ j (h : j < ps.length), w3.cell? ⟨w2.heap.size, j, none⟩ = some (.string ps[j])) := fun j h => by
    rw [hw3, cell_of_row _ _ j _ _ _ (heap_alloc_new w2 _)]
    simp [h]
  have hsz3 : w2.heap.size < w3.heap.size := by rw [hw3]; simp
  have hwg := HB2.out.size
  have HRO := Lib.hid (hro.symm.trans HX.out)
  have HSM := Lib.hid hsm
  generalize w2.heap.size = g at *
  clear hw3 q3 hro hsm HB2 HM1 HM2
  go_wp2
  go_loopw [5, 7, 8, 9, 16] (fun v _ _ _ i wr => ∃ (j : Nat) (r : Row) (vs : List Value), j ≤ ps.length ∧ i = .int .i64 j ∧ r.length = j ∧ Hid (Below w.heap.size w wr) ∧ Hid (Below w3.heap.size w3 wr) ∧ wr.ownsRow w3.heap.size 51 1 v j vs ∧ Hid (RowIn wr vs r) ∧ Hid ((mapO ((ps.drop j).map fun p => p.data.toList)).map (r ++ ·) = X)) (fun _ _ _ _ i _ => ps.length - (intOf i).toNat)
  case atStart => exact ⟨0, [], [], Nat.zero_le _, rfl, rfl, HB3, Below.refl _ _, World.ownsRow_nil _ _ _ _, ⟨rfl, fun j hj => absurd hj (by simp)⟩, by show _ = _; rw [← HRO.out]; simp⟩
  case round =>
    obtain ⟨j, r, vs, hj, rfl, hrj, HB, HBw, hown, HI, HR⟩ := hrel
    have hsz := HB.out.size
    have hszw := HBw.out.size
    have HO := Lib.hid hown
    have HRJ := Lib.hid hrj
    clear hrj
    by_cases hlt : j < ps.length
    · have hc0 := HC3.out j hlt
      have hc := (HBw.out.cell (World.block_lt_of_cell? w3 _ hc0)).trans hc0
      have qc := fun W => comp_any ps[j] W (HSM.out _ (List.getElem_mem hlt))
      have HST : Hid (mapO ((ps.drop j).map fun p => p.data.toList) = (compL ps[j].data.toList).bind fun c => (mapO ((ps.drop (j + 1)).map fun p => p.data.toList)).map (c :: ·)) := by
        show _ = _
        rw [List.drop_eq_getElem_cons hlt]; rfl
      generalize ps[j] = p at *
      clear hc0 hown
      go_wp2_with fail
      refine (qc _).mono ?_
      rintro e w4 ⟨⟨u, b, rfl, hx⟩, h4⟩
      have HB4 := Lib.hid (HB.out.trans (h4.mono hsz))
      have HBw4 := Lib.hid (HBw.out.trans (h4.mono hszw))
      have HO4 := Lib.hid (own_below HO.out h4)
      have HI4 := Lib.hid (HI.out.below h4)
      have hsz4 := h4.size
      clear h4 qc hc
      rcases hx with ⟨rfl, c, hx, hu⟩ | ⟨rfl, hx, rfl⟩
      · have HR2 : Hid ((mapO ((ps.drop (j + 1)).map fun p => p.data.toList)).map ((r ++ [c]) ++ ·) = X) := by
          have h1 := HR.out
          rw [HST.out, hx] at h1
          show _ = _
          rw [← h1]
          simp only [Option.bind_some, Option.map_map]
          congr 1
          funext l
          simp
        have hone := hu.1.one
        obtain ⟨uo, uc, hue⟩ : ∃ uo uc, u = .slice uo c.length uc := by
          obtain ⟨uo, uc, he, _⟩ := hu.1
          exact ⟨uo, uc, he⟩
        subst hue
        have HU := Lib.hid hu
        have hown4 := HO4.out
        have hlt2 := hown4.lt
        have HLT := Lib.hid hlt2
        have hg4 : w3.heap.size ≤ w4.heap.size := by omega
        clear hx HR HST hu hlt2
        go_wp2_with (at_builtin; go_loud (refine wpList_append_own _ rfl _ _ 23 rfl w3.heap.size 51 i0 (.slice none 0 0) 1 24 Tryd.underlying23 hi hz0 hz1 hz2 rfl (by decide) _ _ _ rfl (hown4.alloc _) ⟨w4.heap.size, 0, none⟩ 1 1 [.slice uo c.length uc] (by rfl) (by rfl) ?c1 ?c2 ?c3 ?c4 ?c5 ?_))
        case c1 =>
          intro k y hy
          have h1 := cell_of_row _ w4.heap.size k _ 51 (0, 0) (heap_alloc_new w4 (.cells #[.slice uo c.length uc] 51))
          rw [add_none, Nat.zero_add, h1]
          simpa using hy
        case c2 => intro y hy; simp at hy; subst hy; exact hone
        case c3 => unfold maxLen; omega
        case c4 => omega
        case c5 => simp; omega
        intro v' w5 hown5 hg5 _
        have HU2 := Lib.hid ((HU.out.below (below_alloc _ _)).grown (hown4.alloc (.cells #[.slice uo c.length uc] 51)) hg5)
        have HI5 := Lib.hid ((HI4.out.below (below_alloc _ _)).grown (hown4.alloc (.cells #[.slice uo c.length uc] 51)) hg5)
        have HB5 := Lib.hid ((HB4.out.alloc HB4.out.size _).grown hg5 (by simp; omega) (fun b hb => by have := (HLT.out b hb).1; omega))
        have HS5 := Lib.hid ((HBw4.out.alloc HBw4.out.size _).grown hg5 (by simp; omega) (fun b hb => (HLT.out b hb).1))
        clear hown4 hg5
        go_wp2
        go_roundw
        case rel => exact ⟨j + 1, r ++ [c], vs ++ [.slice uo c.length uc], by omega, by go_num, by rw [List.length_append, HRJ.out]; rfl, HB5, HS5, hown5, HI5.out.snoc HU2.out, HR2⟩
        case measure => simp [intOf]; omega
      · have HN : Hid (X = none) := by
          have h1 := HR.out
          rw [HST.out, hx] at h1
          exact h1.symm
        clear hx HR HST
        go_wp2
        go_ret2
        exact HP.out _ _ ⟨⟨_, _, rfl, .inr ⟨rfl, HN.out, rfl⟩⟩, HB4.out⟩
    · have hjz : j = ps.length := by omega
      have HF : Hid (X = some r) := by
        have h1 := HR.out
        rw [hjz, List.drop_of_length_le (Nat.le_refl _)] at h1
        refine Lib.hid ?_
        simpa [mapO] using h1.symm
      have hro : RowB wr u5 r := ⟨vs, HI.out, by rw [HRJ.out]; exact own_base hown⟩
      have HRR := Lib.hid hro
      clear hro hjz
      go_wp2
      go_ret2
      exact HP.out _ _ ⟨⟨_, _, rfl, .inl ⟨rfl, _, HF.out, HRR.out⟩⟩, HB.out⟩

end Go.Proofs.YtecgjbddcmpggaaDoor
