/- The document's patterns (haversackref06.Match): by all places that a star may end at: it answers what the definition says, in any world. -/
import Derived.Test.YtpkhcelakfdjfaaGb
import Derived.Deep.QuietTactic
import Derived.BigQuiet
import Derived.Outline
import Derived.Handy
import Derived.BigRegion
namespace Go.Proofs.Ytpkhcelakfdjfaa
open Go.RowKit Go.Shelf

/-- a row of bools, by an index function -/
def boolsOf (f : Nat → Bool) (n : Nat) : List Value := (List.range n).map fun i => .bool (f i)
theorem boolsOf_get (f : Nat → Bool) (n j : Nat) (h : j < n) : (boolsOf f n)[j]? = some (.bool (f j)) := by simp [boolsOf, h]
theorem boolsOf_len (f : Nat → Bool) (n : Nat) : (boolsOf f n).length = n := by simp [boolsOf]
theorem boolsOf_set (f : Nat → Bool) (n j : Nat) (v : Bool) : (boolsOf f n).set j (.bool v) = boolsOf (fun i => if i = j then v else f i) n := by
  apply List.ext_getElem?
  intro i
  by_cases hi : i < n
  · by_cases e : j = i
    · subst e
      rw [List.getElem?_set_self (by rw [boolsOf_len]; exact hi), boolsOf_get _ _ _ hi, if_pos rfl]
    · rw [List.getElem?_set_ne e, boolsOf_get _ _ _ hi, boolsOf_get _ _ _ hi, if_neg (fun h => e h.symm)]
  · rw [List.getElem?_eq_none (by rw [List.length_set, boolsOf_len]; omega), List.getElem?_eq_none (by rw [boolsOf_len]; omega)]
theorem boolsOf_congr {f g : Nat → Bool} {n : Nat} (h : ∀ i, i < n → f i = g i) : boolsOf f n = boolsOf g n := by
  unfold boolsOf
  exact List.map_congr_left fun i hi => by rw [h i (List.mem_range.1 hi)]
theorem made_bools (n : Nat) : (madeCells #[Value.bool false] n).toList = boolsOf (fun _ => false) n := by
  rw [toList_madeCells_one]
  apply List.ext_getElem?
  intro i
  by_cases hi : i < n
  · rw [boolsOf_get _ _ _ hi]; simp [hi]
  · rw [List.getElem?_eq_none (by simp; omega), List.getElem?_eq_none (by rw [boolsOf_len]; omega)]

/-- the row of bools f at block g -/
def RowB (w : World) (B g n : Nat) (f : Nat → Bool) : Prop := w.ownsRow B 4 1 (.slice (some ⟨g, 0, none⟩) n n) n (boolsOf f n)
theorem RowB.congr {w : World} {B g n : Nat} {f f' : Nat → Bool} (h : RowB w B g n f) (e : ∀ i, i < n → f i = f' i) : RowB w B g n f' := by
  unfold RowB at h ⊢
  rwa [← boolsOf_congr e]
theorem RowB.cell {w : World} {B g n : Nat} {f : Nat → Bool} (h : RowB w B g n f) (j : Nat) (hj : j < n) : w.cell? ⟨g, j, none⟩ = some (.bool (f j)) := by
  rw [World.ownsRow.cellAt h j (by omega), boolsOf_get _ _ _ hj]
theorem RowB.free {w : World} {B g n : Nat} {f : Nat → Bool} (h : RowB w B g n f) (j : Nat) : w.frozen? ⟨g, j, none⟩ = false := World.ownsRow.frozenAt h j
theorem RowB.lt {w : World} {B g n : Nat} {f : Nat → Bool} (h : RowB w B g n f) : B ≤ g ∧ g < w.heap.size := World.ownsRow.lt h g rfl
theorem RowB.store {w : World} {B g n : Nat} {f : Nat → Bool} (h : RowB w B g n f) (j : Nat) (v : Bool) : RowB (w.setCell ⟨g, j, none⟩ (.bool v)) B g n (fun i => if i = j then v else f i) := by
  have := (World.ownsRow.stored h j (.bool v)).1
  rw [boolsOf_set] at this
  exact this
theorem RowB.other {w : World} {B g g' n n' : Nat} {f f' : Nat → Bool} (h : RowB w B g n f) (h' : RowB w B g' n' f') (hne : g ≠ g') (j : Nat) (v : Bool) : RowB (w.setCell ⟨g', j, none⟩ (.bool v)) B g n f :=
  World.ownsRow.kept h (World.ownsRow.stored h' j (.bool v)).2 (.inr (by simp [Value.ownBlock, hne]))
theorem RowB.below {w w0 : World} {g n : Nat} {f : Nat → Bool} (h : RowB w w0.heap.size g n f) (hb : Below w0.heap.size w0 w) (j : Nat) (v : Bool) : Below w0.heap.size w0 (w.setCell ⟨g, j, none⟩ (.bool v)) :=
  hb.setCell h.lt.1 _
theorem RowB.grown {w w1 : World} {B g n : Nat} {f : Nat → Bool} (h : RowB w B g n f) (hg : w.grownBy w1 none) : RowB w1 B g n f := World.ownsRow.kept h hg (.inr (by simp [Value.ownBlock]))
theorem infoB : (Try.prog.info? 4).map (fun i => (i.zero, i.size, i.bytes)) = some (some (.bool false), 1, 1) := by kernel_rfl

/-- what a star's places are so far -/
def sofar (L S : List UInt8) (k i : Nat) (j : Nat) : Bool := if j < i then pm L S (k + 1) j else false
theorem sofar_zero (L S : List UInt8) (k j : Nat) : sofar L S k 0 j = false := if_neg (Nat.not_lt_zero _)
theorem sofar_at (L S : List UInt8) (k m : Nat) : sofar L S k (m + 1) m = pm L S (k + 1) m := if_pos (Nat.lt_succ_self _)
theorem sofar_next {L S : List UInt8} {k i : Nat} {v : Bool} (h : v = pm L S (k + 1) i) (j : Nat) : (if j = i then v else sofar L S k i j) = sofar L S k (i + 1) j := by
  unfold sofar
  by_cases e : j = i
  · subst e; rw [if_pos rfl, if_pos (Nat.lt_succ_self _)]; exact h
  · rw [if_neg e]
    by_cases h2 : j < i
    · rw [if_pos h2, if_pos (by omega)]
    · rw [if_neg h2, if_neg (by omega)]

set_option maxRecDepth 100000 in
set_option maxHeartbeats 8000000 in
theorem refMatch_any (p s : ByteArray) (w : World) (hp : p.size ≤ 100000) (hs : s.size ≤ 100000) :
    Calls Try.prog 15 #[.string p, .string s] w fun e w' => e = .returned (.bool (mB p.data.toList s.data.toList)) ∧ Below w.heap.size w w' := by
  obtain ⟨i0, hi, hz0, hz1, hz2⟩ := info_parts infoB
  go_enter Try.func15, Try.ntmps15
  go_wp2_with (at_make; refine wpList_make_full _ rfl (.tmp 11) (.tmp 11) 28 rfl w.heap.size 4 i0 (.bool false) 1 Try.underlying28 hi hz0 hz1 .i64 .i64 _ _ (s.size + 1) rfl rfl ?c1 ?c2 ?c3 ?c4 ?c5 ?_)
  case c1 => simp
  case c2 => simp
  case c3 => rw [hz2]; omega
  case c4 => unfold maxLen; omega
  case c5 => exact Nat.le_refl _
  intro w1 hown hgrow
  have R1 : Hid (RowB w1 w.heap.size w.heap.size (s.size + 1) (fun _ => false)) := by
    rw [made_bools] at hown; exact hown
  have B1 : Hid (Below w.heap.size w w1) := (Below.refl _ _).grown hgrow (Nat.le_refl _) (fun _ h => by cases h)
  clear hown hgrow
  have hc0 := R1.out.cell 0 (by omega)
  have hf0 := R1.out.free 0
  go_wp2
  have R2 : Hid (RowB (w1.setCell ⟨w.heap.size, 0, none⟩ (.bool true)) w.heap.size w.heap.size (s.size + 1) (pm p.data.toList s.data.toList 0)) :=
    (R1.out.store 0 true).congr fun i hi => by
      rw [pm_zero _ _ _ (by rw [size_list]; omega)]
      by_cases h : i = 0 <;> simp [h]
  have B2 : Hid (Below w.heap.size w (w1.setCell ⟨w.heap.size, 0, none⟩ (.bool true))) := R1.out.below B1.out 0 true
  clear R1 B1 hc0 hf0
  go_loopw [5, 6, 7, 8] (fun vc vk _ _ wr => ∃ k g : Nat, k ≤ p.size ∧ vk = .int .i64 k ∧ vc = .slice (some ⟨g, 0, none⟩) (s.size + 1) (s.size + 1) ∧ Hid (RowB wr w.heap.size g (s.size + 1) (pm p.data.toList s.data.toList k)) ∧ Hid (Below w.heap.size w wr)) (fun _ vk _ _ _ => p.size - (intOf vk).toNat)
  case atStart => exact ⟨0, w.heap.size, Nat.zero_le _, rfl, rfl, R2, B2⟩
  case round =>
    clear R2 B2
    obtain ⟨k, g, hk, rfl, rfl, HR, HB⟩ := hrel
    obtain ⟨wo, rfl⟩ : ∃ wo : World, wo = wr := ⟨_, rfl⟩
    by_cases hlt : k < p.size
    · have hsz := HB.out.size
      go_wp2_with (at_make; refine wpList_make_full _ rfl (.tmp 23) (.tmp 23) 28 rfl w.heap.size 4 i0 (.bool false) 1 Try.underlying28 hi hz0 hz1 .i64 .i64 _ _ (s.size + 1) rfl rfl ?d1 ?d2 ?d3 ?d4 ?d5 ?_)
      case d1 => simp
      case d2 => simp
      case d3 => rw [hz2]; omega
      case d4 => unfold maxLen; omega
      case d5 => exact hsz
      intro w2 hown hgrow
      have hne : Hid (g ≠ wo.heap.size) := by have := HR.out.lt; intro e; omega
      have RN : Hid (RowB w2 w.heap.size wo.heap.size (s.size + 1) (sofar p.data.toList s.data.toList k 0)) := by
        rw [made_bools] at hown
        exact (show RowB w2 w.heap.size wo.heap.size (s.size + 1) (fun _ => false) from hown).congr fun i _ => (sofar_zero _ _ _ _).symm
      have RC : Hid (RowB w2 w.heap.size g (s.size + 1) (pm p.data.toList s.data.toList k)) := HR.out.grown hgrow
      have BC : Hid (Below w.heap.size w w2) := HB.out.grown hgrow hsz (fun _ h => by cases h)
      clear hown hgrow HR HB
      obtain ⟨g2, hg2⟩ : ∃ g2, wo.heap.size = g2 := ⟨_, rfl⟩
      rw [hg2] at hne RN
      rw [hg2]
      clear hg2 hsz
      go_wp2
      go_loopw [8] (fun vi wi => ∃ i : Nat, i ≤ s.size + 1 ∧ vi = .int .i64 i ∧ Hid (RowB wi w.heap.size g (s.size + 1) (pm p.data.toList s.data.toList k)) ∧ Hid (RowB wi w.heap.size g2 (s.size + 1) (sofar p.data.toList s.data.toList k i)) ∧ Hid (Below w.heap.size w wi)) (fun vi _ => s.size + 1 - (intOf vi).toNat)
      case atStart => exact ⟨0, Nat.zero_le _, rfl, RC, RN, BC⟩
      case round =>
        clear RC RN BC
        obtain ⟨i, hi1, rfl, RC, RN, BC⟩ := hrel
        by_cases hi2 : i ≤ s.size
        · have hle : decide (i ≤ s.size) = true := decide_eq_true hi2
          have hfi := RN.out.free i
          have hni := RN.out.cell i (by omega)
          by_cases h42 : p[k] = 42
          · have e2 : ((p[k].toNat : Int) == 42) = true := by rw [byte_lit, decide_eq_true h42]
            rcases i with _ | m
            · -- a star at the first place
              have hci := RC.out.cell 0 (by omega)
              have hv : Hid (pm p.data.toList s.data.toList k 0 = pm p.data.toList s.data.toList (k + 1) 0) := (pm_star_zero _ _ _ hlt h42).symm
              clear h42
              cases hc : pm p.data.toList s.data.toList k 0 with
              | true =>
                rw [hc] at hci hv
                clear hc
                go_wp2
                go_roundw
                case rel => exact ⟨0 + 1, by omega, by go_num, RC.out.other RN.out hne.out 0 true, (RN.out.store 0 true).congr (fun j _ => sofar_next (hv.out) j), RN.out.below BC.out 0 true⟩
                case measure => simp [intOf] <;> omega
              | false =>
                rw [hc] at hci hv
                clear hc
                go_wp2
                go_roundw
                case rel => exact ⟨0 + 1, by omega, by go_num, RC.out.other RN.out hne.out 0 false, (RN.out.store 0 false).congr (fun j _ => sofar_next (hv.out) j), RN.out.below BC.out 0 false⟩
                case measure => simp [intOf] <;> omega
            · -- a star further on
              have hci := RC.out.cell (m + 1) (by omega)
              have hnm := RN.out.cell m (by omega)
              rw [sofar_at] at hnm
              have hv : Hid (pm p.data.toList s.data.toList (k + 1) (m + 1) = (pm p.data.toList s.data.toList k (m + 1) || pm p.data.toList s.data.toList (k + 1) m)) := pm_star_succ _ _ _ _ hlt h42 (by rw [size_list]; omega)
              clear h42
              cases hc : pm p.data.toList s.data.toList k (m + 1) with
              | true =>
                rw [hc] at hci hv
                clear hc
                have hv2 : Hid (true = pm p.data.toList s.data.toList (k + 1) (m + 1)) := by rw [hv.out]; exact rfl
                clear hv hnm
                go_wp2
                go_roundw
                case rel => exact ⟨(m + 1) + 1, by omega, by go_num, RC.out.other RN.out hne.out (m + 1) true, (RN.out.store (m + 1) true).congr (fun j _ => sofar_next (hv2.out) j), RN.out.below BC.out (m + 1) true⟩
                case measure => simp [intOf] <;> omega
              | false =>
                rw [hc] at hci hv
                clear hc
                have hv2 : Hid (pm p.data.toList s.data.toList (k + 1) m = pm p.data.toList s.data.toList (k + 1) (m + 1)) := by rw [hv.out]; exact rfl
                clear hv
                go_wp2
                go_roundw
                case rel => exact ⟨(m + 1) + 1, by omega, by go_num, RC.out.other RN.out hne.out (m + 1) (pm p.data.toList s.data.toList (k + 1) m), (RN.out.store (m + 1) (pm p.data.toList s.data.toList (k + 1) m)).congr (fun j _ => sofar_next (hv2.out) j), RN.out.below BC.out (m + 1) (pm p.data.toList s.data.toList (k + 1) m)⟩
                case measure => simp [intOf] <;> omega
          · have e2 : ((p[k].toNat : Int) == 42) = false := by rw [byte_lit, decide_eq_false h42]
            rcases i with _ | m
            · have hv : Hid (pm p.data.toList s.data.toList (k + 1) 0 = false) := pm_one_zero _ _ _ hlt h42
              clear h42
              go_wp2
              go_region
              all_goals go_wp2
              go_roundw
              case rel => exact ⟨0 + 1, by omega, by go_num, RC.out.other RN.out hne.out 0 false, (RN.out.store 0 false).congr (fun j _ => sofar_next (hv.out.symm) j), (RN.out.below BC.out 0 false).drew⟩
              case measure => simp [intOf] <;> omega
            · have hcm := RC.out.cell m (by omega)
              have hms : m < s.size := by omega
              have hv : Hid (pm p.data.toList s.data.toList (k + 1) (m + 1) = (pm p.data.toList s.data.toList k m && decide (s[m]'(by omega) = p[k]))) := pm_one_succ _ _ _ _ hlt h42 (by rw [size_list]; omega)
              clear h42
              cases hc : pm p.data.toList s.data.toList k m with
              | true =>
                rw [hc] at hcm hv
                clear hc
                cases he : decide (s[m] = p[k]) with
                | true =>
                  have e3 : ((s[m].toNat : Int) == (p[k].toNat : Int)) = true := by rw [byte_eq, he]
                  have hv2 : Hid (true = pm p.data.toList s.data.toList (k + 1) (m + 1)) := by rw [hv.out, he]; exact rfl
                  clear hv he
                  go_wp2
                  go_region
                  all_goals go_wp2
                  go_roundw
                  case rel => exact ⟨(m + 1) + 1, by omega, by go_num, RC.out.other RN.out hne.out (m + 1) true, (RN.out.store (m + 1) true).congr (fun j _ => sofar_next (hv2.out) j), (RN.out.below BC.out (m + 1) true).drew⟩
                  case measure => simp [intOf] <;> omega
                | false =>
                  have e3 : ((s[m].toNat : Int) == (p[k].toNat : Int)) = false := by rw [byte_eq, he]
                  have hv2 : Hid (false = pm p.data.toList s.data.toList (k + 1) (m + 1)) := by rw [hv.out, he]; exact rfl
                  clear hv he
                  go_wp2
                  go_region
                  all_goals go_wp2
                  go_roundw
                  case rel => exact ⟨(m + 1) + 1, by omega, by go_num, RC.out.other RN.out hne.out (m + 1) false, (RN.out.store (m + 1) false).congr (fun j _ => sofar_next (hv2.out) j), (RN.out.below BC.out (m + 1) false).drew⟩
                  case measure => simp [intOf] <;> omega
              | false =>
                rw [hc] at hcm hv
                clear hc
                have hv2 : Hid (false = pm p.data.toList s.data.toList (k + 1) (m + 1)) := by rw [hv.out]; exact rfl
                clear hv
                go_wp2
                go_region
                all_goals go_wp2
                go_roundw
                case rel => exact ⟨(m + 1) + 1, by omega, by go_num, RC.out.other RN.out hne.out (m + 1) false, (RN.out.store (m + 1) false).congr (fun j _ => sofar_next (hv2.out) j), (RN.out.below BC.out (m + 1) false).drew⟩
                case measure => simp [intOf] <;> omega
        · have hle : decide (i ≤ s.size) = false := decide_eq_false hi2
          have hz : i = s.size + 1 := by omega
          have RN2 : Hid (RowB wr w.heap.size g2 (s.size + 1) (pm p.data.toList s.data.toList (k + 1))) := RN.out.congr fun j hj => by unfold sofar; rw [if_pos (by omega)]
          clear RN hz
          go_wp2
          go_roundw
          case rel => exact ⟨k + 1, g2, by omega, by go_num, rfl, RN2, BC⟩
          case measure => simp [intOf] <;> omega
    · have hz : k = p.size := by omega
      have hcs := HR.out.cell s.size (by omega)
      have hv : Hid (pm p.data.toList s.data.toList k s.size = mB p.data.toList s.data.toList) := by
        have := pm_all p.data.toList s.data.toList
        rw [size_list, size_list, ← hz] at this
        exact this
      clear hz
      go_wp2
      go_ret
      exact ⟨ret_bool hv.out, HB.out⟩

end Go.Proofs.Ytpkhcelakfdjfaa
