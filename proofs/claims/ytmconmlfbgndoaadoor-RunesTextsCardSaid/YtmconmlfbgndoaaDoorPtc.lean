/- The contracts of runes.Valid and runes.Points. -/
import Derived.Test.YtmconmlfbgndoaaDoorPts
import Derived.Test.YtmconmlfbgndoaaDoorShelfB
import Derived.Lib.OthersKept
namespace Go.Proofs.YtmconmlfbgndoaaDoor
open Go.RowKit

set_option maxHeartbeats 400000 in
theorem valid_any (s : ByteArray) (w : World) (hs : s.size ≤ maxLen) (hT : Lib.Utf8Tabs 13 14 w) :
    Calls Tryd.prog 16 #[.string s] w fun e w' => e = .returned (.bool (vld s s.size 0)) ∧ Below w.heap.size w w' := by
  have hV := Tryd.utf8_ValidString s w (by unfold maxLen at hs; omega) hT
  rw [validD_eq] at hV
  generalize vld s s.size 0 = b at *
  clear hT
  go_enter Tryd.func16, Tryd.ntmps16
  go_wp2_with (go_at_call 25; refine hV.mono ?_; rintro e w1 ⟨rfl, hb1⟩)
  go_ret
  exact ⟨rfl, hb1⟩

theorem own_iterAt {w : World} {base k : Nat} {e : TypeId} {size n : Nat} {v : Value} {xs : List Value} {s : ByteArray} {pos : Nat} (h : w.ownsRow base e size v n xs) (hk : w.heap[k]? = some (.stringIter s pos)) (pos' : Nat) :
    (w.iterAt k s pos').ownsRow base e size v n xs := by
  refine ⟨h.1, ?_⟩
  rcases h.2 with hn | ⟨g, cap, cur, hv, hbg, hg, rest⟩
  · exact .inl hn
  · have hkg : g ≠ k := by
      intro e1
      rw [e1, hk] at hg
      cases hg
    exact .inr ⟨g, cap, cur, hv, hbg, (Lib.iterAt_other w k g s pos' hkg).trans hg, rest⟩

theorem iter_kept {w w2 : World} {base k : Nat} {e : TypeId} {size n : Nat} {v : Value} {xs : List Value} {s : ByteArray} {pos : Nat} {o : Obj} (h : w.ownsRow base e size v n xs) (hk : w.heap[k]? = some (.stringIter s pos)) (hg : (w.alloc o).grownBy w2 v.ownBlock) :
    w2.heap[k]? = some (.stringIter s pos) := by
  have hlt : k < w.heap.size := (Array.getElem?_eq_some_iff.1 hk).1
  rw [hg.block k (by simp; omega) ?_]
  · exact (Below.heap_alloc w o k hlt).trans hk
  · intro he
    rcases h.2 with ⟨rfl, _⟩ | ⟨g, cap, cur, rfl, _, hgg, _⟩
    · simp [Value.ownBlock] at he
    · simp [Value.ownBlock] at he
      subst he
      rw [hk] at hgg
      cases hgg

theorem below_iter {B : Nat} {a w : World} (h : Below B a w) (hB : B ≤ w.heap.size) (s : ByteArray) (p : Nat) : Below B a (w.iter s p) := h.alloc hB _

set_option maxHeartbeats 400000 in
theorem points_bad (s : ByteArray) (w : World) (hs : s.size ≤ maxLen) (hT : Lib.Utf8Tabs 13 14 w) (hv : vld s s.size 0 = false) :
    Calls Tryd.prog 13 #[.string s] w fun e w' => PtsPost s w.heap.size e w' ∧ Below w.heap.size w w' := by
  have hV := valid_any s w hs hT
  have HV := Lib.hid hv
  rw [hv] at hV
  clear hT hv
  go_enter Tryd.func13, Tryd.ntmps13
  go_wp2_with (go_at_call 16; refine hV.mono ?_; rintro e w1 ⟨rfl, hb1⟩)
  go_ret2
  exact ⟨PtsPost.bad HV.out, hb1⟩

set_option maxRecDepth 100000 in
set_option maxHeartbeats 1000000 in
theorem points_good (s : ByteArray) (w : World) (hs : s.size ≤ 2000) (hT : Lib.Utf8Tabs 13 14 w) (hv : vld s s.size 0 = true) :
    Calls Tryd.prog 13 #[.string s] w fun e w' => PtsPost s w.heap.size e w' ∧ Below w.heap.size w w' := by
  obtain ⟨i0, hi, hz0, hz1, hz2⟩ := info_parts info3
  have hV := valid_any s w (by unfold maxLen; omega) hT
  have HV := Lib.hid hv
  rw [hv] at hV
  clear hT hv
  have hR := fun w => Tryd.utf8_RuneCountInString s w (by omega)
  have hrc := Lib.runeCount_le s
  generalize Lib.runeCount s = rc at *
  go_enter Tryd.func13, Tryd.ntmps13
  go_wp2_with (first
    | (go_at_call 16; refine hV.mono ?_; rintro e w1 ⟨rfl, hb1⟩; have hsz1 := hb1.size)
    | (go_at_call 24; refine (hR _).mono ?_; rintro e w2 ⟨rfl, p, rfl⟩)
    | (at_make; refine wpList_make_own _ rfl _ _ 32 rfl w.heap.size 3 i0 (.int .i64 0) 1 Tryd.underlying32 hi hz0 hz1 .i64 .i64 _ rc rfl rfl rfl ?m1 ?m2 ?m3 ?_))
  case m1 => rw [hz2]; omega
  case m2 => unfold maxLen; omega
  case m3 => simp [World.iter]; omega
  intro w3 hown3 hg3
  have HB3 : Below w.heap.size w w3 := (below_iter hb1 hsz1 s p).grown hg3 (by simp [World.iter]; omega) (fun k hk => by cases hk)
  have hsz3 := HB3.size
  clear hg3 hb1 hV hR hsz1
  go_wp2
  go_loopw [4, 6] (fun v _ wr => ∃ (pos f : Nat) (acc : List Int), wr.ownsRow w.heap.size 3 1 v acc.length (ints acc) ∧ wr.heap[w3.heap.size]? = some (.stringIter s pos) ∧ Below w.heap.size w wr ∧ Way s f pos acc ∧ pos ≤ s.size + 4) (fun _ _ wr => s.size - wr.iterPos w3.heap.size)
  case atStart => exact ⟨0, s.size, [], hown3.alloc _, World.iter_heap w3 s 0, below_iter HB3 hsz3 s 0, Way.start s, by omega⟩
  case round =>
    obtain ⟨pos, f, acc, hown, hit, HB, HW, hpos⟩ := hrel
    have hBs := HB.size
    by_cases hp : pos < s.size
    · have hnx : ∀ ty, (Instr.next (.pointer (some ⟨w3.heap.size, 0, none⟩)) true ty).run Tryd.prog wr = _ := fun ty => Lib.run_next_any_at wr w3.heap.size s pos ty hit hp
      have hl := HW.len
      obtain ⟨g, rfl⟩ : ∃ g, f = g + 1 := ⟨f - 1, by have := HW.fuel; omega⟩
      have HW2 := HW.stepD HV.out hp
      have hbd := decode_bd s pos
      obtain ⟨hb1, hb2, hb3⟩ := hbd
      generalize (Utf8.decode s pos).1 = c at *
      generalize (Utf8.decode s pos).2 = n at *
      have hown1 := own_iterAt hown hit (pos + n)
      have hit1 := Lib.iterAt_heap wr w3.heap.size s pos (pos + n) hit
      have HB1 := Lib.below_iterAt HB (k := w3.heap.size) hsz3 s (pos + n)
      have hsz1 : wr.heap.size = (wr.iterAt w3.heap.size s (pos + n)).heap.size := by rw [Lib.iterAt_size]
      have hms : s.size - wr.iterPos w3.heap.size = s.size - pos := by simp only [World.iterPos, hit]
      have HMS := Lib.hid hms
      clear hms HW hown HB
      generalize hw1 : wr.iterAt w3.heap.size s (pos + n) = w1 at *
      clear hw1
      have hsz1' : w.heap.size ≤ w1.heap.size := by omega
      clear hsz1
      go_wp2_with (at_builtin; refine wpList_append_own _ rfl _ _ 32 rfl w.heap.size 3 i0 (.int .i64 0) 1 8 Tryd.underlying32 hi hz0 hz1 hz2 rfl (by decide) _ _ _ rfl (hown1.alloc _) ⟨w1.heap.size, 0, none⟩ 1 1 [.int .i64 c] rfl rfl (cell_one_new _ _ _) ?c2 ?c3 ?c4 ?c5 ?_)
      case c2 => intro u hu; simp at hu; subst hu; rfl
      case c3 => unfold maxLen; omega
      case c4 => omega
      case c5 => simp; omega
      intro v' w2 hown2 hg2 _
      have hit2 := iter_kept hown1 hit1 hg2
      have HB2 : Below w.heap.size w w2 := (HB1.alloc hsz1' _).grown hg2 (by simp; omega) (fun k hk => (hown1.lt k hk).1)
      go_wp2
      go_roundw
      case rel => exact ⟨pos + n, g, acc ++ [(c : Int)], own_snoc hown2, hit2, HB2, HW2, by omega⟩
      case measure =>
        rw [HMS.out]
        simp only [World.iterPos, hit2]
        omega
    · have hnx : ∀ ty, (Instr.next (.pointer (some ⟨w3.heap.size, 0, none⟩)) true ty).run Tryd.prog wr = _ := fun ty => Lib.run_next_end_at wr w3.heap.size s pos ty hit hp
      go_wp2
      go_ret2
      exact ⟨PtsPost.good HW hp hown, HB⟩

end Go.Proofs.YtmconmlfbgndoaaDoor
