/- Texts built byte by byte: a text without a byte, a text with small letters (package glob's and the document's), in any world. -/
import Derived.Test.YtpkhcelakfdjfaaDoorGc
import Derived.Test.YtpkhcelakfdjfaaDoorShelf
import Derived.Laws.IdiomStrings
import Derived.OwnWalk
import Derived.Laws.OwnMore
import Derived.Lib.SplitLaws
import Derived.Handy
namespace Go.Proofs.YtpkhcelakfdjfaaDoor
open Go.RowKit Go.Shelf

/-! ### rows of bytes -/
theorem byteInfo : (Tryd.prog.info? 5).map (fun i => (i.zero, i.size, i.bytes)) = some (some (.int .u8 0), 1, 1) := by kernel_rfl
def bv (l : List UInt8) : List Value := l.map fun c => .int .u8 (c.toNat : Int)
theorem bv_append (a b : List UInt8) : bv (a ++ b) = bv a ++ bv b := by simp [bv]
theorem bv_len (l : List UInt8) : (bv l).length = l.length := by simp [bv]
theorem bv_get (l : List UInt8) (j : Nat) (h : j < l.length) : (bv l)[j]? = some (.int .u8 (l[j].toNat : Int)) := by simp [bv, h]
theorem bv_set (l : List UInt8) (j : Nat) (c : UInt8) : (bv l).set j (.int .u8 (c.toNat : Int)) = bv (l.set j c) := by simp [bv, List.map_set]
theorem add_none (g j : Nat) : (⟨g, 0, none⟩ : Addr).add j = ⟨g, j, none⟩ := by unfold Addr.add; split <;> simp_all
/-- bytes of the call's own, as a string -/
theorem cv_cells {w : World} {g n cap : Nat} {l : List UInt8} (hn : l.length = n) (hc : ∀ j (hj : j < l.length), w.cell? ⟨g, j, none⟩ = some (.int .u8 (l[j].toNat : Int))) :
    Sem.run Tryd.prog (convert 27 9 (.slice (some ⟨g, 0, none⟩) n cap)) w = .ok (.string ⟨l.toArray⟩) w := by
  subst hn
  exact run_convert_bytes_back (P := Tryd.prog) w 27 9 5 ⟨g, 0, none⟩ cap l Tryd.underlying27 Tryd.underlying5 Tryd.underlying9 (fun j hj => by rw [add_none]; exact hc j hj)
theorem cv_bytes {w : World} {B n : Nat} {v : Value} {l : List UInt8} (h : w.ownsRow B 5 1 v n (bv l)) : Sem.run Tryd.prog (convert 27 9 v) w = .ok (.string ⟨l.toArray⟩) w := by
  have hlen := h.1
  rw [bv_len, Nat.mul_one] at hlen
  rcases h.2 with ⟨rfl, rfl⟩ | ⟨g, cap, cur, rfl, hb, hg, hn, hc, hs2, ht⟩
  · have hx : l = [] := List.eq_nil_of_length_eq_zero (by omega)
    subst hx
    exact run_convert_bytes_nil (P := Tryd.prog) w 27 5 Tryd.underlying27 Tryd.underlying5 0 0 9 Tryd.underlying9
  · exact cv_cells hlen (fun j hj => by rw [h.cellAt j (by omega), bv_get l j hj])

/-! ### a row that was made of a string: its mark lies behind it -/
structure RowM (w : World) (g : Nat) (l : List UInt8) : Prop where
  ex : ∃ cur : Array Value, w.heap[g]? = some (.cells cur 5 (cur.size, cur.size + 1)) ∧ l.length ≤ cur.size ∧ cur.toList.take l.length = bv l
theorem RowM.cell {w : World} {g : Nat} {l : List UInt8} (h : RowM w g l) (j : Nat) (hj : j < l.length) : w.cell? ⟨g, j, none⟩ = some (.int .u8 (l[j].toNat : Int)) := by
  obtain ⟨cur, h1, h2, h3⟩ := h.ex
  rw [cell_of_row w g j cur 5 _ h1, ← bv_get l j hj, ← h3, List.getElem?_take, if_pos hj]
  simp
theorem RowM.free {w : World} {g : Nat} {l : List UInt8} (h : RowM w g l) (j : Nat) (_hj : j < l.length) : w.frozen? ⟨g, j, none⟩ = false := by
  obtain ⟨cur, h1, h2, h3⟩ := h.ex
  simp only [World.frozen?, h1]
  simp
  omega
theorem RowM.store {w : World} {g : Nat} {l : List UInt8} (h : RowM w g l) (j : Nat) (_hj : j < l.length) (c : UInt8) : RowM (w.setCell ⟨g, j, none⟩ (.int .u8 (c.toNat : Int))) g (l.set j c) := by
  obtain ⟨cur, h1, h2, h3⟩ := h.ex
  refine ⟨cur.setIfInBounds j (.int .u8 (c.toNat : Int)), ?_, by simpa using h2, ?_⟩
  · simp [World.setCell, Array.getElem?_modify, h1]
  · rw [Array.toList_setIfInBounds, List.length_set, List.take_set, h3, bv_set]
theorem RowM.make (w : World) (s : ByteArray) (cap : Nat) : RowM (w.drew.alloc (.cells (bytesRow s cap) 5 ((bytesRow s cap).size, (bytesRow s cap).size + 1))) w.heap.size s.data.toList := by
  refine ⟨bytesRow s cap, ?_, ?_, ?_⟩
  · show (w.heap.push _)[w.heap.size]? = _
    simp
  · unfold bytesRow
    simp
  · unfold bytesRow bv
    rw [Array.toList_append, List.take_append_of_le_length (by simp), List.take_of_length_le (by simp)]
    simp

/-! ### a text without a byte -/
theorem filt_snoc (s : ByteArray) (c : UInt8) (k : Nat) (h : k < s.size) : (s.data.toList.take (k + 1)).filter (· != c) = (s.data.toList.take k).filter (· != c) ++ (if s[k] = c then [] else [s[k]]) := by
  rw [List.take_succ_eq_append_getElem (by rw [size_list]; exact h), getL _ _ h, List.filter_append]
  congr 1
  by_cases e : s[k] = c <;> simp [e]
set_option maxRecDepth 100000 in
set_option maxHeartbeats 2000000 in
theorem without_any (s : ByteArray) (c : UInt8) (w : World) (hs : s.size ≤ 100000) :
    Calls Tryd.prog 6 #[.string s, .int .u8 c.toNat] w fun e w' => e = .returned (.string ⟨(s.data.toList.filter (· != c)).toArray⟩) ∧ Below w.heap.size w w' := by
  obtain ⟨i0, hi, hz0, hz1, hz2⟩ := info_parts byteInfo
  go_enter Tryd.func6, Tryd.ntmps6
  go_wp2
  go_loopw [5, 6] (fun v i wr => ∃ (k : Nat) (l : List UInt8), k ≤ s.size ∧ i = .int .i64 k ∧ l.length ≤ k ∧ Below w.heap.size w wr ∧ wr.ownsRow w.heap.size 5 1 v l.length (bv l) ∧ Hid (l = (s.data.toList.take k).filter (· != c))) (fun _ i _ => s.size - (intOf i).toNat)
  case atStart => exact ⟨0, [], Nat.zero_le _, rfl, Nat.le_refl _, (Below.refl _ _).alloc (Nat.le_refl _) _, World.ownsRow_lit w #[] 0 (Nat.le_refl _) (by unfold maxLen; omega) rfl, rfl⟩
  case round =>
    obtain ⟨k, l, hk, rfl, hlk, HB, hown, HL⟩ := hrel
    have hsz := HB.size
    have HBB := Lib.hid HB
    by_cases hlt : k < s.size
    · by_cases hc : s[k] = c
      · have e1 : ((s[k].toNat : Int) != (c.toNat : Int)) = false := by rw [bne, byte_eq, decide_eq_true hc]; rfl
        have HL2 : Hid (l = (s.data.toList.take (k + 1)).filter (· != c)) := by
          refine Lib.hid ?_
          rw [filt_snoc s c k hlt, if_pos hc, List.append_nil]; exact HL.out
        clear hc HL HB
        go_wp2
        go_roundw
        case rel => exact ⟨k + 1, l, by omega, by go_num, by omega, HBB.out, hown, HL2⟩
        case measure => simp [intOf]; omega
      · have e1 : ((s[k].toNat : Int) != (c.toNat : Int)) = true := by rw [bne, byte_eq, decide_eq_false hc]; rfl
        have HL2 : Hid (l ++ [s[k]] = (s.data.toList.take (k + 1)).filter (· != c)) := by
          refine Lib.hid ?_
          rw [filt_snoc s c k hlt, if_neg hc, ← HL.out]
        have hlt2 := hown.lt
        have HLT := Lib.hid hlt2
        have HV : Hid (bv l ++ [.int .u8 (s[k].toNat : Int)] = bv (l ++ [s[k]])) := by rw [bv_append]; exact rfl
        clear hc HL HB hlt2
        go_wp2_with (at_builtin; refine wpList_append_own _ rfl _ _ 27 rfl w.heap.size 5 i0 (.int .u8 0) 1 1 Tryd.underlying27 hi hz0 hz1 hz2 rfl (by decide) _ _ _ rfl (hown.alloc _) ⟨wr.heap.size, 0, none⟩ 1 1 [.int .u8 (s[k].toNat : Int)] rfl rfl ?c1 ?c2 ?c3 ?c4 ?c5 ?_)
        case c1 =>
          intro j u hu
          have h1 := cell_of_row _ wr.heap.size j _ 5 (0, 0) (heap_alloc_new wr (.cells #[.int .u8 (s[k].toNat : Int)] 5))
          rw [add_none, h1]
          simpa using hu
        case c2 => intro u hu; simp at hu; subst hu; rfl
        case c3 => unfold maxLen; omega
        case c4 => omega
        case c5 => simp; omega
        intro v' w2 hown2 hg2 _
        have HB2 := Lib.hid ((HBB.out.alloc hsz _).grown hg2 (by simp; omega) (fun g hg' => (HLT.out g hg').1))
        rw [HV.out] at hown2
        have HO2 : Hid (w2.ownsRow w.heap.size 5 1 v' (l ++ [s[k]]).length (bv (l ++ [s[k]]))) := by
          refine Lib.hid ?_
          rw [List.length_append, List.length_singleton]; exact hown2
        clear hown2 hg2 hown
        go_wp2
        go_roundw
        case rel => exact ⟨k + 1, l ++ [s[k]], by omega, by go_num, by simp; omega, HB2.out, HO2.out, HL2⟩
        case measure => simp [intOf]; omega
    · have hz : k = s.size := by omega
      have hcv := cv_bytes hown
      have HE : Hid (l = s.data.toList.filter (· != c)) := by
        have := HL.out
        rw [hz, List.take_of_length_le (by rw [size_list]; exact Nat.le_refl _)] at this
        exact this
      clear HL HB hz
      go_wp2
      go_ret
      exact ⟨by rw [HE.out]; rfl, HBB.out⟩

end Go.Proofs.YtpkhcelakfdjfaaDoor
