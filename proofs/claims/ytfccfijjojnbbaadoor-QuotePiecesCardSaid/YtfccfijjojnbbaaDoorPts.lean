/- The contract of the document's Points. -/
import Derived.Test.YtfccfijjojnbbaaDoorList
namespace Go.Proofs.YtfccfijjojnbbaaDoor
open Go.RowKit

theorem info3 : (Tryd.prog.info? 3).map (fun i => (i.zero, i.size, i.bytes)) = some (some (.int .i64 0), 1, 8) := by kernel_rfl

theorem own_below {w w' : World} {base : Nat} {e : TypeId} {size n : Nat} {v : Value} {xs : List Value} (h : w.ownsRow base e size v n xs) (hb : Below w.heap.size w w') : w'.ownsRow base e size v n xs := by
  refine h.kept (row := none) ⟨hb.os, hb.tape, hb.output, hb.size, fun i hi _ => hb.block i hi⟩ ?_
  cases hv : v.ownBlock with
  | none => exact .inl rfl
  | some g => exact .inr (by simp)

def ints (l : List Int) : List Value := l.map (Value.int .i64)
theorem ints_snoc (l : List Int) (x : Int) : ints l ++ [.int .i64 x] = ints (l ++ [x]) := by simp [ints]

def pts (s : ByteArray) : List Int := ptsD s s.size 0

def PtsPost (s : ByteArray) (B : Nat) (e : Ending) (w' : World) : Prop :=
  (vld s s.size 0 = true ∧ ∃ v, e = .returned (.tuple #[v, .bool true]) ∧ w'.ownsRow B 3 1 v (pts s).length (ints (pts s))) ∨
  (vld s s.size 0 = false ∧ e = .returned (.tuple #[.slice none 0 0, .bool false]))

theorem PtsPost.bad {s : ByteArray} {B : Nat} {w' : World} (h : vld s s.size 0 = false) : PtsPost s B (.returned (.tuple #[.slice none 0 0, .bool false])) w' := .inr ⟨h, rfl⟩
theorem PtsPost.good {s : ByteArray} {B f pos : Nat} {acc : List Int} {w' : World} {v : Value} (h : Way s f pos acc) (hp : ¬ pos < s.size) (hown : w'.ownsRow B 3 1 v acc.length (ints acc)) :
    PtsPost s B (.returned (.tuple #[v, .bool true])) w' := by
  obtain ⟨h1, h2⟩ := h.ends hp
  refine .inl ⟨h2, v, rfl, ?_⟩
  unfold pts
  rw [← h1]
  exact hown

/-- a round that has read one more -/
theorem own_snoc {w' : World} {B : Nat} {v : Value} {acc : List Int} {c : Int} (h : w'.ownsRow B 3 1 v (acc.length + 1) (ints acc ++ [.int .i64 c])) : w'.ownsRow B 3 1 v (acc ++ [c]).length (ints (acc ++ [c])) := by
  rw [ints_snoc] at h
  simpa using h

set_option maxRecDepth 100000 in
set_option maxHeartbeats 1000000 in
theorem ref_points (s : ByteArray) (w : World) (hs : s.size ≤ 2000) :
    Calls Tryd.prog 19 #[.string s] w fun e w' => PtsPost s w.heap.size e w' ∧ Below w.heap.size w w' := by
  obtain ⟨i0, hi, hz0, hz1, hz2⟩ := info_parts info3
  have hs' : s.size ≤ maxLen := by unfold maxLen; omega
  go_enter Tryd.func19, Tryd.ntmps19
  go_wp2
  go_loopw [4, 5, 6, 7] (fun v at' _ _ wr => ∃ (pos f : Nat) (acc : List Int), at' = .int .i64 pos ∧ wr.ownsRow w.heap.size 3 1 v acc.length (ints acc) ∧ Below w.heap.size w wr ∧ Way s f pos acc ∧ pos ≤ s.size + 4) (fun _ at' _ _ _ => s.size - (intOf at').toNat)
  case atStart =>
    exact ⟨0, s.size, [], rfl, World.ownsRow_lit (base := w.heap.size) (e := 3) (size := 1) w #[] 0 (Nat.le_refl _) (by unfold maxLen; omega) rfl, (Below.refl _ _).alloc (Nat.le_refl _) _, Way.start s, by omega⟩
  case round =>
    obtain ⟨pos, f, acc, rfl, hown, HB, HW, hpos⟩ := hrel
    have hBs := HB.size
    by_cases hp : pos < s.size
    · have hD := ref_decode s pos wr hs' hp
      have hl := HW.len
      have hbd := decode_bd s pos
      by_cases hc : (codeD s pos).2 = 0
      · have hv := Lib.hid (HW.bad hp hc)
        rw [hc] at hD
        clear hc
        go_wp2_with (go_at_call 23; refine hD.mono ?_; rintro e w1 ⟨rfl, hb1⟩)
        go_ret2
        exact ⟨PtsPost.bad hv.out, HB.trans (hb1.mono hBs)⟩
      · obtain ⟨g, rfl⟩ : ∃ g, f = g + 1 := ⟨f - 1, by have := HW.fuel; omega⟩
        have HW2 := HW.step hp hc
        rw [← codeD_eq hc] at hbd
        obtain ⟨hb1, hb2, hb3⟩ := hbd
        generalize (codeD s pos).1 = c at *
        generalize (codeD s pos).2 = n at *
        have q : ((n : Int) == 0) = false := by rw [beq_eq_false_iff_ne]; omega
        clear hc HW
        go_wp2_with (first
          | (go_at_call 23; refine hD.mono ?_; rintro e w1 ⟨rfl, hb1⟩; have hown1 := own_below hown hb1; have hsz1 := hb1.size)
          | (at_builtin; refine wpList_append_own _ rfl _ _ 37 rfl w.heap.size 3 i0 (.int .i64 0) 1 8 Tryd.underlying37 hi hz0 hz1 hz2 rfl (by decide) _ _ _ rfl (hown1.alloc _) ⟨w1.heap.size, 0, none⟩ 1 1 [.int .i64 c] rfl rfl (cell_one_new _ _ _) ?c2 ?c3 ?c4 ?c5 ?_))
        case c2 => intro u hu; simp at hu; subst hu; rfl
        case c3 => unfold maxLen; omega
        case c4 => omega
        case c5 => simp; omega
        intro v' w2 hown2 hg2 _
        have HB2 : Below w.heap.size w w2 := ((HB.trans (hb1.mono hBs)).alloc (by omega) _).grown hg2 (by simp; omega) (fun k hk => (hown1.lt k hk).1)
        go_wp2
        go_roundw
        case rel => exact ⟨pos + n, g, acc ++ [(c : Int)], by go_num, own_snoc hown2, HB2, HW2, by omega⟩
        case measure => simp [intOf]; omega
    · go_wp2
      go_ret2
      exact ⟨PtsPost.good HW hp hown, HB⟩

end Go.Proofs.YtfccfijjojnbbaaDoor
