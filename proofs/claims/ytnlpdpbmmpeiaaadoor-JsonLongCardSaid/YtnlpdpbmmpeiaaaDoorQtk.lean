/- quote.Take, quote.Parse: what each call returns. -/
import Derived.Test.YtnlpdpbmmpeiaaaDoorQpi
import Derived.Test.YtnlpdpbmmpeiaaaDoorQcd
import Derived.Test.YtnlpdpbmmpeiaaaDoorBld
import Derived.Deep.QuietTactic
import Derived.BigQuiet
namespace Go.Proofs.YtnlpdpbmmpeiaaaDoor
open Go.RowKit

theorem bld_below {T e : TypeId} {B b : Nat} {bs : List Value} {w w' : World} (h : Lib.IsBuilder T e B b bs w) (hb : Below w.heap.size w w') : Lib.IsBuilder T e B b bs w' := by
  have key : ∀ p, Lib.BuilderAt T e B b p bs w → Lib.BuilderAt T e B b p bs w' := fun p h => by
    obtain ⟨h1, v, h2, h3, h4⟩ := h
    refine ⟨h1, v, (hb.block b (Array.getElem?_eq_some_iff.1 h2).1).trans h2, ?_, h4⟩
    refine h3.kept (row := none) ⟨hb.os, hb.tape, hb.output, hb.size, fun i hi _ => hb.block i hi⟩ ?_
    cases hv : v.ownBlock with
    | none => exact .inl rfl
    | some g => exact .inr (by simp)
  rcases h with h | h
  · exact .inl (key _ h)
  · exact .inr (key _ h)

theorem cells_app (acc x : List UInt8) : Lib.byteCells acc ++ Lib.strCells ⟨x.toArray⟩ = Lib.byteCells (acc ++ x) := by
  simp [Lib.byteCells, Lib.strCells]

/-- the error that is answered -/
def synV (a : Addr) : Value := .iface 122 (.pointer (some a))
def takeV (a : Addr) : Option (List UInt8 × Nat) → Value
  | some p => .tuple #[.string ⟨p.1.toArray⟩, .int .i64 p.2, .nilIface]
  | none => .tuple #[.string ⟨#[]⟩, .int .i64 0, synV a]

set_option maxHeartbeats 1000000 in
theorem take_out (s : ByteArray) (x : Int) (w : World) (a : Addr) (hC : CondS w a) (_hs : s.size ≤ maxLen) (hx : x < 0 ∨ s.size ≤ x) :
    Calls Tryd.prog 32 #[.string s, .int .i64 x] w fun e w' => e = .returned (takeV a none) ∧ Below w.heap.size w w' := by
  have c0 : w.cell? ⟨1, 0, none⟩ = _ := hC.syn
  clear hC
  unfold maxLen at _hs
  simp only [takeV, synV]
  by_cases h : x < 0
  · clear hx
    go_enter Tryd.func32, Tryd.ntmps32
    go_wp2
    go_quiet (fail)
    go_wp2
    go_ret3
    exact ⟨rfl, below_drewN (Below.refl _ _) _⟩
  · have h2 : (s.size : Int) ≤ x := by omega
    clear hx
    go_enter Tryd.func32, Tryd.ntmps32
    go_wp2
    go_quiet (fail)
    go_wp2
    go_ret3
    exact ⟨rfl, below_drewN (Below.refl _ _) _⟩

set_option maxHeartbeats 1000000 in
theorem take_not (s : ByteArray) (i : Nat) (w : World) (a : Addr) (hC : CondS w a) (_hs : s.size ≤ maxLen) (hi : i < s.size) (h34 : byteAt s i ≠ 34) :
    Calls Tryd.prog 32 #[.string s, .int .i64 i] w fun e w' => e = .returned (takeV a none) ∧ Below w.heap.size w w' := by
  have c0 : w.cell? ⟨1, 0, none⟩ = _ := hC.syn
  clear hC
  unfold maxLen at _hs
  have hby := byteAt_in hi
  have q : ((s[i].toNat : Int) != 34) = true := by rw [hby]; simp; omega
  simp only [takeV, synV]
  clear hby h34
  go_enter Tryd.func32, Tryd.ntmps32
  go_wp2
  go_quiet (fail)
  go_wp2
  go_ret3
  exact ⟨rfl, below_drewN (Below.refl _ _) _⟩

set_option maxRecDepth 100000 in
set_option maxHeartbeats 2000000 in
theorem take_in (s : ByteArray) (n : Nat) (w : World) (a : Addr) (hC : CondS w a) (hs : s.size ≤ 200000) (hn : n < s.size) (h34 : byteAt s n = 34) {o : Option (List UInt8 × Nat)} (ho : takeL (s.data.toList.drop n) = o) :
    Calls Tryd.prog 32 #[.string s, .int .i64 n] w fun e w' => e = .returned (takeV a o) ∧ Below w.heap.size w w' := by
  have HC := Lib.hid hC
  have HO := Lib.hid ho
  have hby := byteAt_in hn
  have q : ((s[n].toNat : Int) != 34) = false := by rw [hby, h34]; rfl
  have HT0 := Lib.hid (Tk.start hn h34)
  have d1 : decide ((n : Int) < 0) = false := decide_eq_false (by omega)
  have d2 : decide (s.size ≤ n) = false := decide_eq_false (by omega)
  clear hC ho hby h34
  go_enter Tryd.func32, Tryd.ntmps32
  go_wp2
  go_loopw [8, 9, 10, 11] (fun i _ _ _ wr => ∃ (k f : Nat) (acc : List UInt8), i = .int .i64 k ∧ k ≤ s.size ∧ acc.length ≤ k ∧ Hid (Tk s n k f acc) ∧ Lib.IsBuilder 79 5 w.heap.size w.heap.size (Lib.byteCells acc) wr ∧ Below w.heap.size w wr) (fun i _ _ _ _ => s.size - (intOf i).toNat)
  case atStart => exact ⟨n + 1, _, [], by go_num, by omega, by simp, HT0, Lib.fresh_isBuilder _ _ w, (Below.refl _ _).alloc (Nat.le_refl _) _⟩
  case round =>
    obtain ⟨k, f, acc, rfl, hk, hacc, HT, HI, HB⟩ := hrel
    have hpos : n < k := HT.out.pos
    have hBs := HB.size
    have HCr := Lib.hid (HC.out.below HB)
    have c0 : wr.cell? ⟨1, 0, none⟩ = _ := HCr.out.syn
    by_cases hlt : k < s.size
    · have hby := byteAt_in hlt
      by_cases hq : byteAt s k = 34
      · have q1 : ((s[k].toNat : Int) == 34) = true := by rw [hby, hq]; rfl
        have HR : Hid (o = some (acc, k + 1 - n)) := HO.out.symm.trans (HT.out.mark hlt hq)
        have hS := Tryd.Builder_String_any w.heap.size w.heap.size acc wr HI hBs
        clear c0 hby hq
        go_wp2_with (go_at_call 35; refine hS.mono ?_; rintro e w1 ⟨rfl, hb1⟩)
        go_ret3
        refine ⟨?_, ?_⟩
        · rw [HR.out]
          simp only [takeV]
          have : ((k + 1 - n : Nat) : Int) = (k : Int) + 1 - n := by omega
          rw [this]
          rfl
        · exact HB.trans (by first | exact hb1 | exact hb1.2)
      · have q1 : ((s[k].toNat : Int) == 34) = false := by rw [hby]; simp; omega
        have hP := piece_any s k wr HCr.out.tabs (by unfold maxLen; omega) hlt rfl
        cases hp : pieceL (s.data.toList.drop k) with
        | none =>
          have HR : Hid (o = none) := HO.out.symm.trans (HT.out.bad hlt hq hp)
          rw [hp] at hP
          simp only [pieceV] at hP
          clear hby hq hp c0
          go_wp2_with fail
          refine hP.mono ?_
          rintro e w1 ⟨rfl, hb1⟩
          have c0 : w1.cell? ⟨1, 0, none⟩ = _ := (HCr.out.below hb1).syn
          clear hP
          go_wp2
          go_quiet (fail)
          go_wp2
          go_ret3
          exact ⟨by rw [HR.out]; rfl, below_drewN (HB.trans (hb1.mono hBs)) _⟩
        | some p =>
          obtain ⟨x, m⟩ := p
          rw [hp] at hP
          simp only [pieceV] at hP
          obtain ⟨z1, z2, z3⟩ := piece_size hlt hq hp
          have HT2 := Lib.hid (HT.out.step hlt hq hp)
          have hxs : (⟨x.toArray⟩ : ByteArray).size = x.length := by rw [← size_list]
          have hW := fun w1 (hI1 : Lib.IsBuilder 79 5 w.heap.size w.heap.size (Lib.byteCells acc) w1) (h1 : w.heap.size ≤ w1.heap.size) => Tryd.Builder_WriteString w.heap.size w.heap.size (Lib.byteCells acc) ⟨x.toArray⟩ w1 hI1 (by rw [Lib.byteCells_length, hxs]; omega) h1
          rw [cells_app] at hW
          have hlen : (acc ++ x).length ≤ k + m := by rw [List.length_append]; omega
          clear hby hq hp c0 HT hxs z3
          generalize (⟨x.toArray⟩ : ByteArray) = t at *
          go_wp2_with fail
          refine hP.mono ?_
          rintro e w1 ⟨rfl, hb1⟩
          have hW1 := hW w1 (bld_below HI hb1) (Nat.le_trans hBs hb1.size)
          clear hP hW
          go_wp2_with fail
          refine hW1.mono ?_
          rintro e w2 ⟨rfl, hI2, hb2⟩
          clear hW1
          have HB2 := Lib.hid ((HB.trans (hb1.mono hBs)).trans hb2)
          have HI2 := Lib.hid hI2
          clear hI2 hb2 hb1
          go_wp2
          go_roundw
          case rel => exact ⟨k + m, _, acc ++ x, by go_num, by omega, hlen, HT2, .inr HI2.out, HB2.out⟩
          case measure => simp [intOf]; omega
    · have HR : Hid (o = none) := HO.out.symm.trans (HT.out.out hlt)
      go_wp2
      go_quiet (fail)
      go_wp2
      go_ret3
      exact ⟨by rw [HR.out]; rfl, below_drewN HB _⟩

theorem take_any (s : ByteArray) (x : Int) (w : World) (a : Addr) (hC : CondS w a) (hs : s.size ≤ 200000) {o : Option (List UInt8 × Nat)} (ho : takeL (restQ s.data.toList x) = o) :
    Calls Tryd.prog 32 #[.string s, .int .i64 x] w fun e w' => e = .returned (takeV a o) ∧ Below w.heap.size w w' := by
  have hsm : s.size ≤ maxLen := by unfold maxLen; omega
  by_cases hx : x < 0 ∨ s.size ≤ x
  · rw [restQ_out hx] at ho
    subst ho
    exact take_out s x w a hC hsm hx
  · obtain ⟨n, rfl⟩ := Int.eq_ofNat_of_zero_le (by omega : 0 ≤ x)
    have hn : n < s.size := by omega
    rw [restQ_in] at ho
    by_cases h34 : byteAt s n = 34
    · exact take_in s n w a hC hs hn h34 ho
    · rw [takeL_not hn h34] at ho
      subst ho
      exact take_not s n w a hC hsm hn h34

end Go.Proofs.YtnlpdpbmmpeiaaaDoor
