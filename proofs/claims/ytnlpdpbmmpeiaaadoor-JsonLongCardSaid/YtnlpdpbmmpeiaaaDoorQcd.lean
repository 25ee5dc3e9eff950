/- What the rows' conditions on the listed variables give: the errors, the library's tables of UTF-8, those of numbers. -/
import Derived.Test.YtnlpdpbmmpeiaaaDoorCond
import Derived.Test.YtnlpdpbmmpeiaaaDoorQqm
import Derived.PinnedBridge
import Derived.Lib.LaidU8
import Derived.LaidMore
import Derived.MakeChecks
namespace Go.Proofs.YtnlpdpbmmpeiaaaDoor
open Go.RowKit Go.Lib

theorem u8x : U8Extra Tryd.prog Tryd.lays260_ren :=
  { n3 := by kernel_rfl, n4 := by kernel_rfl, y3 := by kernel_rfl, y4 := by kernel_rfl, c5 := by kernel_rfl, c119 := by kernel_rfl, c138 := by kernel_rfl }
theorem tabs_of {W : World} (l : List (String × DataW Unit)) (h : laidMet Tryd.prog l W) (h3 : ("unicode/utf8.first", Rows.laid_unicode_utf8_first) ∈ l) (h4 : ("unicode/utf8.acceptRanges", Rows.laid_unicode_utf8_acceptRanges) ∈ l) : Utf8Tabs 15 16 W :=
  utf8Tabs_of_reads Tryd.lays260 u8x
    (by have := laidMet.reads h h3; rw [show Rows.laid_unicode_utf8_first = firstData from Pinned.utf8First_eq] at this; exact this)
    (by have := laidMet.reads h h4; rw [show (Rows.laid_unicode_utf8_acceptRanges : DataW Unit) = acceptData from by kernel_rfl] at this; exact this)

theorem below_drewN {B : Nat} {a w : World} (h : Below B a w) (d : Nat) : Below B a (w.drewN d) := ⟨h.os, h.tape, h.output, h.size, h.block⟩
structure CondS (w : World) (a : Addr) : Prop where
  syn : w.cell? ⟨1, 0, none⟩ = some (.iface 122 (.pointer (some a)))
  tabs : Utf8Tabs 15 16 w

theorem cell_lt {w : World} {b o : Nat} {v : Value} (h : w.cell? ⟨b, o, none⟩ = some v) : b < w.heap.size := by
  rcases Nat.lt_or_ge b w.heap.size with hlt | hge
  · exact hlt
  · simp [World.cell?, Array.getElem?_eq_none hge] at h
theorem CondS.below {w w' : World} {a : Addr} (h : CondS w a) (hb : Below w.heap.size w w') : CondS w' a :=
  ⟨(hb.cell (p := ⟨1, 0, none⟩) (cell_lt h.syn)).trans h.syn, Utf8Tabs_below h.tabs hb⟩

structure Cond (w : World) (A : Nat → Addr) : Prop where
  n : I2.Cond w A
  s : CondS w (A 0)
theorem Cond.below {w w' : World} {A : Nat → Addr} (h : Cond w A) (hb : Below w.heap.size w w') : Cond w' A := ⟨h.n.below hb, h.s.below hb⟩

theorem cond_of {W : World} {l : List (String × DataW Unit)} (hl : l = Rows.jsonSameRow.laid) (h : laidMetH Tryd.prog l W) : ∃ A, Cond W A := by
  obtain ⟨A, hA⟩ := I2.cond_of hl h
  subst hl
  rw [MakeChecks.laidMetH_plain _ _ _ (by kernel_rfl)] at h
  exact ⟨A, hA, hA.errs.cell 0 (by omega), tabs_of _ h (by simp [Rows.jsonSameRow]) (by simp [Rows.jsonSameRow])⟩

end Go.Proofs.YtnlpdpbmmpeiaaaDoor
