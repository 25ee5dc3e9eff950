/- What the row's condition on the library's two tables gives: the tables read as Go's own. -/
import Derived.Test.YtmconmlfbgndoaaDoorRows
import Derived.Test.YtmconmlfbgndoaaDoorShelf
import Derived.PinnedBridge
import Derived.Lib.LaidU8
import Derived.LaidMore
import Derived.MakeChecks
namespace Go.Proofs.YtmconmlfbgndoaaDoor
open Go.RowKit Go.Lib

theorem u8x : U8Extra Tryd.prog Tryd.lays260_ren :=
  { n3 := by kernel_rfl, n4 := by kernel_rfl, y3 := by kernel_rfl, y4 := by kernel_rfl, c5 := by kernel_rfl, c119 := by kernel_rfl, c138 := by kernel_rfl }

theorem tabs_of {W : World} (l : List (String × DataW Unit)) (h : laidMet Tryd.prog l W) (h3 : ("unicode/utf8.first", Rows.laid_unicode_utf8_first) ∈ l) (h4 : ("unicode/utf8.acceptRanges", Rows.laid_unicode_utf8_acceptRanges) ∈ l) : Utf8Tabs 13 14 W :=
  utf8Tabs_of_reads Tryd.lays260 u8x
    (by have := laidMet.reads h h3; rw [show Rows.laid_unicode_utf8_first = firstData from Pinned.utf8First_eq] at this; exact this)
    (by have := laidMet.reads h h4; rw [show (Rows.laid_unicode_utf8_acceptRanges : DataW Unit) = acceptData from by kernel_rfl] at this; exact this)

theorem tabs_of_row {W : World} (h : laidMetH Tryd.prog Rows.runesDecodeRow.laid W) : Utf8Tabs 13 14 W := by
  rw [MakeChecks.laidMetH_plain _ _ _ (by kernel_rfl)] at h
  exact tabs_of _ h (by simp [Rows.runesDecodeRow]) (by simp [Rows.runesDecodeRow])

end Go.Proofs.YtmconmlfbgndoaaDoor
