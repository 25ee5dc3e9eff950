/- What the rows' conditions on the listed variables give: the thirteen errors; strconv.ErrRange holds an error; the table of powers of ten. -/
import Derived.Test.YtnlpdpbmmpeiaaaDoorNum
import Derived.Test.YtnlpdpbmmpeiaaaDoorShelf
import Derived.Lib.AppendIntMem
import Derived.MakeChecks
namespace Go.Proofs.YtnlpdpbmmpeiaaaDoor.I2
open Go.RowKit

theorem below_drewN {B : Nat} {a w : World} (h : Below B a w) (d : Nat) : Below B a (w.drewN d) := ⟨h.os, h.tape, h.output, h.size, h.block⟩

structure Cond (w : World) (A : Nat → Addr) : Prop where
  errs : Errs w A
  rng : ∃ tp p, w.cell? ⟨14, 0, none⟩ = some (.iface tp p)
  tab : Lib.TabIs Tryd.prog w "internal/strconv.uint64pow10" .u64 Lib.pow10Tab

theorem cell_lt {w : World} {b o : Nat} {v : Value} (h : w.cell? ⟨b, o, none⟩ = some v) : b < w.heap.size := by
  rcases Nat.lt_or_ge b w.heap.size with hlt | hge
  · exact hlt
  · simp [World.cell?, Array.getElem?_eq_none hge] at h

theorem Cond.below {w w' : World} {A : Nat → Addr} (h : Cond w A) (hb : Below w.heap.size w w') : Cond w' A :=
  ⟨h.errs.below hb, by
    obtain ⟨tp, p, hr⟩ := h.rng
    exact ⟨tp, p, (hb.cell (p := ⟨14, 0, none⟩) (cell_lt hr)).trans hr⟩,
   Lib.tabBelow_of_tabIs h.tab w' hb⟩

theorem eMem : ∀ k, k < 13 → (eName k, sentD "*errors.errorString" (eText k)) ∈ Rows.jsonSameRow.laid
  | 0, _ => by simp [Rows.jsonSameRow, eName, eText, sentD, Rows.laid_haversack_api_ErrSyntax]
  | 1, _ => by simp [Rows.jsonSameRow, eName, eText, sentD, Rows.laid_haversack_api_ErrDepth]
  | 2, _ => by simp [Rows.jsonSameRow, eName, eText, sentD, Rows.laid_haversack_api_ErrSize]
  | 3, _ => by simp [Rows.jsonSameRow, eName, eText, sentD, Rows.laid_haversack_api_ErrNumber]
  | 4, _ => by simp [Rows.jsonSameRow, eName, eText, sentD, Rows.laid_haversack_api_ErrKey]
  | 5, _ => by simp [Rows.jsonSameRow, eName, eText, sentD, Rows.laid_haversack_api_ErrType]
  | 6, _ => by simp [Rows.jsonSameRow, eName, eText, sentD, Rows.laid_haversack_api_ErrName]
  | 7, _ => by simp [Rows.jsonSameRow, eName, eText, sentD, Rows.laid_haversack_api_ErrVersion]
  | 8, _ => by simp [Rows.jsonSameRow, eName, eText, sentD, Rows.laid_haversack_api_ErrSpec]
  | 9, _ => by simp [Rows.jsonSameRow, eName, eText, sentD, Rows.laid_haversack_api_ErrRange]
  | 10, _ => by simp [Rows.jsonSameRow, eName, eText, sentD, Rows.laid_haversack_api_ErrNone]
  | 11, _ => by simp [Rows.jsonSameRow, eName, eText, sentD, Rows.laid_haversack_api_ErrLimit]
  | 12, _ => by simp [Rows.jsonSameRow, eName, eText, sentD, Rows.laid_haversack_api_ErrTwice]
  | k + 13, h => absurd h (by omega)
theorem rMem : ("strconv.ErrRange", sentD "*errors.errorString" [118, 97, 108, 117, 101, 32, 111, 117, 116, 32, 111, 102, 32, 114, 97, 110, 103, 101]) ∈ Rows.jsonSameRow.laid := by
  simp [Rows.jsonSameRow, sentD, Rows.laid_strconv_ErrRange]
theorem laidTail : ∃ a b r, Rows.jsonSameRow.laid = a :: b :: ("internal/strconv.uint64pow10", Lib.tabData .u64 Lib.pow10Tab) :: r :=
  ⟨("math/bits.deBruijn32tab", Rows.laid_math_bits_deBruijn32tab), ("math/bits.deBruijn64tab", Rows.laid_math_bits_deBruijn64tab), Rows.jsonSameRow.laid.drop 3, by kernel_rfl⟩

theorem cond_of {W : World} {l : List (String × DataW Unit)} (hl : l = Rows.jsonSameRow.laid) (h : laidMetH Tryd.prog l W) : ∃ A, Cond W A := by
  subst hl
  rw [MakeChecks.laidMetH_plain _ _ _ (by kernel_rfl)] at h
  obtain ⟨A, hA⟩ := errs_of eMem h
  refine ⟨A, hA, ?_, ?_⟩
  · obtain ⟨ps, hv, hnd, hr⟩ := h
    obtain ⟨a, h1, _, _⟩ := sent_mem errTypes hv hr rMem (g := 14) (by kernel_rfl) (by kernel_rfl)
    have := World.var?_cell (P := Tryd.prog) (n := "strconv.ErrRange") (g := 14) (by kernel_rfl) h1 0
    exact ⟨_, _, by simpa using this⟩
  · obtain ⟨a, b, r, e⟩ := laidTail
    rw [e] at h
    exact Lib.tabIs_of_head (t := 134) (e := 101) (n := 20) (g := 17) (by kernel_rfl) (by kernel_rfl) Tryd.underlying134 Tryd.underlying101 (by kernel_rfl) (by kernel_rfl) h.tail.tail

end Go.Proofs.YtnlpdpbmmpeiaaaDoor.I2
