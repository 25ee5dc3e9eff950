/- What the rows' conditions on the listed variables give: the error, the table of texts, the library's tables of UTF-8. -/
import Derived.Test.YtfccfijjojnbbaaDoorNum
import Derived.Test.YtfccfijjojnbbaaDoorShelf
import Derived.Test.YtfccfijjojnbbaaDoorQqm
import Derived.PinnedBridge
import Derived.Lib.LaidU8
import Derived.LaidMore
import Derived.MakeChecks
namespace Go.Proofs.YtfccfijjojnbbaaDoor
open Go.RowKit Go.Lib

theorem below_drewN {B : Nat} {a w : World} (h : Below B a w) (d : Nat) : Below B a (w.drewN d) := ⟨h.os, h.tape, h.output, h.size, h.block⟩

theorem u8x : U8Extra Tryd.prog Tryd.lays260_ren :=
  { n3 := by kernel_rfl, n4 := by kernel_rfl, y3 := by kernel_rfl, y4 := by kernel_rfl, c5 := by kernel_rfl, c119 := by kernel_rfl, c138 := by kernel_rfl }
theorem tabs_of {W : World} (l : List (String × DataW Unit)) (h : laidMet Tryd.prog l W) (h3 : ("unicode/utf8.first", Rows.laid_unicode_utf8_first) ∈ l) (h4 : ("unicode/utf8.acceptRanges", Rows.laid_unicode_utf8_acceptRanges) ∈ l) : Utf8Tabs 14 15 W :=
  utf8Tabs_of_reads Tryd.lays260 u8x
    (by have := laidMet.reads h h3; rw [show Rows.laid_unicode_utf8_first = firstData from Pinned.utf8First_eq] at this; exact this)
    (by have := laidMet.reads h h4; rw [show (Rows.laid_unicode_utf8_acceptRanges : DataW Unit) = acceptData from by kernel_rfl] at this; exact this)

/-! ### the table of texts -/
theorem escLaid : (Rows.laid_haversack_quote_escapes : DataW Unit) = .agg ((List.range 93).map fun i => .lit (.string (escB i))) := by kernel_rfl
theorem cellsStr : Tryd.prog.cellsOf 9 = 1 := by kernel_rfl
theorem esc_of {W : World} (h : VarReads Tryd.prog W "haversack/quote.escapes" Rows.laid_haversack_quote_escapes) (k : Nat) (hk : k < 93) :
    W.cell? ⟨13, k, none⟩ = some (.string ⟨(escB k).toArray⟩) := by
  obtain ⟨g, t, cs, fuel, p, hg, hty, hvar, hd⟩ := h
  rw [escLaid] at hd
  have e1 : Tryd.prog.globalNamed "haversack/quote.escapes" = some 13 := by kernel_rfl
  have e2 : (Tryd.prog.globals[13]?).map (·.type) = some 67 := by kernel_rfl
  obtain rfl := Option.some.inj (e1.symm.trans hg)
  obtain rfl := Option.some.inj (e2.symm.trans hty)
  obtain ⟨fuel', d, q, hdi, he⟩ := array_elem Tryd.underlying67 hd k hk
  simp only [List.getElem?_map, List.getElem?_range hk, Option.map_some, Option.some.injEq] at hdi
  subst hdi
  rw [cellsStr, Nat.mul_one] at he
  obtain ⟨s, hs, hx, _⟩ := DataW.trod_string Tryd.underlying9 he
  simp only [Prod.mk.injEq, DataW.lit.injEq, Lit.string.injEq] at hx
  have e0 := congrArg (·[0]?) hs
  simp only [List.getElem?_take, List.getElem?_drop] at e0
  rw [World.var?_cell hg hvar k, ← Array.getElem?_toList]
  have : s = ⟨(escB k).toArray⟩ := ba_eq hx.1.symm
  rw [← this]
  simpa using e0

structure CondS (w : World) (a : Addr) : Prop where
  syn : w.cell? ⟨0, 0, none⟩ = some (.iface 97 (.pointer (some a)))
  tabs : Utf8Tabs 14 15 w
  esc : ∀ k, k < 93 → w.cell? ⟨13, k, none⟩ = some (.string ⟨(escB k).toArray⟩)

theorem cell_lt {w : World} {b o : Nat} {v : Value} (h : w.cell? ⟨b, o, none⟩ = some v) : b < w.heap.size := by
  rcases Nat.lt_or_ge b w.heap.size with hlt | hge
  · exact hlt
  · simp [World.cell?, Array.getElem?_eq_none hge] at h
theorem CondS.below {w w' : World} {a : Addr} (h : CondS w a) (hb : Below w.heap.size w w') : CondS w' a :=
  ⟨(hb.cell (p := ⟨0, 0, none⟩) (cell_lt h.syn)).trans h.syn, Utf8Tabs_below h.tabs hb,
   fun k hk => (hb.cell (p := ⟨13, k, none⟩) (cell_lt (h.esc k hk))).trans (h.esc k hk)⟩

/-! ### the rows of four variables -/
theorem conds_of {W : World} {l : List (String × DataW Unit)} (hl : l = Rows.quoteEscapesRow.laid) (h : laidMetH Tryd.prog l W) : ∃ a, CondS W a := by
  subst hl
  rw [MakeChecks.laidMetH_plain _ _ _ (by kernel_rfl)] at h
  obtain ⟨ps, hv, hnd, hr⟩ := id h
  obtain ⟨a, h1, _, _⟩ := sent_mem errTypes hv hr (n := "haversack/api.ErrSyntax") (text := eText 0) (g := 0) (by simp [Rows.quoteEscapesRow, sentD, eText, Rows.laid_haversack_api_ErrSyntax]) (by kernel_rfl) (by kernel_rfl)
  have h2 := World.var?_cell (P := Tryd.prog) (n := "haversack/api.ErrSyntax") (g := 0) (by kernel_rfl) h1 0
  exact ⟨a, by simpa using h2, tabs_of _ h (by simp [Rows.quoteEscapesRow]) (by simp [Rows.quoteEscapesRow]), fun k hk => esc_of (laidMet.reads h (by simp [Rows.quoteEscapesRow])) k hk⟩

/-! ### the rows of sixteen -/
theorem eMem : ∀ k, k < 13 → (eName k, sentD "*errors.errorString" (eText k)) ∈ Rows.quoteTakesRow.laid
  | 0, _ => by simp [Rows.quoteTakesRow, eName, eText, sentD, Rows.laid_haversack_api_ErrSyntax]
  | 1, _ => by simp [Rows.quoteTakesRow, eName, eText, sentD, Rows.laid_haversack_api_ErrDepth]
  | 2, _ => by simp [Rows.quoteTakesRow, eName, eText, sentD, Rows.laid_haversack_api_ErrSize]
  | 3, _ => by simp [Rows.quoteTakesRow, eName, eText, sentD, Rows.laid_haversack_api_ErrNumber]
  | 4, _ => by simp [Rows.quoteTakesRow, eName, eText, sentD, Rows.laid_haversack_api_ErrKey]
  | 5, _ => by simp [Rows.quoteTakesRow, eName, eText, sentD, Rows.laid_haversack_api_ErrType]
  | 6, _ => by simp [Rows.quoteTakesRow, eName, eText, sentD, Rows.laid_haversack_api_ErrName]
  | 7, _ => by simp [Rows.quoteTakesRow, eName, eText, sentD, Rows.laid_haversack_api_ErrVersion]
  | 8, _ => by simp [Rows.quoteTakesRow, eName, eText, sentD, Rows.laid_haversack_api_ErrSpec]
  | 9, _ => by simp [Rows.quoteTakesRow, eName, eText, sentD, Rows.laid_haversack_api_ErrRange]
  | 10, _ => by simp [Rows.quoteTakesRow, eName, eText, sentD, Rows.laid_haversack_api_ErrNone]
  | 11, _ => by simp [Rows.quoteTakesRow, eName, eText, sentD, Rows.laid_haversack_api_ErrLimit]
  | 12, _ => by simp [Rows.quoteTakesRow, eName, eText, sentD, Rows.laid_haversack_api_ErrTwice]
  | k + 13, h => absurd h (by omega)

structure Cond (w : World) (A : Nat → Addr) : Prop where
  errs : Errs w A
  s : CondS w (A 0)
theorem Cond.below {w w' : World} {A : Nat → Addr} (h : Cond w A) (hb : Below w.heap.size w w') : Cond w' A := ⟨h.errs.below hb, h.s.below hb⟩

theorem cond_of {W : World} {l : List (String × DataW Unit)} (hl : l = Rows.quoteTakesRow.laid) (h : laidMetH Tryd.prog l W) : ∃ A, Cond W A := by
  subst hl
  rw [MakeChecks.laidMetH_plain _ _ _ (by kernel_rfl)] at h
  obtain ⟨A, hA⟩ := errs_of eMem h
  exact ⟨A, hA, hA.cell 0 (by omega), tabs_of _ h (by simp [Rows.quoteTakesRow]) (by simp [Rows.quoteTakesRow]), fun k hk => esc_of (laidMet.reads h (by simp [Rows.quoteTakesRow])) k hk⟩

end Go.Proofs.YtfccfijjojnbbaaDoor
