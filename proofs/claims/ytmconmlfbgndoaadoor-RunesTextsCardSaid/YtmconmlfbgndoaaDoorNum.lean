/- The listed errors of package api, and the contract of haversacknum.Num: an error's number by the document's table. -/
import Derived.Test.YtmconmlfbgndoaaDoorIs
import Derived.Test.YtmconmlfbgndoaaDoorSent
import Derived.MakeChecks
import Derived.Stop.IfaceNil
import Derived.WalkSpells
import Derived.Lib.Hide
namespace Go.Proofs.YtmconmlfbgndoaaDoor
open Go.RowKit

theorem nStar : "*" ++ "errors.errorString" = "*errors.errorString" := by decide
theorem rowErr (u : TypeId) (h : Tryd.prog.typeName? 3 u = some "*errors.errorString") : u = 75 :=
  typeName_ptr_named (nm := "errors.errorString") (by rw [nStar]; kernel_rfl) (by kernel_rfl) (by decide) u (by rw [nStar]; exact h)
theorem errTypes : ErrTypes Tryd.prog 39 75 100 9 "*errors.errorString" :=
  { ex := ⟨_, _, Tryd.underlying39, Tryd.underlying100, rfl, rfl⟩, row := rowErr, hp := Tryd.underlying75, hs := Tryd.underlying9, hc := by kernel_rfl, hcs := by kernel_rfl }

structure Errs (w : World) (A : Nat → Addr) : Prop where
  cell : ∀ g, g < 13 → w.cell? ⟨g, 0, none⟩ = some (.iface 75 (.pointer (some (A g))))
  row : ∀ g, g < 13 → ∃ c t, w.heap[(A g).block]? = some (.cells c t (0, 0))
  ne : ∀ g k, g < 13 → k < 13 → g ≠ k → A g ≠ A k

theorem Errs.lt {w : World} {A : Nat → Addr} (h : Errs w A) {g : Nat} (hg : g < 13) : g < w.heap.size := by
  rcases Nat.lt_or_ge g w.heap.size with hlt | hge
  · exact hlt
  · have := h.cell g hg
    simp [World.cell?, Array.getElem?_eq_none hge] at this
theorem Errs.below {w w' : World} {A : Nat → Addr} (h : Errs w A) (hb : Below w.heap.size w w') : Errs w' A :=
  ⟨fun g hg => (hb.cell (p := ⟨g, 0, none⟩) (h.lt hg)).trans (h.cell g hg),
   fun g hg => by
    obtain ⟨c, t, hc⟩ := h.row g hg
    exact ⟨c, t, (hb.block _ (Array.getElem?_eq_some_iff.1 hc).1).trans hc⟩, h.ne⟩

def eName : Nat → String
  | 0 => "haversack/api.ErrRange"
  | 1 => "haversack/api.ErrSyntax"
  | 2 => "haversack/api.ErrDepth"
  | 3 => "haversack/api.ErrSize"
  | 4 => "haversack/api.ErrNumber"
  | 5 => "haversack/api.ErrKey"
  | 6 => "haversack/api.ErrType"
  | 7 => "haversack/api.ErrName"
  | 8 => "haversack/api.ErrVersion"
  | 9 => "haversack/api.ErrSpec"
  | 10 => "haversack/api.ErrNone"
  | 11 => "haversack/api.ErrLimit"
  | 12 => "haversack/api.ErrTwice"
  | _ => ""
def eText : Nat → List UInt8
  | 0 => [104, 97, 118, 101, 114, 115, 97, 99, 107, 58, 32, 114, 97, 110, 103, 101]
  | 1 => [104, 97, 118, 101, 114, 115, 97, 99, 107, 58, 32, 115, 121, 110, 116, 97, 120]
  | 2 => [104, 97, 118, 101, 114, 115, 97, 99, 107, 58, 32, 100, 101, 112, 116, 104]
  | 3 => [104, 97, 118, 101, 114, 115, 97, 99, 107, 58, 32, 115, 105, 122, 101]
  | 4 => [104, 97, 118, 101, 114, 115, 97, 99, 107, 58, 32, 110, 117, 109, 98, 101, 114]
  | 5 => [104, 97, 118, 101, 114, 115, 97, 99, 107, 58, 32, 107, 101, 121]
  | 6 => [104, 97, 118, 101, 114, 115, 97, 99, 107, 58, 32, 116, 121, 112, 101]
  | 7 => [104, 97, 118, 101, 114, 115, 97, 99, 107, 58, 32, 110, 97, 109, 101]
  | 8 => [104, 97, 118, 101, 114, 115, 97, 99, 107, 58, 32, 118, 101, 114, 115, 105, 111, 110]
  | 9 => [104, 97, 118, 101, 114, 115, 97, 99, 107, 58, 32, 115, 112, 101, 99]
  | 10 => [104, 97, 118, 101, 114, 115, 97, 99, 107, 58, 32, 110, 111, 110, 101]
  | 11 => [104, 97, 118, 101, 114, 115, 97, 99, 107, 58, 32, 108, 105, 109, 105, 116]
  | 12 => [104, 97, 118, 101, 114, 115, 97, 99, 107, 58, 32, 116, 119, 105, 99, 101]
  | _ => []

theorem eMem : ∀ g, g < 13 → (eName g, sentD "*errors.errorString" (eText g)) ∈ Rows.runesTextsRow.laid
  | 0, _ => by simp [Rows.runesTextsRow, eName, eText, sentD, Rows.laid_haversack_api_ErrRange]
  | 1, _ => by simp [Rows.runesTextsRow, eName, eText, sentD, Rows.laid_haversack_api_ErrSyntax]
  | 2, _ => by simp [Rows.runesTextsRow, eName, eText, sentD, Rows.laid_haversack_api_ErrDepth]
  | 3, _ => by simp [Rows.runesTextsRow, eName, eText, sentD, Rows.laid_haversack_api_ErrSize]
  | 4, _ => by simp [Rows.runesTextsRow, eName, eText, sentD, Rows.laid_haversack_api_ErrNumber]
  | 5, _ => by simp [Rows.runesTextsRow, eName, eText, sentD, Rows.laid_haversack_api_ErrKey]
  | 6, _ => by simp [Rows.runesTextsRow, eName, eText, sentD, Rows.laid_haversack_api_ErrType]
  | 7, _ => by simp [Rows.runesTextsRow, eName, eText, sentD, Rows.laid_haversack_api_ErrName]
  | 8, _ => by simp [Rows.runesTextsRow, eName, eText, sentD, Rows.laid_haversack_api_ErrVersion]
  | 9, _ => by simp [Rows.runesTextsRow, eName, eText, sentD, Rows.laid_haversack_api_ErrSpec]
  | 10, _ => by simp [Rows.runesTextsRow, eName, eText, sentD, Rows.laid_haversack_api_ErrNone]
  | 11, _ => by simp [Rows.runesTextsRow, eName, eText, sentD, Rows.laid_haversack_api_ErrLimit]
  | 12, _ => by simp [Rows.runesTextsRow, eName, eText, sentD, Rows.laid_haversack_api_ErrTwice]
  | g + 13, h => absurd h (by omega)
theorem eGlob : ∀ g, g < 13 → Tryd.prog.globalNamed (eName g) = some g
  | 0, _ => by kernel_rfl
  | 1, _ => by kernel_rfl
  | 2, _ => by kernel_rfl
  | 3, _ => by kernel_rfl
  | 4, _ => by kernel_rfl
  | 5, _ => by kernel_rfl
  | 6, _ => by kernel_rfl
  | 7, _ => by kernel_rfl
  | 8, _ => by kernel_rfl
  | 9, _ => by kernel_rfl
  | 10, _ => by kernel_rfl
  | 11, _ => by kernel_rfl
  | 12, _ => by kernel_rfl
  | g + 13, h => absurd h (by omega)
theorem eType : ∀ g, g < 13 → (Tryd.prog.globals[g]?).map (·.type) = some 39
  | 0, _ => by kernel_rfl
  | 1, _ => by kernel_rfl
  | 2, _ => by kernel_rfl
  | 3, _ => by kernel_rfl
  | 4, _ => by kernel_rfl
  | 5, _ => by kernel_rfl
  | 6, _ => by kernel_rfl
  | 7, _ => by kernel_rfl
  | 8, _ => by kernel_rfl
  | 9, _ => by kernel_rfl
  | 10, _ => by kernel_rfl
  | 11, _ => by kernel_rfl
  | 12, _ => by kernel_rfl
  | g + 13, h => absurd h (by omega)
theorem eNe (g k : Nat) (hg : g < 13) (hk : k < 13) (h : g ≠ k) : eName g ≠ eName k := by
  intro e
  have h1 := eGlob g hg
  rw [e, eGlob k hk] at h1
  exact h (Option.some.inj h1).symm

theorem errs_of {W : World} (h : laidMet Tryd.prog Rows.runesTextsRow.laid W) : ∃ A, Errs W A := by
  obtain ⟨ps, hv, hnd, hr⟩ := h
  have hex : ∀ g, ∃ a : Addr, g < 13 → W.var? Tryd.prog (eName g) = some #[.iface 75 (.pointer (some a))] ∧ ∃ c t, W.heap[a.block]? = some (.cells c t (0, 0)) := fun g => by
    by_cases hg : g < 13
    · obtain ⟨a, h1, _, h3⟩ := sent_mem errTypes hv hr (eMem g hg) (eGlob g hg) (eType g hg)
      exact ⟨a, fun _ => ⟨h1, h3⟩⟩
    · exact ⟨⟨0, 0, none⟩, fun h => absurd h hg⟩
  refine ⟨fun g => Classical.choose (hex g), ⟨fun g hg => ?_, fun g hg => (Classical.choose_spec (hex g) hg).2, fun g k hg hk hne => ?_⟩⟩
  · have := World.var?_cell (eGlob g hg) (Classical.choose_spec (hex g) hg).1 0
    simpa using this
  · exact sent_ne errTypes hv hnd hr (eMem g hg) (eMem k hk) (eNe g k hg hk hne) (eGlob g hg) (eGlob k hk) (eType g hg) (eType k hk) (Classical.choose_spec (hex g) hg).1 (Classical.choose_spec (hex k) hk).1

/-- the variable that stands k-th in the document's table -/
def ord : Nat → Nat
  | 0 => 1
  | 1 => 2
  | 2 => 3
  | 3 => 4
  | 4 => 5
  | 5 => 6
  | 6 => 7
  | 7 => 8
  | 8 => 9
  | 9 => 0
  | 10 => 10
  | 11 => 11
  | 12 => 12
  | k + 13 => k + 13
theorem ord_lt : ∀ k, k < 13 → ord k < 13
  | 0, _ => by decide
  | 1, _ => by decide
  | 2, _ => by decide
  | 3, _ => by decide
  | 4, _ => by decide
  | 5, _ => by decide
  | 6, _ => by decide
  | 7, _ => by decide
  | 8, _ => by decide
  | 9, _ => by decide
  | 10, _ => by decide
  | 11, _ => by decide
  | 12, _ => by decide
  | k + 13, h => absurd h (by omega)
def ordB : Nat → Nat
  | 0 => 9
  | 1 => 0
  | 2 => 1
  | 3 => 2
  | 4 => 3
  | 5 => 4
  | 6 => 5
  | 7 => 6
  | 8 => 7
  | 9 => 8
  | 10 => 10
  | 11 => 11
  | 12 => 12
  | k + 13 => k + 13
theorem ordB_ord : ∀ k, ordB (ord k) = k
  | 0 => rfl
  | 1 => rfl
  | 2 => rfl
  | 3 => rfl
  | 4 => rfl
  | 5 => rfl
  | 6 => rfl
  | 7 => rfl
  | 8 => rfl
  | 9 => rfl
  | 10 => rfl
  | 11 => rfl
  | 12 => rfl
  | k + 13 => rfl

def numW (w : World) (A : Nat → Addr) : World := w.alloc (.cells #[.iface 75 (.pointer (some (A 1))), .iface 75 (.pointer (some (A 2))), .iface 75 (.pointer (some (A 3))), .iface 75 (.pointer (some (A 4))), .iface 75 (.pointer (some (A 5))), .iface 75 (.pointer (some (A 6))), .iface 75 (.pointer (some (A 7))), .iface 75 (.pointer (some (A 8))), .iface 75 (.pointer (some (A 9))), .iface 75 (.pointer (some (A 0))), .iface 75 (.pointer (some (A 10))), .iface 75 (.pointer (some (A 11))), .iface 75 (.pointer (some (A 12)))] 39)
theorem numW_cell (w : World) (A : Nat → Addr) : ∀ k, k < 13 → (numW w A).cell? ⟨w.heap.size, k, none⟩ = some (.iface 75 (.pointer (some (A (ord k))))) := by
  intro k hk
  have h := cell_of_row (numW w A) w.heap.size k _ 39 (0, 0) (heap_alloc_new w _)
  rw [h]
  match k, hk with
  | 0, _ => rfl
  | 1, _ => rfl
  | 2, _ => rfl
  | 3, _ => rfl
  | 4, _ => rfl
  | 5, _ => rfl
  | 6, _ => rfl
  | 7, _ => rfl
  | 8, _ => rfl
  | 9, _ => rfl
  | 10, _ => rfl
  | 11, _ => rfl
  | 12, _ => rfl
  | k + 13, h => exact absurd h (by omega)
theorem numW_below (w : World) (A : Nat → Addr) : Below w.heap.size w (numW w A) := (Below.refl _ _).alloc (Nat.le_refl _) _

set_option maxHeartbeats 400000 in
theorem num_nil (w : World) : Calls Tryd.prog 19 #[.nilIface] w fun e w' => e = .returned (.int .i64 0) ∧ w = w' := by
  have hn := @run_eql_nil_nil_at Tryd.prog w 39 (by kernel_rfl)
  go_enter Tryd.func19, Tryd.ntmps19
  go_wp2
  go_ret
  exact ⟨rfl, rfl⟩

set_option maxRecDepth 100000 in
set_option maxHeartbeats 1000000 in
theorem num_any (A : Nat → Addr) (w : World) (hE : Errs w A) (t : Nat) (ht : t < 13) :
    Calls Tryd.prog 19 #[.iface 75 (.pointer (some (A (ord t))))] w fun e w' => e = .returned (.int .i64 (t + 1)) ∧ Below w.heap.size w w' := by
  have c0 := hE.cell 0 (by omega)
  have c1 := hE.cell 1 (by omega)
  have c2 := hE.cell 2 (by omega)
  have c3 := hE.cell 3 (by omega)
  have c4 := hE.cell 4 (by omega)
  have c5 := hE.cell 5 (by omega)
  have c6 := hE.cell 6 (by omega)
  have c7 := hE.cell 7 (by omega)
  have c8 := hE.cell 8 (by omega)
  have c9 := hE.cell 9 (by omega)
  have c10 := hE.cell 10 (by omega)
  have c11 := hE.cell 11 (by omega)
  have c12 := hE.cell 12 (by omega)
  have HN := Lib.hid (numW_cell w A)
  have hE2 := hE.below (numW_below w A)
  have hnl := fun (x : Value) => @run_eql_iface_nil Tryd.prog w 39 (by kernel_rfl) 75 x
  have HE : Hid (Errs (numW w A) A) := hE2
  clear hE hE2
  go_enter Tryd.func19, Tryd.ntmps19
  go_wp2
  go_loopw [4, 5, 24] (fun _ _ i wr => ∃ k : Nat, k ≤ t ∧ i = .int .i64 k ∧ wr = numW w A) (fun _ _ i _ => 13 - (intOf i).toNat)
  case atStart => exact ⟨0, by omega, rfl, rfl⟩
  case round =>
    obtain ⟨k, hk, rfl, rfl⟩ := hrel
    have hc := HN.out k (by omega)
    have hk13 : k < 13 := by omega
    by_cases he : k = t
    · subst he
      go_wp2_with (go_at_call 27; refine (is_same _ _).mono ?_; rintro e w' ⟨rfl, rfl⟩)
      go_ret
      exact ⟨rfl, numW_below w A⟩
    · obtain ⟨ca, ta, ha⟩ := HE.out.row (ord t) (ord_lt t ht)
      obtain ⟨cb, tb, hb⟩ := HE.out.row (ord k) (ord_lt k hk13)
      have hne : A (ord t) ≠ A (ord k) := HE.out.ne _ _ (ord_lt t ht) (ord_lt k hk13) (fun e => he (by rw [← ordB_ord k, ← e, ordB_ord]))
      have hI := is_other _ _ _ _ _ _ (numW w A) hne ha hb
      clear ha hb hne
      go_wp2_with (go_at_call 27; refine hI.mono ?_; rintro e w' ⟨rfl, rfl⟩)
      go_roundw
      case rel => exact ⟨k + 1, by omega, by go_num, by first | trivial | rfl⟩
      case measure => simp [intOf]; omega

end Go.Proofs.YtmconmlfbgndoaaDoor
