/- The listed errors of package api, in the order of the document's table, and the contract of haversacknum.Num: an error's number by that table. -/
import Derived.Test.YtnlpdpbmmpeiaaaDoorIs
import Derived.Test.YtnlpdpbmmpeiaaaDoorSent
import Derived.Stop.IfaceNil
import Derived.WalkSpells
import Derived.Lib.Hide
namespace Go.Proofs.YtnlpdpbmmpeiaaaDoor
open Go.RowKit

theorem nStar : "*" ++ "errors.errorString" = "*errors.errorString" := by decide
theorem rowErr (u : TypeId) (h : Tryd.prog.typeName? 3 u = some "*errors.errorString") : u = 122 :=
  typeName_ptr_named (nm := "errors.errorString") (by rw [nStar]; kernel_rfl) (by kernel_rfl) (by decide) u (by rw [nStar]; exact h)
theorem errTypes : ErrTypes Tryd.prog 31 122 124 9 "*errors.errorString" :=
  { ex := ⟨_, _, Tryd.underlying31, Tryd.underlying124, rfl, rfl⟩, row := rowErr, hp := Tryd.underlying122, hs := Tryd.underlying9, hc := by kernel_rfl, hcs := by kernel_rfl }

/-- the variable of the k-th error -/
def eGl : Nat → Nat
  | 0 => 1
  | 1 => 2
  | 2 => 0
  | 3 => 3
  | 4 => 4
  | 5 => 5
  | 6 => 6
  | 7 => 7
  | 8 => 8
  | 9 => 9
  | 10 => 10
  | 11 => 11
  | 12 => 12
  | _ => 0

structure Errs (w : World) (A : Nat → Addr) : Prop where
  cell : ∀ k, k < 13 → w.cell? ⟨eGl k, 0, none⟩ = some (.iface 122 (.pointer (some (A k))))
  row : ∀ k, k < 13 → ∃ c t, w.heap[(A k).block]? = some (.cells c t (0, 0))
  ne : ∀ k j, k < 13 → j < 13 → k ≠ j → A k ≠ A j

theorem Errs.lt {w : World} {A : Nat → Addr} (h : Errs w A) {k : Nat} (hk : k < 13) : eGl k < w.heap.size := by
  rcases Nat.lt_or_ge (eGl k) w.heap.size with hlt | hge
  · exact hlt
  · have := h.cell k hk
    simp [World.cell?, Array.getElem?_eq_none hge] at this
theorem Errs.below {w w' : World} {A : Nat → Addr} (h : Errs w A) (hb : Below w.heap.size w w') : Errs w' A :=
  ⟨fun k hk => (hb.cell (p := ⟨eGl k, 0, none⟩) (h.lt hk)).trans (h.cell k hk),
   fun k hk => by
    obtain ⟨c, t, hc⟩ := h.row k hk
    exact ⟨c, t, (hb.block _ (Array.getElem?_eq_some_iff.1 hc).1).trans hc⟩, h.ne⟩

def eName : Nat → String
  | 0 => "haversack/api.ErrSyntax"
  | 1 => "haversack/api.ErrDepth"
  | 2 => "haversack/api.ErrSize"
  | 3 => "haversack/api.ErrNumber"
  | 4 => "haversack/api.ErrKey"
  | 5 => "haversack/api.ErrType"
  | 6 => "haversack/api.ErrName"
  | 7 => "haversack/api.ErrVersion"
  | 8 => "haversack/api.ErrSpec"
  | 9 => "haversack/api.ErrRange"
  | 10 => "haversack/api.ErrNone"
  | 11 => "haversack/api.ErrLimit"
  | 12 => "haversack/api.ErrTwice"
  | _ => ""
def eText : Nat → List UInt8
  | 0 => [104, 97, 118, 101, 114, 115, 97, 99, 107, 58, 32, 115, 121, 110, 116, 97, 120]
  | 1 => [104, 97, 118, 101, 114, 115, 97, 99, 107, 58, 32, 100, 101, 112, 116, 104]
  | 2 => [104, 97, 118, 101, 114, 115, 97, 99, 107, 58, 32, 115, 105, 122, 101]
  | 3 => [104, 97, 118, 101, 114, 115, 97, 99, 107, 58, 32, 110, 117, 109, 98, 101, 114]
  | 4 => [104, 97, 118, 101, 114, 115, 97, 99, 107, 58, 32, 107, 101, 121]
  | 5 => [104, 97, 118, 101, 114, 115, 97, 99, 107, 58, 32, 116, 121, 112, 101]
  | 6 => [104, 97, 118, 101, 114, 115, 97, 99, 107, 58, 32, 110, 97, 109, 101]
  | 7 => [104, 97, 118, 101, 114, 115, 97, 99, 107, 58, 32, 118, 101, 114, 115, 105, 111, 110]
  | 8 => [104, 97, 118, 101, 114, 115, 97, 99, 107, 58, 32, 115, 112, 101, 99]
  | 9 => [104, 97, 118, 101, 114, 115, 97, 99, 107, 58, 32, 114, 97, 110, 103, 101]
  | 10 => [104, 97, 118, 101, 114, 115, 97, 99, 107, 58, 32, 110, 111, 110, 101]
  | 11 => [104, 97, 118, 101, 114, 115, 97, 99, 107, 58, 32, 108, 105, 109, 105, 116]
  | 12 => [104, 97, 118, 101, 114, 115, 97, 99, 107, 58, 32, 116, 119, 105, 99, 101]
  | _ => []
theorem eGlob : ∀ k, k < 13 → Tryd.prog.globalNamed (eName k) = some (eGl k)
  | 0, _ => by kernel_rfl
  | 1, _ => by kernel_rfl
  | 2, _ => by kernel_rfl
  | 3, _ => by kernel_rfl
  | 4, _ => by kernel_rfl
  | 5, _ => by kernel_rfl
  | 6, _ => by kernel_rfl
  | 7, _ => by kernel_rfl
  | 8, _ => by kernel_rfl
  | 9, _ => by kernel_rfl
  | 10, _ => by kernel_rfl
  | 11, _ => by kernel_rfl
  | 12, _ => by kernel_rfl
  | k + 13, h => absurd h (by omega)
theorem eType : ∀ k, k < 13 → (Tryd.prog.globals[eGl k]?).map (·.type) = some 31
  | 0, _ => by kernel_rfl
  | 1, _ => by kernel_rfl
  | 2, _ => by kernel_rfl
  | 3, _ => by kernel_rfl
  | 4, _ => by kernel_rfl
  | 5, _ => by kernel_rfl
  | 6, _ => by kernel_rfl
  | 7, _ => by kernel_rfl
  | 8, _ => by kernel_rfl
  | 9, _ => by kernel_rfl
  | 10, _ => by kernel_rfl
  | 11, _ => by kernel_rfl
  | 12, _ => by kernel_rfl
  | k + 13, h => absurd h (by omega)
def eInv (g : Nat) : Nat := if g = 1 then 0 else if g = 2 then 1 else if g = 0 then 2 else if g = 3 then 3 else if g = 4 then 4 else if g = 5 then 5 else if g = 6 then 6 else if g = 7 then 7 else if g = 8 then 8 else if g = 9 then 9 else if g = 10 then 10 else if g = 11 then 11 else if g = 12 then 12 else 13
theorem eInv_gl : ∀ k, k < 13 → eInv (eGl k) = k
  | 0, _ => by decide
  | 1, _ => by decide
  | 2, _ => by decide
  | 3, _ => by decide
  | 4, _ => by decide
  | 5, _ => by decide
  | 6, _ => by decide
  | 7, _ => by decide
  | 8, _ => by decide
  | 9, _ => by decide
  | 10, _ => by decide
  | 11, _ => by decide
  | 12, _ => by decide
  | k + 13, h => absurd h (by omega)
theorem eNe (k j : Nat) (hk : k < 13) (hj : j < 13) (h : k ≠ j) : eName k ≠ eName j := by
  intro e
  have h1 := eGlob k hk
  rw [e, eGlob j hj] at h1
  have h2 := congrArg eInv (Option.some.inj h1)
  rw [eInv_gl k hk, eInv_gl j hj] at h2
  exact h h2.symm

/-- whatever list holds the thirteen errors, as their text lays them -/
theorem errs_of {W : World} {l : List (String × DataW Unit)} (hm : ∀ k, k < 13 → (eName k, sentD "*errors.errorString" (eText k)) ∈ l) (h : laidMet Tryd.prog l W) : ∃ A, Errs W A := by
  obtain ⟨ps, hv, hnd, hr⟩ := h
  have hex : ∀ k, ∃ a : Addr, k < 13 → W.var? Tryd.prog (eName k) = some #[.iface 122 (.pointer (some a))] ∧ ∃ c t, W.heap[a.block]? = some (.cells c t (0, 0)) := fun k => by
    by_cases hk : k < 13
    · obtain ⟨a, h1, _, h3⟩ := sent_mem errTypes hv hr (hm k hk) (eGlob k hk) (eType k hk)
      exact ⟨a, fun _ => ⟨h1, h3⟩⟩
    · exact ⟨⟨0, 0, none⟩, fun h => absurd h hk⟩
  refine ⟨fun k => Classical.choose (hex k), ⟨fun k hk => ?_, fun k hk => (Classical.choose_spec (hex k) hk).2, fun k j hk hj hne => ?_⟩⟩
  · have := World.var?_cell (eGlob k hk) (Classical.choose_spec (hex k) hk).1 0
    simpa using this
  · exact sent_ne errTypes hv hnd hr (hm k hk) (hm j hj) (eNe k j hk hj hne) (eGlob k hk) (eGlob j hj) (eType k hk) (eType j hj) (Classical.choose_spec (hex k) hk).1 (Classical.choose_spec (hex j) hj).1

def numW (w : World) (A : Nat → Addr) : World := w.alloc (.cells #[.iface 122 (.pointer (some (A 0))), .iface 122 (.pointer (some (A 1))), .iface 122 (.pointer (some (A 2))), .iface 122 (.pointer (some (A 3))), .iface 122 (.pointer (some (A 4))), .iface 122 (.pointer (some (A 5))), .iface 122 (.pointer (some (A 6))), .iface 122 (.pointer (some (A 7))), .iface 122 (.pointer (some (A 8))), .iface 122 (.pointer (some (A 9))), .iface 122 (.pointer (some (A 10))), .iface 122 (.pointer (some (A 11))), .iface 122 (.pointer (some (A 12)))] 31)
theorem numW_cell (w : World) (A : Nat → Addr) : ∀ k, k < 13 → (numW w A).cell? ⟨w.heap.size, k, none⟩ = some (.iface 122 (.pointer (some (A k)))) := by
  intro k hk
  have h := cell_of_row (numW w A) w.heap.size k _ 31 (0, 0) (heap_alloc_new w _)
  rw [h]
  match k, hk with
  | 0, _ => rfl
  | 1, _ => rfl
  | 2, _ => rfl
  | 3, _ => rfl
  | 4, _ => rfl
  | 5, _ => rfl
  | 6, _ => rfl
  | 7, _ => rfl
  | 8, _ => rfl
  | 9, _ => rfl
  | 10, _ => rfl
  | 11, _ => rfl
  | 12, _ => rfl
  | k + 13, h => exact absurd h (by omega)
theorem numW_below (w : World) (A : Nat → Addr) : Below w.heap.size w (numW w A) := (Below.refl _ _).alloc (Nat.le_refl _) _

set_option maxHeartbeats 400000 in
theorem num_nil (w : World) : Calls Tryd.prog 12 #[.nilIface] w fun e w' => e = .returned (.int .i64 0) ∧ w = w' := by
  have hn := @run_eql_nil_nil_at Tryd.prog w 31 (by kernel_rfl)
  go_enter Tryd.func12, Tryd.ntmps12
  go_wp2
  go_ret
  exact ⟨rfl, rfl⟩

set_option maxRecDepth 100000 in
set_option maxHeartbeats 1000000 in
theorem num_any (A : Nat → Addr) (w : World) (hE : Errs w A) (t : Nat) (ht : t < 13) :
    Calls Tryd.prog 12 #[.iface 122 (.pointer (some (A t)))] w fun e w' => e = .returned (.int .i64 (t + 1)) ∧ Below w.heap.size w w' := by
  have c0 : w.cell? ⟨1, 0, none⟩ = _ := hE.cell 0 (by omega)
  have c1 : w.cell? ⟨2, 0, none⟩ = _ := hE.cell 1 (by omega)
  have c2 : w.cell? ⟨0, 0, none⟩ = _ := hE.cell 2 (by omega)
  have c3 : w.cell? ⟨3, 0, none⟩ = _ := hE.cell 3 (by omega)
  have c4 : w.cell? ⟨4, 0, none⟩ = _ := hE.cell 4 (by omega)
  have c5 : w.cell? ⟨5, 0, none⟩ = _ := hE.cell 5 (by omega)
  have c6 : w.cell? ⟨6, 0, none⟩ = _ := hE.cell 6 (by omega)
  have c7 : w.cell? ⟨7, 0, none⟩ = _ := hE.cell 7 (by omega)
  have c8 : w.cell? ⟨8, 0, none⟩ = _ := hE.cell 8 (by omega)
  have c9 : w.cell? ⟨9, 0, none⟩ = _ := hE.cell 9 (by omega)
  have c10 : w.cell? ⟨10, 0, none⟩ = _ := hE.cell 10 (by omega)
  have c11 : w.cell? ⟨11, 0, none⟩ = _ := hE.cell 11 (by omega)
  have c12 : w.cell? ⟨12, 0, none⟩ = _ := hE.cell 12 (by omega)
  have HN := Lib.hid (numW_cell w A)
  have hE2 := hE.below (numW_below w A)
  have hnl := fun (x : Value) => @run_eql_iface_nil Tryd.prog w 31 (by kernel_rfl) 122 x
  have HE : Hid (Errs (numW w A) A) := hE2
  clear hE hE2
  go_enter Tryd.func12, Tryd.ntmps12
  go_wp2
  go_loopw [4, 5, 24] (fun _ _ i wr => ∃ k : Nat, k ≤ t ∧ i = .int .i64 k ∧ wr = numW w A) (fun _ _ i _ => 13 - (intOf i).toNat)
  case atStart => exact ⟨0, by omega, rfl, rfl⟩
  case round =>
    obtain ⟨k, hk, rfl, rfl⟩ := hrel
    have hc := HN.out k (by omega)
    have hk13 : k < 13 := by omega
    by_cases he : k = t
    · subst he
      go_wp2_with (go_at_call 19; refine (is_same _ _).mono ?_; rintro e w' ⟨rfl, rfl⟩)
      go_ret
      exact ⟨rfl, numW_below w A⟩
    · obtain ⟨ca, ta, ha⟩ := HE.out.row t ht
      obtain ⟨cb, tb, hb⟩ := HE.out.row k hk13
      have hne : A t ≠ A k := HE.out.ne _ _ ht hk13 (fun e => he e.symm)
      have hI := is_other _ _ _ _ _ _ (numW w A) hne ha hb
      clear ha hb hne
      go_wp2_with (go_at_call 19; refine hI.mono ?_; rintro e w' ⟨rfl, rfl⟩)
      go_roundw
      case rel => exact ⟨k + 1, by omega, by go_num, by first | trivial | rfl⟩
      case measure => simp [intOf]; omega

end Go.Proofs.YtnlpdpbmmpeiaaaDoor
