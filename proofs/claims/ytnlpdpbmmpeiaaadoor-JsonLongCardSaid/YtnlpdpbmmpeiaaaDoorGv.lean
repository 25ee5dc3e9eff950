/- The program's reader of JSON: leave. -/
import Derived.Test.YtnlpdpbmmpeiaaaDoorGe
namespace Go.Proofs.YtnlpdpbmmpeiaaaDoor
open Go.RowKit Go.Maps
open I2 (errVal)

/-- the last holder's cells -/
theorem top_cell {w : World} {N n g cap : Nat} {hs : List HRec} {h : HRec} (hn : hs.length = n) (row : w.ownsRow N 64 6 (.slice (some ⟨g, 0, none⟩) (n + 1) cap) (n + 1) ((hs ++ [h]).flatMap HRec.cells)) (j : Nat) (hj : j < 6) : w.cell? ⟨g, n * 6 + j, none⟩ = h.cells[j]? := by
  subst hn
  rw [row.cellAt _ (by omega), cells_snoc, List.getElem?_append_right (by rw [cells_len]; omega), cells_len]
  congr 1
  omega

theorem own_form {w : World} {base : Nat} {e : TypeId} {size : Nat} {v : Value} {n : Nat} {xs : List Value} (h : w.ownsRow base e size v n xs) : ∃ A cap, v = .slice A n cap := by
  rcases h.2 with ⟨rfl, h0⟩ | ⟨g, cap, cur, rfl, _⟩
  · exact ⟨none, 0, by rw [h0]⟩
  · exact ⟨_, _, rfl⟩

theorem own_cap {w : World} {base : Nat} {e : TypeId} {size n cap : Nat} {A : Option Addr} {xs : List Value} (h : w.ownsRow base e size (.slice A n cap) n xs) : n ≤ cap := by
  rcases h.2 with ⟨h1, h0⟩ | ⟨g, cap', cur, h1, _, _, h2, _⟩
  · omega
  · injection h1 with _ _ h1; omega

section
variable (R B : Nat) (s : ByteArray) (k c c0 : Nat) (L : LV) (w : World) (A : Nat → Addr) (own : Nat → Nat) (hs : List HRec) (h : HRec) (n g cap : Nat)

set_option maxRecDepth 100000 in
set_option maxHeartbeats 1000000 in
theorem leave_any (hR : RdP w R s k c (.slice (some ⟨g, 0, none⟩) (n + 1) cap) L) (hS : Stk w (R + 1) own (.slice (some ⟨g, 0, none⟩) (n + 1) cap) (hs ++ [h]) c0) (hn : hs.length = n) :
    Calls Tryd.prog 25 #[.pointer (some ⟨R, 0, none⟩)] w fun x w' => x = .returned (.tuple #[]) ∧ RdP w' R s k c (.slice (some ⟨g, 0, none⟩) n cap) ⟨.int .i64 h.fr.kind, .int .i64 0, .string ⟨#[]⟩, h.kv, h.cv⟩ ∧ w.grownBy w' (some R) := by
  have hrow := hS.row
  rw [List.length_append, List.length_singleton, hn] at hrow
  have hnl : n < 32 := by have := hS.deep; simp at this; omega
  have hgR : R + 1 ≤ g := (hrow.lt g rfl).1
  have c3 := hR.c3
  have t0 : w.cell? ⟨g, n * 6, none⟩ = some (.int .i64 h.fr.kind) := top_cell hn hrow 0 (by omega)
  have t1 : w.cell? ⟨g, n * 6 + 1, none⟩ = some (.int .i64 0) := top_cell hn hrow 1 (by omega)
  have t2 : w.cell? ⟨g, n * 6 + 2, none⟩ = some (.string ⟨#[]⟩) := top_cell hn hrow 2 (by omega)
  have t3 : w.cell? ⟨g, n * 6 + 3, none⟩ = some h.kv := top_cell hn hrow 3 (by omega)
  have t4 : w.cell? ⟨g, n * 6 + 4, none⟩ = some h.cv := top_cell hn hrow 4 (by omega)
  obtain ⟨A1, q1, e1⟩ := own_form hS.low.2.1.keys
  obtain ⟨A2, q2, e2⟩ := own_form hS.low.2.1.kids
  rw [e1] at t3
  rw [e2] at t4
  rw [e1, e2]
  have hcap := own_cap hrow
  have hc0 : ¬ cap = 0 := by omega
  have hc1 : n ≤ cap := by omega
  have f := hR.fz
  have r4 := hR.c4
  have r5 := hR.c5
  have r6 := hR.c6
  have r7 := hR.c7
  have r8 := hR.c8
  clear hS hrow hn
  have HR := Lib.hid hR
  clear hR
  clear e1 e2
  go_enter Tryd.func25, Tryd.ntmps25
  go_wp2
  go_end0
  exact ⟨rfl, (((((HR.out.set4 _).set5 _).set6 _).set7 _).set8 _).set3 _, gb_set (gb_set (gb_set (gb_set (gb_set (gb_set (gb_refl _ _) _) _) _) _) _) _⟩
end

end Go.Proofs.YtnlpdpbmmpeiaaaDoor
