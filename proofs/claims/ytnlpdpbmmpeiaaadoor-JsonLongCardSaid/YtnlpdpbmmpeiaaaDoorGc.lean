/- The program's reader of JSON: what stays of the conditions; begin, end. -/
import Derived.Test.YtnlpdpbmmpeiaaaDoorGb
import Derived.Test.YtnlpdpbmmpeiaaaDoorQtk
import Derived.Test.YtnlpdpbmmpeiaaaDoorTak
namespace Go.Proofs.YtnlpdpbmmpeiaaaDoor
open Go.RowKit
open I2 (errVal)

/-- the conditions, all of whose blocks lie below B -/
def CondB (B : Nat) (w : World) (A : Nat → Addr) : Prop := ∃ w0, Cond w0 A ∧ w0.heap.size ≤ B ∧ w0.heap.size ≤ w.heap.size ∧ Below w0.heap.size w0 w
theorem CondB.cond {B : Nat} {w : World} {A : Nat → Addr} (h : CondB B w A) : Cond w A := by obtain ⟨w0, h1, _, _, h2⟩ := h; exact h1.below h2
theorem CondB.of {w : World} {A : Nat → Addr} (h : Cond w A) : CondB w.heap.size w A := ⟨w, h, Nat.le_refl _, Nat.le_refl _, Below.refl _ _⟩
theorem CondB.mono {B B' : Nat} {w : World} {A : Nat → Addr} (h : CondB B w A) (hB : B ≤ B') : CondB B' w A := by obtain ⟨w0, h1, h2, h3, h4⟩ := h; exact ⟨w0, h1, by omega, h3, h4⟩
theorem CondB.grown {B : Nat} {w w' : World} {A : Nat → Addr} {r : Option Nat} (h : CondB B w A) (hg : w.grownBy w' r) (hr : ∀ g, r = some g → B ≤ g) : CondB B w' A := by
  obtain ⟨w0, h1, h2, h3, h4⟩ := h
  have := hg.size
  refine ⟨w0, h1, h2, by omega, ⟨hg.os.trans h4.os, hg.tape.trans h4.tape, hg.output.trans h4.output, Nat.le_trans h4.size hg.size, fun k hk => (hg.block k (by omega) ?_).trans (h4.block k hk)⟩⟩
  intro e
  have := hr k e.symm
  omega
theorem CondB.row {B R : Nat} {w w' : World} {A : Nat → Addr} (h : CondB B w A) (hg : w.grownBy w' (some R)) (hr : B ≤ R) : CondB B w' A := h.grown hg (fun g e => by injection e with e; omega)
theorem CondB.below {B : Nat} {w w' : World} {A : Nat → Addr} (h : CondB B w A) (hb : Below w.heap.size w w') : CondB B w' A :=
  h.grown (r := none) ⟨hb.os, hb.tape, hb.output, hb.size, fun k hk _ => hb.block k hk⟩ (fun g e => by cases e)
theorem CondB.err {B : Nat} {w : World} {A : Nat → Addr} (h : CondB B w A) (k : Nat) (hk : k < 13) : w.cell? ⟨eGl k, 0, none⟩ = some (.iface 122 (.pointer (some (A k)))) := h.cond.n.errs.cell k hk

section
variable (R B : Nat) (s : ByteArray) (k c : Nat) (hv : Value) (L : LV) (w : World) (A : Nat → Addr)

set_option maxRecDepth 100000 in
set_option maxHeartbeats 1000000 in
theorem begin_end (h : RdP w R s k c hv L) (hC : CondB B w A) (hBR : B ≤ R) (hs : s.size ≤ 200000) (hk : k ≤ s.size) (hy : skipB (s.data.toList.drop k) = []) :
    Calls Tryd.prog 20 #[.pointer (some ⟨R, 0, none⟩)] w fun x w' => x = .returned (errVal A (some 0)) ∧ w.grownBy w' (some R) := by
  have hB := blanks_hd R s k c hv L w h hs hk
  have HY := Lib.hid hy
  have HC := Lib.hid hC
  clear h hy hC
  go_enter Tryd.func20, Tryd.ntmps20
  go_wp2_with fail
  refine hB.mono ?_
  rintro x w1 ⟨rfl, k1, HR, hk1, HD, HG⟩
  clear hB
  have hz := drop_eq_nil hk1 (HD.out.trans HY.out)
  have c0 := HR.out.c0
  have c1 := HR.out.c1
  have ce : w1.cell? ⟨1, 0, none⟩ = _ := (HC.out.row HG.out hBR).err 0 (by omega)
  have q1 : ((k1 : Int) == (s.size : Int)) = true := by simp; omega
  clear hz
  go_wp2
  go_quiet (fail)
  go_wp2
  go_ret
  exact ⟨rfl, gb_same HG.out⟩

set_option maxRecDepth 100000 in
set_option maxHeartbeats 1000000 in
theorem begin_many (h : RdP w R s k c hv L) (hC : CondB B w A) (hBR : B ≤ R) (hs : s.size ≤ 200000) (hk : k ≤ s.size) {y : UInt8} {u : List UInt8} (hy : skipB (s.data.toList.drop k) = y :: u) (hc : c = 20000) :
    Calls Tryd.prog 20 #[.pointer (some ⟨R, 0, none⟩)] w fun x w' => x = .returned (errVal A (some 2)) ∧ w.grownBy w' (some R) := by
  have hB := blanks_hd R s k c hv L w h hs hk
  have HY := Lib.hid hy
  have HC := Lib.hid hC
  have q2 : ((c : Int) == 20000) = true := by rw [hc]; rfl
  clear h hy hC hc
  go_enter Tryd.func20, Tryd.ntmps20
  go_wp2_with fail
  refine hB.mono ?_
  rintro x w1 ⟨rfl, k1, HR, hk1, HD, HG⟩
  clear hB
  have hlt := (drop_cons (HD.out.trans HY.out)).1
  have c0 := HR.out.c0
  have c1 := HR.out.c1
  have c2 := HR.out.c2
  have ce : w1.cell? ⟨0, 0, none⟩ = _ := (HC.out.row HG.out hBR).err 2 (by omega)
  have q1 : ((k1 : Int) == (s.size : Int)) = false := by simp; omega
  go_wp2
  go_quiet (fail)
  go_wp2
  go_ret
  exact ⟨rfl, gb_same HG.out⟩

set_option maxRecDepth 100000 in
set_option maxHeartbeats 1000000 in
theorem begin_ok (h : RdP w R s k c hv L) (hs : s.size ≤ 200000) (hk : k ≤ s.size) {y : UInt8} {u : List UInt8} (hy : skipB (s.data.toList.drop k) = y :: u) (hc : c < 20000) :
    Calls Tryd.prog 20 #[.pointer (some ⟨R, 0, none⟩)] w fun x w' => x = .returned .nilIface ∧ ∃ k', RdP w' R s k' (c + 1) hv L ∧ k' < s.size ∧ s.data.toList.drop k' = skipB (s.data.toList.drop k) ∧ w.grownBy w' (some R) := by
  have hB := blanks_hd R s k c hv L w h hs hk
  have HY := Lib.hid hy
  have q2 : ((c : Int) == 20000) = false := by simp; omega
  clear h hy
  go_enter Tryd.func20, Tryd.ntmps20
  go_wp2_with fail
  refine hB.mono ?_
  rintro x w1 ⟨rfl, k1, HR, hk1, HD, HG⟩
  clear hB
  have hlt := (drop_cons (HD.out.trans HY.out)).1
  have c0 := HR.out.c0
  have c1 := HR.out.c1
  have c2 := HR.out.c2
  have f2 := HR.out.fz 2
  have q1 : ((k1 : Int) == (s.size : Int)) = false := by simp; omega
  have hs2 := HR.out.set2 (c + 1)
  have hc2 : ((c + 1 : Nat) : Int) = (c : Int) + 1 := by omega
  rw [hc2] at hs2
  have HS2 := Lib.hid hs2
  clear hs2 hc2
  go_wp2
  go_quiet (fail)
  go_wp2
  go_ret
  exact ⟨rfl, k1, HS2.out, hlt, HD.out, gb_set (gb_same HG.out) _⟩

set_option maxRecDepth 100000 in
set_option maxHeartbeats 1000000 in
theorem end_yes (h : RdP w R s k c hv L) (hs : s.size ≤ 200000) (hk : k ≤ s.size) (hy : skipB (s.data.toList.drop k) = []) :
    Calls Tryd.prog 27 #[.pointer (some ⟨R, 0, none⟩)] w fun x w' => x = .returned .nilIface ∧ ∃ k', RdP w' R s k' c hv L ∧ w.grownBy w' (some R) := by
  have hB := blanks_hd R s k c hv L w h hs hk
  have HY := Lib.hid hy
  clear h hy
  go_enter Tryd.func27, Tryd.ntmps27
  go_wp2_with fail
  refine hB.mono ?_
  rintro x w1 ⟨rfl, k1, HR, hk1, HD, HG⟩
  clear hB
  have hz := drop_eq_nil hk1 (HD.out.trans HY.out)
  have c0 := HR.out.c0
  have c1 := HR.out.c1
  have q1 : decide ((k1 : Int) < (s.size : Int)) = false := by simp; omega
  have q2 : decide (k1 < s.size) = false := by simp; omega
  clear hz
  go_wp2
  go_quiet (fail)
  go_wp2
  go_ret
  exact ⟨rfl, k1, HR.out, gb_same HG.out⟩

set_option maxRecDepth 100000 in
set_option maxHeartbeats 1000000 in
theorem end_no (h : RdP w R s k c hv L) (hC : CondB B w A) (hBR : B ≤ R) (hs : s.size ≤ 200000) (hk : k ≤ s.size) {y : UInt8} {u : List UInt8} (hy : skipB (s.data.toList.drop k) = y :: u) :
    Calls Tryd.prog 27 #[.pointer (some ⟨R, 0, none⟩)] w fun x w' => x = .returned (errVal A (some 0)) ∧ w.grownBy w' (some R) := by
  have hB := blanks_hd R s k c hv L w h hs hk
  have HY := Lib.hid hy
  have HC := Lib.hid hC
  clear h hy hC
  go_enter Tryd.func27, Tryd.ntmps27
  go_wp2_with fail
  refine hB.mono ?_
  rintro x w1 ⟨rfl, k1, HR, hk1, HD, HG⟩
  clear hB
  have hlt := (drop_cons (HD.out.trans HY.out)).1
  have c0 := HR.out.c0
  have c1 := HR.out.c1
  have ce : w1.cell? ⟨1, 0, none⟩ = _ := (HC.out.row HG.out hBR).err 0 (by omega)
  go_wp2
  go_quiet (fail)
  go_wp2
  go_ret
  exact ⟨rfl, gb_same HG.out⟩
end

end Go.Proofs.YtnlpdpbmmpeiaaaDoor
