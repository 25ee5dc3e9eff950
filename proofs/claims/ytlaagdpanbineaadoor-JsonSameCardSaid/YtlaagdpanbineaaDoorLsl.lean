/- JsonSame's walk. -/
import Derived.Test.YtlaagdpanbineaaDoorLsz
import Derived.Test.YtlaagdpanbineaaDoorLop
import Derived.Test.YtlaagdpanbineaaDoorLa
import Derived.Test.YtlaagdpanbineaaDoorLsc
namespace Go.Proofs.YtlaagdpanbineaaDoor
open Go.RowKit

set_option maxRecDepth 100000 in
theorem law_same (w : World) (A : Nat → Addr) (hC : CondN w A) (ok1 ok2 : Nat → Prop) (g1 g2 : Nat) (t1 t2 : NT) (v1 v2 : Value) (hN1 : NIs ok1 g1 w t1 v1) (hN2 : NIs ok2 g2 w t2 v2) (o1 : okLen t1) (o2 : okLen t2) :
    Calls Tryd.prog 3 #[v1, v2] w fun e w' => e = .returned (.bool true) ∧ Below w.heap.size w w' := by
  have hL := fun w' (hb : Below w.heap.size w w') => alive_any w' A (hC.below hb)
  have hZ1 := fun w' (hb : Below w.heap.size w w') => size_any g1 ok1 t1 v1 w' 2000 0 (hN1.below hb) o1
  have hZ2 := fun w' (hb : Below w.heap.size w w') => size_any g2 ok2 t2 v2 w' 2000 0 (hN2.below hb) o2
  have hM1 := hN1.mono (Nat.le_max_left g1 g2)
  have hM2 := hN2.mono (Nat.le_max_right g1 g2)
  have hS := fun w' (hb : Below w.heap.size w w') => same_any _ ok1 ok2 t1 t2 v1 v2 w' (hM1.below hb) (hM2.below hb) o1 o2
  have hR := fun w' (hb : Below w.heap.size w w') => ref_any _ ok1 ok2 t1 t2 v1 v2 w' (hM1.below hb) (hM2.below hb) o1 o2
  have hI := fun w' (hb : Below w.heap.size w w') => (same_any _ ok1 ok1 t1 t1 v1 v1 w' (hM1.below hb) (hM1.below hb) o1 o1).mono fun e w'' h => (⟨h.1.trans (ret_bool (eqT_self t1)), h.2⟩ : e = .returned (.bool true) ∧ Below w'.heap.size w' w'')
  obtain ⟨k1, n1, x1, A1, l1, c1, B1, m1, d1, rfl⟩ := hN1.nd
  obtain ⟨k2, n2, x2, A2, l2, c2, B2, m2, d2, rfl⟩ := hN2.nd
  exact same_core w (eqT t1 t2) k1 n1 k2 n2 ⟨x1.toArray⟩ ⟨x2.toArray⟩ A1 B1 A2 B2 l1 c1 m1 d1 l2 c2 m2 d2 hL hZ1 hZ2 hS hR hI

end Go.Proofs.YtlaagdpanbineaaDoor

