/- ints.Take at every place; haversacknum.Num of what it answers; the laws' first lines. -/
import Derived.Test.YtnlpdpbmmpeiaaaDoorTake
import Derived.Test.YtnlpdpbmmpeiaaaDoorRtp
namespace Go.Proofs.YtnlpdpbmmpeiaaaDoor.I2
open Go.RowKit

/-- the error that is answered -/
def errVal (A : Nat → Addr) : Option Nat → Value
  | none => .nilIface
  | some k => .iface 122 (.pointer (some (A k)))
theorem errVal_none (A : Nat → Addr) : errVal A none = .nilIface := rfl
theorem errVal_some (A : Nat → Addr) (k : Nat) : errVal A (some k) = .iface 122 (.pointer (some (A k))) := rfl

theorem takeR_errs {l : List UInt8} {v : Int} {z : Nat} {o : Option Nat} (h : takeR l = (v, z, o)) : o = none ∨ o = some 0 ∨ o = some 3 := by
  unfold takeR at h
  split at h
  · simp only [Prod.mk.injEq] at h; exact .inr (.inl h.2.2.symm)
  · split at h
    · simp only [Prod.mk.injEq] at h; exact .inl h.2.2.symm
    · simp only [Prod.mk.injEq] at h; exact .inr (.inr h.2.2.symm)

theorem take_any (s : ByteArray) (x : Int) (w : World) (A : Nat → Addr) (hC : Cond w A) (hs : s.size ≤ 200000) {v : Int} {z : Nat} {o : Option Nat} (hR : takeR (restL s.data.toList x) = (v, z, o)) :
    Calls Tryd.prog 33 #[.string s, .int .i64 x] w fun e w' => e = .returned (.tuple #[.int .i64 v, .int .i64 z, errVal A o]) ∧ Below w.heap.size w w' := by
  have hsm : s.size ≤ maxLen := by unfold maxLen; omega
  by_cases hx : x < 0 ∨ s.size ≤ x
  · rw [restL_out hx, takeR_syn rfl] at hR
    simp only [Prod.mk.injEq] at hR
    obtain ⟨rfl, rfl, rfl⟩ := hR
    exact take_syntax s x w A hC (fun w => extent_out s x w hsm hx)
  · obtain ⟨a, rfl⟩ := Int.eq_ofNat_of_zero_le (by omega : 0 ≤ x)
    have ha : a < s.size := by omega
    rw [restL_in] at hR
    by_cases hf : front (s.data.toList.drop a) = 0
    · rw [takeR_syn hf] at hR
      simp only [Prod.mk.injEq] at hR
      obtain ⟨rfl, rfl, rfl⟩ := hR
      exact take_syntax s a w A hC (fun w => extent_zero s a w hsm ha hf)
    · have hfl := front_le (s.data.toList.drop a)
      rw [List.length_drop, size_list] at hfl
      have hfa := front_all (s.data.toList.drop a)
      by_cases h2 : allOf (s.data.toList.drop a) = front (s.data.toList.drop a)
      · have hX := fun w => extent_some s a w hsm ha rfl hf rfl (b := true) (by rw [h2]; simp)
        rw [h2] at hX
        cases hw : wholeV ((s.data.toList.drop a).take (front (s.data.toList.drop a))) with
        | none =>
          rw [takeR_none hf hw] at hR
          simp only [Prod.mk.injEq] at hR
          obtain ⟨rfl, rfl, rfl⟩ := hR
          exact take_range s a w A hC hs _ hf (by omega) hX (wholeV_none hf hw)
        | some u =>
          rw [takeR_ok hf h2 hw] at hR
          simp only [Prod.mk.injEq] at hR
          obtain ⟨rfl, rfl, rfl⟩ := hR
          exact take_ok s a w hs _ hf (by omega) hX _ hw
      · have hX := fun w => extent_some s a w hsm ha rfl hf rfl (b := false) (by simpa using h2)
        rw [takeR_part hf h2] at hR
        simp only [Prod.mk.injEq] at hR
        obtain ⟨rfl, rfl, rfl⟩ := hR
        exact take_part s a w A hC _ (by omega) hX

theorem num_err (A : Nat → Addr) (o : Option Nat) (ho : o = none ∨ o = some 0 ∨ o = some 3) (w : World) (hC : Cond w A) :
    Calls Tryd.prog 12 #[errVal A o] w fun e w' => e = .returned (.int .i64 (numOf o)) ∧ Below w.heap.size w w' := by
  rcases ho with rfl | rfl | rfl
  · exact (num_nil w).mono fun _ _ ⟨he, hw⟩ => ⟨he, hw ▸ Below.refl _ _⟩
  · exact num_any A w hC.errs 0 (by omega)
  · exact num_any A w hC.errs 3 (by omega)

end Go.Proofs.YtnlpdpbmmpeiaaaDoor.I2
