/- ShowObjects: what its walk leans on. -/
import Derived.Test.YtlaagdpanbineaaDoorOe
import Derived.Test.YtlaagdpanbineaaDoorWa
namespace Go.Proofs.YtlaagdpanbineaaDoor
open Go.RowKit

structure CondO (w : World) (A : Nat → Addr) : Prop where
  er : Errs w A
  e : CondE w
theorem CondO.below {w w' : World} {A : Nat → Addr} (h : CondO w A) (hb : Below w.heap.size w w') : CondO w' A := ⟨h.er.below hb, h.e.below hb⟩
theorem szL_bd (m : Nat) : ∀ l : List NT, (∀ t ∈ l, szT t ≤ m) → szL l ≤ m * l.length
  | [], _ => by simp [szL]
  | a :: l, h => by
    have h1 := h a (by simp)
    have h2 := szL_bd m l fun t ht => h t (by simp [ht])
    simp only [szL, List.length_cons, Nat.mul_add]; omega
theorem obj_sz {ks : List (List UInt8)} {kids : List NT} (h1 : kySum ks ≤ 2000) (h2 : ∀ j (hj : j < kids.length), szT kids[j] ≤ 200) (h3 : kids.length ≤ 50) : szT (.mk 7 0 [] ks kids) ≤ 200000 := by
  have e : szT (.mk 7 0 [] ks kids) = 1 + 0 + kySum ks + szL kids := rfl
  have := szL_bd 200 kids fun t ht => by
    obtain ⟨j, hj, rfl⟩ := List.getElem_of_mem ht
    exact h2 j hj
  omega
theorem ba_inj2 {x y : List UInt8} : ((⟨x.toArray⟩ : ByteArray).toList == (⟨y.toArray⟩ : ByteArray).toList) = decide (x = y) := by
  rw [ByteArray.toList_eq, ByteArray.toList_eq, Bool.eq_iff_iff, beq_iff_eq, decide_eq_true_iff]
theorem take_nodup {ks : List (List UInt8)} {i : Nat} (h : (ks.take i).Nodup) (hi : i < ks.length) (hn : ∀ j, (hj : j < i) → ks[j]'(by omega) ≠ ks[i]) : (ks.take (i + 1)).Nodup := by
  rw [List.take_succ_eq_append_getElem hi, List.nodup_append]
  refine ⟨h, by simp, fun a ha b hb => ?_⟩
  obtain rfl : b = ks[i] := by simpa using hb
  obtain ⟨j, hj, rfl⟩ := List.getElem_of_mem ha
  have hj2 : j < i := by rw [List.length_take] at hj; omega
  rw [List.getElem_take]
  exact hn j hj2
def Objs (w : World) (e : Ending) (w' : World) : Prop := e = .returned (.bool true) ∧ Below w.heap.size w w'

end Go.Proofs.YtlaagdpanbineaaDoor
