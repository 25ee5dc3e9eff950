/- What ints.Take answers at a place (no program). -/
import Derived.Test.YtnlpdpbmmpeiaaaDoorDigw
namespace Go.Proofs.YtnlpdpbmmpeiaaaDoor.I2

/-- what stands from a place of a text on -/
def restL (l : List UInt8) (x : Int) : List UInt8 := if x < 0 then [] else l.drop x.toNat
theorem restL_out {s : ByteArray} {x : Int} (h : x < 0 ∨ s.size ≤ x) : restL s.data.toList x = [] := by
  unfold restL
  split
  · rfl
  · exact List.drop_eq_nil_of_le (by rw [size_list]; omega)
theorem restL_in {s : ByteArray} {a : Nat} : restL s.data.toList (a : Int) = s.data.toList.drop a := by
  unfold restL; rw [if_neg (by omega), Int.toNat_natCast]

/-- the answer at the head of a text: the number, its size, which error -/
def takeR (l : List UInt8) : Int × Nat × Option Nat :=
  if front l = 0 then (0, 0, some 0) else match (if allOf l = front l then wholeV (l.take (front l)) else none) with
    | some v => (v, front l, none)
    | none => (0, 0, some 3)
theorem takeR_syn {l : List UInt8} (h : front l = 0) : takeR l = (0, 0, some 0) := by unfold takeR; rw [if_pos h]
theorem takeR_part {l : List UInt8} (h : front l ≠ 0) (h2 : allOf l ≠ front l) : takeR l = (0, 0, some 3) := by unfold takeR; rw [if_neg h, if_neg h2]
theorem takeR_none {l : List UInt8} (h : front l ≠ 0) (h3 : wholeV (l.take (front l)) = none) : takeR l = (0, 0, some 3) := by
  unfold takeR; rw [if_neg h, h3]; split <;> rename_i h4 <;> split at h4 <;> simp_all
theorem takeR_ok {l : List UInt8} {v : Int} (h : front l ≠ 0) (h2 : allOf l = front l) (h3 : wholeV (l.take (front l)) = some v) : takeR l = (v, front l, none) := by
  unfold takeR; rw [if_neg h, if_pos h2, h3]

def numOf : Option Nat → Int
  | none => 0
  | some k => k + 1

end Go.Proofs.YtnlpdpbmmpeiaaaDoor.I2
