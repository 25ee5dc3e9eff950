/- ints.Parse: a whole text's number; the document's Scan at a text's head. -/
import Derived.Test.YtnejlfkbnbbgfaaDoorTak
namespace Go.Proofs.YtnejlfkbnbbgfaaDoor
open Go.RowKit

set_option maxHeartbeats 400000 in
theorem parse_syn (s : ByteArray) (w : World) (A : Nat → Addr) (hC : Cond w A) (hs : s.size ≤ 2000) (n : Nat) (b : Bool) (hn : n = 0 ∨ n ≠ s.size)
    (hX : ∀ w, Calls Tryd.prog 19 #[.string s, .int .i64 0] w fun e w' => e = .returned (.tuple #[.int .i64 n, .bool b]) ∧ w = w') :
    Calls Tryd.prog 13 #[.string s] w fun e w' => e = .returned (.tuple #[.int .i64 0, errVal A (some 0)]) ∧ Below w.heap.size w w' := by
  rw [errVal_some]
  have c0 : w.cell? ⟨0, 0, none⟩ = _ := hC.errs.cell 0 (by omega)
  clear hC
  by_cases h0 : n = 0
  · subst h0
    go_enter Tryd.func13, Tryd.ntmps13
    go_wp2_with (go_at_call 19; refine (hX _).mono ?_; rintro e w' ⟨rfl, rfl⟩)
    go_quiet (fail)
    go_wp2
    go_ret2
    exact ⟨rfl, below_drewN (Below.refl _ _) _⟩
  · have h1 : n ≠ s.size := by omega
    have q0 : ((n : Int) == 0) = false := by simp; omega
    have q1 : ((n : Int) != (s.size : Int)) = true := by simp; omega
    have q2 : ((n : Int) == (s.size : Int)) = false := by simp; omega
    go_enter Tryd.func13, Tryd.ntmps13
    go_wp2_with (go_at_call 19; refine (hX _).mono ?_; rintro e w' ⟨rfl, rfl⟩)
    go_quiet (fail)
    go_wp2
    go_ret2
    exact ⟨rfl, below_drewN (Below.refl _ _) _⟩

set_option maxHeartbeats 400000 in
theorem parse_go (s : ByteArray) (w : World) (A : Nat → Addr) (hC : Cond w A) (hs : s.size ≤ 2000) (n : Nat) (b : Bool) (h0 : n ≠ 0) (hn : n = s.size)
    (hX : ∀ w, Calls Tryd.prog 19 #[.string s, .int .i64 0] w fun e w' => e = .returned (.tuple #[.int .i64 n, .bool b]) ∧ w = w')
    {v : Int} {z : Nat} {o : Option Nat} (hR : takeR s.data.toList = (v, z, o)) :
    Calls Tryd.prog 13 #[.string s] w fun e w' => e = .returned (.tuple #[.int .i64 v, errVal A o]) ∧ Below w.heap.size w w' := by
  have hT := take_any s 0 w A hC hs (v := v) (z := z) (o := o) (by rw [show (0 : Int) = ((0 : Nat) : Int) from rfl, restL_in, List.drop_zero]; exact hR)
  generalize errVal A o = E at *
  have q0 : ((n : Int) == 0) = false := by simp; omega
  have q1 : ((n : Int) != (s.size : Int)) = false := by simp; omega
  have q2 : ((n : Int) == (s.size : Int)) = true := by simp; omega
  clear hn hR hC
  go_enter Tryd.func13, Tryd.ntmps13
  go_wp2_with (first
    | (go_at_call 19; refine (hX _).mono ?_; rintro e w' ⟨rfl, rfl⟩)
    | (go_at_call 10; refine hT.mono ?_; rintro e w1 ⟨rfl, hb⟩))
  go_ret2
  exact ⟨rfl, hb⟩

/-- the answer of a whole text -/
def parseR (l : List UInt8) : Int × Option Nat := if front l = 0 ∨ allOf l ≠ l.length then (0, some 0) else ((takeR l).1, (takeR l).2.2)
theorem parseR_syn {l : List UInt8} (h : front l = 0 ∨ allOf l ≠ l.length) : parseR l = (0, some 0) := by unfold parseR; rw [if_pos h]
theorem parseR_go {l : List UInt8} (h : front l ≠ 0) (h2 : allOf l = l.length) : parseR l = ((takeR l).1, (takeR l).2.2) := by unfold parseR; rw [if_neg (by omega)]

theorem parse_any (s : ByteArray) (w : World) (A : Nat → Addr) (hC : Cond w A) (hs : s.size ≤ 2000) {v : Int} {o : Option Nat} (hR : parseR s.data.toList = (v, o)) :
    Calls Tryd.prog 13 #[.string s] w fun e w' => e = .returned (.tuple #[.int .i64 v, errVal A o]) ∧ Below w.heap.size w w' := by
  have hsm : s.size ≤ maxLen := by unfold maxLen; omega
  by_cases hf : front s.data.toList = 0
  · rw [parseR_syn (.inl hf)] at hR
    simp only [Prod.mk.injEq] at hR
    obtain ⟨rfl, rfl⟩ := hR
    by_cases h0 : s.size = 0
    · exact parse_syn s w A hC hs 0 false (.inl rfl) (fun w => extent_out s 0 w hsm (by omega))
    · exact parse_syn s w A hC hs 0 false (.inl rfl) (fun w => extent_zero s 0 w hsm (by omega) (by rw [List.drop_zero]; exact hf))
  · have h0 : 0 < s.size := by have := front_le s.data.toList; rw [size_list] at this; omega
    have hfa := front_all s.data.toList
    have hX := fun w => extent_some s 0 w hsm h0 (f := front s.data.toList) (by rw [List.drop_zero]) hf (n := allOf s.data.toList) (by rw [List.drop_zero]) rfl
    by_cases hn : allOf s.data.toList = s.size
    · rw [parseR_go hf (by rw [size_list]; exact hn)] at hR
      simp only [Prod.mk.injEq] at hR
      obtain ⟨rfl, rfl⟩ := hR
      exact parse_go s w A hC hs _ _ (by omega) hn hX rfl
    · rw [parseR_syn (.inr (by rw [size_list]; exact hn))] at hR
      simp only [Prod.mk.injEq] at hR
      obtain ⟨rfl, rfl⟩ := hR
      exact parse_syn s w A hC hs _ _ (.inr hn) hX

theorem parseR_errs {l : List UInt8} {v : Int} {o : Option Nat} (h : parseR l = (v, o)) : o = none ∨ o = some 0 ∨ o = some 3 := by
  unfold parseR at h
  split at h
  · simp only [Prod.mk.injEq] at h; exact .inr (.inl h.2.symm)
  · simp only [Prod.mk.injEq] at h
    have := takeR_errs (l := l) (v := (takeR l).1) (z := (takeR l).2.1) (o := (takeR l).2.2) rfl
    rw [h.2] at this; exact this

/-- the document's Scan at the head of a text -/
theorem scan_head (s : ByteArray) (w : World) (hs : s.size ≤ 2000) {f n : Nat} (hf : front s.data.toList = f) (hn : (if f = 0 then 0 else allOf s.data.toList) = n) :
    Calls Tryd.prog 14 #[.string s, .int .i64 0] w fun e w' => e = .returned (.tuple #[.int .i64 f, .int .i64 n]) ∧ w = w' := by
  have hsm : s.size ≤ maxLen := by unfold maxLen; omega
  by_cases h0 : f = 0
  · rw [if_pos h0] at hn
    subst hn
    rw [h0] at hf
    rw [h0]
    by_cases hz : s.size = 0
    · exact scan_out s 0 w hsm (by omega)
    · exact scan_zero s 0 w hsm (by omega) (by rw [List.drop_zero]; exact hf)
  · rw [if_neg h0] at hn
    have hz : 0 < s.size := by have := front_le s.data.toList; rw [size_list] at this; omega
    have h := scan_some s 0 w hsm hz (by rw [List.drop_zero]; omega)
    rw [List.drop_zero, hf, hn] at h
    exact h

end Go.Proofs.YtnejlfkbnbbgfaaDoor
