/- json.formed: whether a value's own fields are right. -/
import Derived.Test.YtlaagdpanbineaaDoorRga
namespace Go.Proofs.YtlaagdpanbineaaDoor
open Go.RowKit

section
variable {k n : Int} {tx : List UInt8} {ks : List (List UInt8)} {kids : List NT}
def fmP (k n : Int) (tx : List UInt8) (ks : List (List UInt8)) (kids : List NT) : Prop := (k = 4 ∨ n = 0) ∧ (k = 5 ∨ tx = []) ∧ (k = 7 ∨ ks = []) ∧ (k = 6 ∨ k = 7 ∨ kids = []) ∧ 1 ≤ k ∧ k ≤ 7 ∧ (k = 5 → VdL tx) ∧ (k = 7 → ks.length = kids.length) ∧ (k = 7 → kyB ks = true)
/-- what json.formed answers -/
def fmB : NT → Prop
  | .mk k n tx ks kids => fmP k n tx ks kids
theorem fm_n (hk : k ≠ 4) (h : n ≠ 0) : ¬ fmP k n tx ks kids := fun e => e.1.elim hk h
theorem fm_tx (hk : k ≠ 5) (h : tx ≠ []) : ¬ fmP k n tx ks kids := fun e => e.2.1.elim hk h
theorem fm_ks (hk : k ≠ 7) (h : ks ≠ []) : ¬ fmP k n tx ks kids := fun e => e.2.2.1.elim hk h
theorem fm_kids (hk : k ≠ 6) (hk7 : k ≠ 7) (h : kids ≠ []) : ¬ fmP k n tx ks kids := fun e => e.2.2.2.1.elim hk (fun e => e.elim hk7 h)
theorem fm_out (hk : k < 1 ∨ 7 < k) : ¬ fmP k n tx ks kids := fun e => by have h1 := e.2.2.2.2.1; have h2 := e.2.2.2.2.2.1; omega
theorem fm_vd (h : ¬ VdL tx) : ¬ fmP 5 n tx ks kids := fun e => h (e.2.2.2.2.2.2.1 rfl)
theorem fm_len (h : ks.length ≠ kids.length) : ¬ fmP 7 n tx ks kids := fun e => h (e.2.2.2.2.2.2.2.1 rfl)
theorem fm_ky (h : kyB ks = false) : ¬ fmP 7 n tx ks kids := fun e => by have := e.2.2.2.2.2.2.2.2 rfl; rw [h] at this; cases this
end
theorem len_ne {α : Type} {l : List α} (h : l ≠ []) : ((l.length : Int) == 0) = false := by
  cases l with
  | nil => exact absurd rfl h
  | cons a l => simp; omega
theorem tx_ne {x : List UInt8} (h : x ≠ []) : ¬ (⟨x.toArray⟩ : ByteArray).toList = [] := by rw [ByteArray.toList_eq]; simpa using h
theorem tx_neB {x : List UInt8} (h : x ≠ []) : (⟨x.toArray⟩ : ByteArray).toList.isEmpty = false := by
  have := tx_ne h
  cases hl : (⟨x.toArray⟩ : ByteArray).toList with
  | nil => exact absurd hl this
  | cons c r => rfl
theorem al0 (w : World) (o : Obj) : Below w.heap.size w (w.alloc o) := (Below.refl _ _).alloc (Nat.le_refl _) _
theorem fm_ret {p : Prop} [Decidable p] {b : Bool} (h : b = true ↔ p) : Ending.returned (Value.bool b) = .returned (.bool (decide p)) := by
  by_cases hp : p
  · rw [decide_eq_true hp, h.2 hp]
  · rw [decide_eq_false hp]; cases b with
    | false => rfl
    | true => exact absurd (h.1 rfl) hp

set_option maxRecDepth 100000 in
set_option maxHeartbeats 4000000 in
theorem formed_k1 (n : Int) (X : ByteArray) (tx : List UInt8) (hX : (⟨tx.toArray⟩ : ByteArray) = X) (ks : List (List UInt8)) (kids : List NT) (S1 S2 : Option Addr) (c0 c1 : Nat) (w : World) :
    Calls Tryd.prog 55 #[.agg #[.int .i64 1, .int .i64 n, .string X, .slice S1 ks.length c0, .slice S2 kids.length c1]] w fun e w' => (∃ b, e = .returned (.bool b) ∧ (b = true ↔ fmP 1 n tx ks kids)) ∧ Below w.heap.size w w' := by
  by_cases hn : n = 0
  rotate_left
  · have q : (n == 0) = false := by simpa using hn
    go_enter Tryd.func55, Tryd.ntmps55
    go_wp2
    go_ret
    exact ⟨⟨false, rfl, iff_of_false (by decide) (fm_n (by decide) hn)⟩, (by first | exact al0 w _ | exact (al0 w _).setCell (Nat.le_refl _) _ | exact ((al0 w _).setCell (Nat.le_refl _) _).setCell (Nat.le_refl _) _ | exact (HB1.out.setCell (Nat.le_refl _) _).setCell (Nat.le_refl _) _ | exact HB1.out.setCell (Nat.le_refl _) _ | exact HB1.out)⟩
  subst hn
  by_cases ht : tx = []
  rotate_left
  · have q1 := tx_ne ht
    have q2 := tx_neB ht
    rw [hX] at q1 q2
    go_enter Tryd.func55, Tryd.ntmps55
    go_wp2
    go_ret
    exact ⟨⟨false, rfl, iff_of_false (by decide) (fm_tx (by decide) ht)⟩, (by first | exact al0 w _ | exact (al0 w _).setCell (Nat.le_refl _) _ | exact ((al0 w _).setCell (Nat.le_refl _) _).setCell (Nat.le_refl _) _ | exact (HB1.out.setCell (Nat.le_refl _) _).setCell (Nat.le_refl _) _ | exact HB1.out.setCell (Nat.le_refl _) _ | exact HB1.out)⟩
  subst ht
  subst hX
  by_cases hk : ks = []
  rotate_left
  · have q := len_ne hk
    go_enter Tryd.func55, Tryd.ntmps55
    go_wp2
    go_ret
    exact ⟨⟨false, rfl, iff_of_false (by decide) (fm_ks (by decide) hk)⟩, (by first | exact al0 w _ | exact (al0 w _).setCell (Nat.le_refl _) _ | exact ((al0 w _).setCell (Nat.le_refl _) _).setCell (Nat.le_refl _) _ | exact (HB1.out.setCell (Nat.le_refl _) _).setCell (Nat.le_refl _) _ | exact HB1.out.setCell (Nat.le_refl _) _ | exact HB1.out)⟩
  subst hk
  by_cases hd : kids = []
  rotate_left
  · have q := len_ne hd
    go_enter Tryd.func55, Tryd.ntmps55
    go_wp2
    go_ret
    exact ⟨⟨false, rfl, iff_of_false (by decide) (fm_kids (by decide) (by decide) hd)⟩, (by first | exact al0 w _ | exact (al0 w _).setCell (Nat.le_refl _) _ | exact ((al0 w _).setCell (Nat.le_refl _) _).setCell (Nat.le_refl _) _ | exact (HB1.out.setCell (Nat.le_refl _) _).setCell (Nat.le_refl _) _ | exact HB1.out.setCell (Nat.le_refl _) _ | exact HB1.out)⟩
  subst hd
  go_enter Tryd.func55, Tryd.ntmps55
  go_wp2
  go_ret
  exact ⟨⟨true, rfl, iff_of_true rfl ⟨.inr rfl, .inr rfl, .inr rfl, .inr (.inr rfl), by decide, by decide, fun h => absurd h (by decide), fun h => absurd h (by decide), fun h => absurd h (by decide)⟩⟩, (by first | exact al0 w _ | exact (al0 w _).setCell (Nat.le_refl _) _ | exact ((al0 w _).setCell (Nat.le_refl _) _).setCell (Nat.le_refl _) _ | exact (HB1.out.setCell (Nat.le_refl _) _).setCell (Nat.le_refl _) _ | exact HB1.out.setCell (Nat.le_refl _) _ | exact HB1.out)⟩

set_option maxRecDepth 100000 in
set_option maxHeartbeats 4000000 in
theorem formed_k2 (n : Int) (X : ByteArray) (tx : List UInt8) (hX : (⟨tx.toArray⟩ : ByteArray) = X) (ks : List (List UInt8)) (kids : List NT) (S1 S2 : Option Addr) (c0 c1 : Nat) (w : World) :
    Calls Tryd.prog 55 #[.agg #[.int .i64 2, .int .i64 n, .string X, .slice S1 ks.length c0, .slice S2 kids.length c1]] w fun e w' => (∃ b, e = .returned (.bool b) ∧ (b = true ↔ fmP 2 n tx ks kids)) ∧ Below w.heap.size w w' := by
  by_cases hn : n = 0
  rotate_left
  · have q : (n == 0) = false := by simpa using hn
    go_enter Tryd.func55, Tryd.ntmps55
    go_wp2
    go_ret
    exact ⟨⟨false, rfl, iff_of_false (by decide) (fm_n (by decide) hn)⟩, (by first | exact al0 w _ | exact (al0 w _).setCell (Nat.le_refl _) _ | exact ((al0 w _).setCell (Nat.le_refl _) _).setCell (Nat.le_refl _) _ | exact (HB1.out.setCell (Nat.le_refl _) _).setCell (Nat.le_refl _) _ | exact HB1.out.setCell (Nat.le_refl _) _ | exact HB1.out)⟩
  subst hn
  by_cases ht : tx = []
  rotate_left
  · have q1 := tx_ne ht
    have q2 := tx_neB ht
    rw [hX] at q1 q2
    go_enter Tryd.func55, Tryd.ntmps55
    go_wp2
    go_ret
    exact ⟨⟨false, rfl, iff_of_false (by decide) (fm_tx (by decide) ht)⟩, (by first | exact al0 w _ | exact (al0 w _).setCell (Nat.le_refl _) _ | exact ((al0 w _).setCell (Nat.le_refl _) _).setCell (Nat.le_refl _) _ | exact (HB1.out.setCell (Nat.le_refl _) _).setCell (Nat.le_refl _) _ | exact HB1.out.setCell (Nat.le_refl _) _ | exact HB1.out)⟩
  subst ht
  subst hX
  by_cases hk : ks = []
  rotate_left
  · have q := len_ne hk
    go_enter Tryd.func55, Tryd.ntmps55
    go_wp2
    go_ret
    exact ⟨⟨false, rfl, iff_of_false (by decide) (fm_ks (by decide) hk)⟩, (by first | exact al0 w _ | exact (al0 w _).setCell (Nat.le_refl _) _ | exact ((al0 w _).setCell (Nat.le_refl _) _).setCell (Nat.le_refl _) _ | exact (HB1.out.setCell (Nat.le_refl _) _).setCell (Nat.le_refl _) _ | exact HB1.out.setCell (Nat.le_refl _) _ | exact HB1.out)⟩
  subst hk
  by_cases hd : kids = []
  rotate_left
  · have q := len_ne hd
    go_enter Tryd.func55, Tryd.ntmps55
    go_wp2
    go_ret
    exact ⟨⟨false, rfl, iff_of_false (by decide) (fm_kids (by decide) (by decide) hd)⟩, (by first | exact al0 w _ | exact (al0 w _).setCell (Nat.le_refl _) _ | exact ((al0 w _).setCell (Nat.le_refl _) _).setCell (Nat.le_refl _) _ | exact (HB1.out.setCell (Nat.le_refl _) _).setCell (Nat.le_refl _) _ | exact HB1.out.setCell (Nat.le_refl _) _ | exact HB1.out)⟩
  subst hd
  go_enter Tryd.func55, Tryd.ntmps55
  go_wp2
  go_ret
  exact ⟨⟨true, rfl, iff_of_true rfl ⟨.inr rfl, .inr rfl, .inr rfl, .inr (.inr rfl), by decide, by decide, fun h => absurd h (by decide), fun h => absurd h (by decide), fun h => absurd h (by decide)⟩⟩, (by first | exact al0 w _ | exact (al0 w _).setCell (Nat.le_refl _) _ | exact ((al0 w _).setCell (Nat.le_refl _) _).setCell (Nat.le_refl _) _ | exact (HB1.out.setCell (Nat.le_refl _) _).setCell (Nat.le_refl _) _ | exact HB1.out.setCell (Nat.le_refl _) _ | exact HB1.out)⟩

set_option maxRecDepth 100000 in
set_option maxHeartbeats 4000000 in
theorem formed_k3 (n : Int) (X : ByteArray) (tx : List UInt8) (hX : (⟨tx.toArray⟩ : ByteArray) = X) (ks : List (List UInt8)) (kids : List NT) (S1 S2 : Option Addr) (c0 c1 : Nat) (w : World) :
    Calls Tryd.prog 55 #[.agg #[.int .i64 3, .int .i64 n, .string X, .slice S1 ks.length c0, .slice S2 kids.length c1]] w fun e w' => (∃ b, e = .returned (.bool b) ∧ (b = true ↔ fmP 3 n tx ks kids)) ∧ Below w.heap.size w w' := by
  by_cases hn : n = 0
  rotate_left
  · have q : (n == 0) = false := by simpa using hn
    go_enter Tryd.func55, Tryd.ntmps55
    go_wp2
    go_ret
    exact ⟨⟨false, rfl, iff_of_false (by decide) (fm_n (by decide) hn)⟩, (by first | exact al0 w _ | exact (al0 w _).setCell (Nat.le_refl _) _ | exact ((al0 w _).setCell (Nat.le_refl _) _).setCell (Nat.le_refl _) _ | exact (HB1.out.setCell (Nat.le_refl _) _).setCell (Nat.le_refl _) _ | exact HB1.out.setCell (Nat.le_refl _) _ | exact HB1.out)⟩
  subst hn
  by_cases ht : tx = []
  rotate_left
  · have q1 := tx_ne ht
    have q2 := tx_neB ht
    rw [hX] at q1 q2
    go_enter Tryd.func55, Tryd.ntmps55
    go_wp2
    go_ret
    exact ⟨⟨false, rfl, iff_of_false (by decide) (fm_tx (by decide) ht)⟩, (by first | exact al0 w _ | exact (al0 w _).setCell (Nat.le_refl _) _ | exact ((al0 w _).setCell (Nat.le_refl _) _).setCell (Nat.le_refl _) _ | exact (HB1.out.setCell (Nat.le_refl _) _).setCell (Nat.le_refl _) _ | exact HB1.out.setCell (Nat.le_refl _) _ | exact HB1.out)⟩
  subst ht
  subst hX
  by_cases hk : ks = []
  rotate_left
  · have q := len_ne hk
    go_enter Tryd.func55, Tryd.ntmps55
    go_wp2
    go_ret
    exact ⟨⟨false, rfl, iff_of_false (by decide) (fm_ks (by decide) hk)⟩, (by first | exact al0 w _ | exact (al0 w _).setCell (Nat.le_refl _) _ | exact ((al0 w _).setCell (Nat.le_refl _) _).setCell (Nat.le_refl _) _ | exact (HB1.out.setCell (Nat.le_refl _) _).setCell (Nat.le_refl _) _ | exact HB1.out.setCell (Nat.le_refl _) _ | exact HB1.out)⟩
  subst hk
  by_cases hd : kids = []
  rotate_left
  · have q := len_ne hd
    go_enter Tryd.func55, Tryd.ntmps55
    go_wp2
    go_ret
    exact ⟨⟨false, rfl, iff_of_false (by decide) (fm_kids (by decide) (by decide) hd)⟩, (by first | exact al0 w _ | exact (al0 w _).setCell (Nat.le_refl _) _ | exact ((al0 w _).setCell (Nat.le_refl _) _).setCell (Nat.le_refl _) _ | exact (HB1.out.setCell (Nat.le_refl _) _).setCell (Nat.le_refl _) _ | exact HB1.out.setCell (Nat.le_refl _) _ | exact HB1.out)⟩
  subst hd
  go_enter Tryd.func55, Tryd.ntmps55
  go_wp2
  go_ret
  exact ⟨⟨true, rfl, iff_of_true rfl ⟨.inr rfl, .inr rfl, .inr rfl, .inr (.inr rfl), by decide, by decide, fun h => absurd h (by decide), fun h => absurd h (by decide), fun h => absurd h (by decide)⟩⟩, (by first | exact al0 w _ | exact (al0 w _).setCell (Nat.le_refl _) _ | exact ((al0 w _).setCell (Nat.le_refl _) _).setCell (Nat.le_refl _) _ | exact (HB1.out.setCell (Nat.le_refl _) _).setCell (Nat.le_refl _) _ | exact HB1.out.setCell (Nat.le_refl _) _ | exact HB1.out)⟩

set_option maxRecDepth 100000 in
set_option maxHeartbeats 4000000 in
theorem formed_k4 (n : Int) (X : ByteArray) (tx : List UInt8) (hX : (⟨tx.toArray⟩ : ByteArray) = X) (ks : List (List UInt8)) (kids : List NT) (S1 S2 : Option Addr) (c0 c1 : Nat) (w : World) :
    Calls Tryd.prog 55 #[.agg #[.int .i64 4, .int .i64 n, .string X, .slice S1 ks.length c0, .slice S2 kids.length c1]] w fun e w' => (∃ b, e = .returned (.bool b) ∧ (b = true ↔ fmP 4 n tx ks kids)) ∧ Below w.heap.size w w' := by
  by_cases ht : tx = []
  rotate_left
  · have q1 := tx_ne ht
    have q2 := tx_neB ht
    rw [hX] at q1 q2
    go_enter Tryd.func55, Tryd.ntmps55
    go_wp2
    go_ret
    exact ⟨⟨false, rfl, iff_of_false (by decide) (fm_tx (by decide) ht)⟩, (by first | exact al0 w _ | exact (al0 w _).setCell (Nat.le_refl _) _ | exact ((al0 w _).setCell (Nat.le_refl _) _).setCell (Nat.le_refl _) _ | exact (HB1.out.setCell (Nat.le_refl _) _).setCell (Nat.le_refl _) _ | exact HB1.out.setCell (Nat.le_refl _) _ | exact HB1.out)⟩
  subst ht
  subst hX
  by_cases hk : ks = []
  rotate_left
  · have q := len_ne hk
    go_enter Tryd.func55, Tryd.ntmps55
    go_wp2
    go_ret
    exact ⟨⟨false, rfl, iff_of_false (by decide) (fm_ks (by decide) hk)⟩, (by first | exact al0 w _ | exact (al0 w _).setCell (Nat.le_refl _) _ | exact ((al0 w _).setCell (Nat.le_refl _) _).setCell (Nat.le_refl _) _ | exact (HB1.out.setCell (Nat.le_refl _) _).setCell (Nat.le_refl _) _ | exact HB1.out.setCell (Nat.le_refl _) _ | exact HB1.out)⟩
  subst hk
  by_cases hd : kids = []
  rotate_left
  · have q := len_ne hd
    go_enter Tryd.func55, Tryd.ntmps55
    go_wp2
    go_ret
    exact ⟨⟨false, rfl, iff_of_false (by decide) (fm_kids (by decide) (by decide) hd)⟩, (by first | exact al0 w _ | exact (al0 w _).setCell (Nat.le_refl _) _ | exact ((al0 w _).setCell (Nat.le_refl _) _).setCell (Nat.le_refl _) _ | exact (HB1.out.setCell (Nat.le_refl _) _).setCell (Nat.le_refl _) _ | exact HB1.out.setCell (Nat.le_refl _) _ | exact HB1.out)⟩
  subst hd
  go_enter Tryd.func55, Tryd.ntmps55
  go_wp2
  go_ret
  exact ⟨⟨true, rfl, iff_of_true rfl ⟨.inl rfl, .inr rfl, .inr rfl, .inr (.inr rfl), by decide, by decide, fun h => absurd h (by decide), fun h => absurd h (by decide), fun h => absurd h (by decide)⟩⟩, (by first | exact al0 w _ | exact (al0 w _).setCell (Nat.le_refl _) _ | exact ((al0 w _).setCell (Nat.le_refl _) _).setCell (Nat.le_refl _) _ | exact (HB1.out.setCell (Nat.le_refl _) _).setCell (Nat.le_refl _) _ | exact HB1.out.setCell (Nat.le_refl _) _ | exact HB1.out)⟩

set_option maxRecDepth 100000 in
set_option maxHeartbeats 4000000 in
theorem formed_k5 (n : Int) (X : ByteArray) (tx : List UInt8) (hX : (⟨tx.toArray⟩ : ByteArray) = X) (ks : List (List UInt8)) (kids : List NT) (S1 S2 : Option Addr) (c0 c1 : Nat) (w : World) (hs : X.size ≤ 1000000) (hT : Lib.Utf8Tabs 15 16 w) :
    Calls Tryd.prog 55 #[.agg #[.int .i64 5, .int .i64 n, .string X, .slice S1 ks.length c0, .slice S2 kids.length c1]] w fun e w' => (∃ b, e = .returned (.bool b) ∧ (b = true ↔ fmP 5 n tx ks kids)) ∧ Below w.heap.size w w' := by
  have hV := valid_any X (w.alloc (.cells #[.int .i64 5, .int .i64 n, .string X, .slice S1 ks.length c0, .slice S2 kids.length c1] 25)) (by unfold maxLen; omega) (Utf8Tabs_below hT (al0 w _))
  have HT := Lib.hid hT
  clear hT
  cases hv : vld X X.size 0 with
  | false =>
    rw [hv] at hV
    have hno : ¬ VdL tx := fun e => by unfold VdL at e; rw [hX, hv] at e; cases e
    clear hv
    go_enter Tryd.func55, Tryd.ntmps55
    go_wp2_with (go_at_call 65; refine hV.mono ?_; rintro e w1 ⟨rfl, hb1⟩)
    go_ret
    exact ⟨⟨false, rfl, iff_of_false (by decide) (fm_vd hno)⟩, (al0 w _).trans (hb1.mono (by simp))⟩
  | true =>
    rw [hv] at hV
    have hyes : VdL tx := by unfold VdL; rw [hX]; exact hv
    clear hv
    by_cases hn : n = 0
    rotate_left
    · have q : (n == 0) = false := by simpa using hn
      clear HT
      go_enter Tryd.func55, Tryd.ntmps55
      go_wp2_with fail
      refine hV.mono ?_
      rintro e w1 ⟨rfl, hb1⟩
      have HB1 : Hid (Below w.heap.size w w1) := (al0 w _).trans (hb1.mono (by simp))
      have hx : Blk w1 w.heap.size (.int .i64 5) (.int .i64 n) (.string X) (.slice S1 ks.length c0) (.slice S2 kids.length c1) := (hb1.block _ (by simp)).trans (heap_alloc_new w _)
      have x0 : w1.cell? ⟨w.heap.size, 0, none⟩ = some (.int .i64 5) := hx.cell 0 (by omega)
      have x1 : w1.cell? ⟨w.heap.size, 1, none⟩ = some (.int .i64 n) := hx.cell 1 (by omega)
      have x2 : w1.cell? ⟨w.heap.size, 2, none⟩ = some (.string X) := hx.cell 2 (by omega)
      have x3 : w1.cell? ⟨w.heap.size, 3, none⟩ = some (.slice S1 ks.length c0) := hx.cell 3 (by omega)
      have x4 : w1.cell? ⟨w.heap.size, 4, none⟩ = some (.slice S2 kids.length c1) := hx.cell 4 (by omega)
      have f2 := hx.fz 2
      clear hV hb1 hx
      go_wp2
      go_ret
      exact ⟨⟨false, rfl, iff_of_false (by decide) (fm_n (by decide) hn)⟩, (by first | exact al0 w _ | exact (al0 w _).setCell (Nat.le_refl _) _ | exact ((al0 w _).setCell (Nat.le_refl _) _).setCell (Nat.le_refl _) _ | exact (HB1.out.setCell (Nat.le_refl _) _).setCell (Nat.le_refl _) _ | exact HB1.out.setCell (Nat.le_refl _) _ | exact HB1.out)⟩
    subst hn
    by_cases hk : ks = []
    rotate_left
    · have q := len_ne hk
      clear HT
      go_enter Tryd.func55, Tryd.ntmps55
      go_wp2_with fail
      refine hV.mono ?_
      rintro e w1 ⟨rfl, hb1⟩
      have HB1 : Hid (Below w.heap.size w w1) := (al0 w _).trans (hb1.mono (by simp))
      have hx : Blk w1 w.heap.size (.int .i64 5) (.int .i64 0) (.string X) (.slice S1 ks.length c0) (.slice S2 kids.length c1) := (hb1.block _ (by simp)).trans (heap_alloc_new w _)
      have x0 : w1.cell? ⟨w.heap.size, 0, none⟩ = some (.int .i64 5) := hx.cell 0 (by omega)
      have x1 : w1.cell? ⟨w.heap.size, 1, none⟩ = some (.int .i64 0) := hx.cell 1 (by omega)
      have x2 : w1.cell? ⟨w.heap.size, 2, none⟩ = some (.string X) := hx.cell 2 (by omega)
      have x3 : w1.cell? ⟨w.heap.size, 3, none⟩ = some (.slice S1 ks.length c0) := hx.cell 3 (by omega)
      have x4 : w1.cell? ⟨w.heap.size, 4, none⟩ = some (.slice S2 kids.length c1) := hx.cell 4 (by omega)
      have f2 := hx.fz 2
      clear hV hb1 hx
      go_wp2
      go_ret
      exact ⟨⟨false, rfl, iff_of_false (by decide) (fm_ks (by decide) hk)⟩, (by first | exact al0 w _ | exact (al0 w _).setCell (Nat.le_refl _) _ | exact ((al0 w _).setCell (Nat.le_refl _) _).setCell (Nat.le_refl _) _ | exact (HB1.out.setCell (Nat.le_refl _) _).setCell (Nat.le_refl _) _ | exact HB1.out.setCell (Nat.le_refl _) _ | exact HB1.out)⟩
    subst hk
    by_cases hd : kids = []
    rotate_left
    · have q := len_ne hd
      clear HT
      go_enter Tryd.func55, Tryd.ntmps55
      go_wp2_with fail
      refine hV.mono ?_
      rintro e w1 ⟨rfl, hb1⟩
      have HB1 : Hid (Below w.heap.size w w1) := (al0 w _).trans (hb1.mono (by simp))
      have hx : Blk w1 w.heap.size (.int .i64 5) (.int .i64 0) (.string X) (.slice S1 0 c0) (.slice S2 kids.length c1) := (hb1.block _ (by simp)).trans (heap_alloc_new w _)
      have x0 : w1.cell? ⟨w.heap.size, 0, none⟩ = some (.int .i64 5) := hx.cell 0 (by omega)
      have x1 : w1.cell? ⟨w.heap.size, 1, none⟩ = some (.int .i64 0) := hx.cell 1 (by omega)
      have x2 : w1.cell? ⟨w.heap.size, 2, none⟩ = some (.string X) := hx.cell 2 (by omega)
      have x3 : w1.cell? ⟨w.heap.size, 3, none⟩ = some (.slice S1 0 c0) := hx.cell 3 (by omega)
      have x4 : w1.cell? ⟨w.heap.size, 4, none⟩ = some (.slice S2 kids.length c1) := hx.cell 4 (by omega)
      have f2 := hx.fz 2
      clear hV hb1 hx
      go_wp2
      go_ret
      exact ⟨⟨false, rfl, iff_of_false (by decide) (fm_kids (by decide) (by decide) hd)⟩, (by first | exact al0 w _ | exact (al0 w _).setCell (Nat.le_refl _) _ | exact ((al0 w _).setCell (Nat.le_refl _) _).setCell (Nat.le_refl _) _ | exact (HB1.out.setCell (Nat.le_refl _) _).setCell (Nat.le_refl _) _ | exact HB1.out.setCell (Nat.le_refl _) _ | exact HB1.out)⟩
    subst hd
    clear HT
    go_enter Tryd.func55, Tryd.ntmps55
    go_wp2_with fail
    refine hV.mono ?_
    rintro e w1 ⟨rfl, hb1⟩
    have HB1 : Hid (Below w.heap.size w w1) := (al0 w _).trans (hb1.mono (by simp))
    have hx : Blk w1 w.heap.size (.int .i64 5) (.int .i64 0) (.string X) (.slice S1 0 c0) (.slice S2 0 c1) := (hb1.block _ (by simp)).trans (heap_alloc_new w _)
    have x0 : w1.cell? ⟨w.heap.size, 0, none⟩ = some (.int .i64 5) := hx.cell 0 (by omega)
    have x1 : w1.cell? ⟨w.heap.size, 1, none⟩ = some (.int .i64 0) := hx.cell 1 (by omega)
    have x2 : w1.cell? ⟨w.heap.size, 2, none⟩ = some (.string X) := hx.cell 2 (by omega)
    have x3 : w1.cell? ⟨w.heap.size, 3, none⟩ = some (.slice S1 0 c0) := hx.cell 3 (by omega)
    have x4 : w1.cell? ⟨w.heap.size, 4, none⟩ = some (.slice S2 0 c1) := hx.cell 4 (by omega)
    have f2 := hx.fz 2
    clear hV hb1 hx
    go_wp2
    go_ret
    exact ⟨⟨true, rfl, iff_of_true rfl ⟨.inr rfl, .inl rfl, .inr rfl, .inr (.inr rfl), by decide, by decide, fun _ => hyes, fun h => absurd h (by decide), fun h => absurd h (by decide)⟩⟩, (by first | exact al0 w _ | exact (al0 w _).setCell (Nat.le_refl _) _ | exact ((al0 w _).setCell (Nat.le_refl _) _).setCell (Nat.le_refl _) _ | exact (HB1.out.setCell (Nat.le_refl _) _).setCell (Nat.le_refl _) _ | exact HB1.out.setCell (Nat.le_refl _) _ | exact HB1.out)⟩

set_option maxRecDepth 100000 in
set_option maxHeartbeats 4000000 in
theorem formed_k6 (n : Int) (X : ByteArray) (tx : List UInt8) (hX : (⟨tx.toArray⟩ : ByteArray) = X) (ks : List (List UInt8)) (kids : List NT) (S1 S2 : Option Addr) (c0 c1 : Nat) (w : World) :
    Calls Tryd.prog 55 #[.agg #[.int .i64 6, .int .i64 n, .string X, .slice S1 ks.length c0, .slice S2 kids.length c1]] w fun e w' => (∃ b, e = .returned (.bool b) ∧ (b = true ↔ fmP 6 n tx ks kids)) ∧ Below w.heap.size w w' := by
  by_cases hn : n = 0
  rotate_left
  · have q : (n == 0) = false := by simpa using hn
    go_enter Tryd.func55, Tryd.ntmps55
    go_wp2
    go_ret
    exact ⟨⟨false, rfl, iff_of_false (by decide) (fm_n (by decide) hn)⟩, (by first | exact al0 w _ | exact (al0 w _).setCell (Nat.le_refl _) _ | exact ((al0 w _).setCell (Nat.le_refl _) _).setCell (Nat.le_refl _) _ | exact (HB1.out.setCell (Nat.le_refl _) _).setCell (Nat.le_refl _) _ | exact HB1.out.setCell (Nat.le_refl _) _ | exact HB1.out)⟩
  subst hn
  by_cases ht : tx = []
  rotate_left
  · have q1 := tx_ne ht
    have q2 := tx_neB ht
    rw [hX] at q1 q2
    go_enter Tryd.func55, Tryd.ntmps55
    go_wp2
    go_ret
    exact ⟨⟨false, rfl, iff_of_false (by decide) (fm_tx (by decide) ht)⟩, (by first | exact al0 w _ | exact (al0 w _).setCell (Nat.le_refl _) _ | exact ((al0 w _).setCell (Nat.le_refl _) _).setCell (Nat.le_refl _) _ | exact (HB1.out.setCell (Nat.le_refl _) _).setCell (Nat.le_refl _) _ | exact HB1.out.setCell (Nat.le_refl _) _ | exact HB1.out)⟩
  subst ht
  subst hX
  by_cases hk : ks = []
  rotate_left
  · have q := len_ne hk
    go_enter Tryd.func55, Tryd.ntmps55
    go_wp2
    go_ret
    exact ⟨⟨false, rfl, iff_of_false (by decide) (fm_ks (by decide) hk)⟩, (by first | exact al0 w _ | exact (al0 w _).setCell (Nat.le_refl _) _ | exact ((al0 w _).setCell (Nat.le_refl _) _).setCell (Nat.le_refl _) _ | exact (HB1.out.setCell (Nat.le_refl _) _).setCell (Nat.le_refl _) _ | exact HB1.out.setCell (Nat.le_refl _) _ | exact HB1.out)⟩
  subst hk
  go_enter Tryd.func55, Tryd.ntmps55
  go_wp2
  go_ret
  exact ⟨⟨true, rfl, iff_of_true rfl ⟨.inr rfl, .inr rfl, .inr rfl, .inl rfl, by decide, by decide, fun h => absurd h (by decide), fun h => absurd h (by decide), fun h => absurd h (by decide)⟩⟩, (by first | exact al0 w _ | exact (al0 w _).setCell (Nat.le_refl _) _ | exact ((al0 w _).setCell (Nat.le_refl _) _).setCell (Nat.le_refl _) _ | exact (HB1.out.setCell (Nat.le_refl _) _).setCell (Nat.le_refl _) _ | exact HB1.out.setCell (Nat.le_refl _) _ | exact HB1.out)⟩

set_option maxRecDepth 100000 in
set_option maxHeartbeats 4000000 in
theorem formed_k7 (n : Int) (X : ByteArray) (tx : List UInt8) (hX : (⟨tx.toArray⟩ : ByteArray) = X) (ks : List (List UInt8)) (kids : List NT) (S1 S2 : Option Addr) (c0 c1 : Nat) (w : World) (ok : Nat → Prop) (hst : StrAt ok w (.slice S1 ks.length c0) ks) (hsum : kySum ks ≤ 1000000) (hT : Lib.Utf8Tabs 15 16 w) :
    Calls Tryd.prog 55 #[.agg #[.int .i64 7, .int .i64 n, .string X, .slice S1 ks.length c0, .slice S2 kids.length c1]] w fun e w' => (∃ b, e = .returned (.bool b) ∧ (b = true ↔ fmP 7 n tx ks kids)) ∧ Below w.heap.size w w' := by
  by_cases hl : ks.length = kids.length
  rotate_left
  · have q : ((ks.length : Int) != (kids.length : Int)) = true := by simp; omega
    go_enter Tryd.func55, Tryd.ntmps55
    go_wp2
    go_ret
    exact ⟨⟨false, rfl, iff_of_false (by decide) (fm_len hl)⟩, (by first | exact al0 w _ | exact (al0 w _).setCell (Nat.le_refl _) _ | exact ((al0 w _).setCell (Nat.le_refl _) _).setCell (Nat.le_refl _) _ | exact (HB1.out.setCell (Nat.le_refl _) _).setCell (Nat.le_refl _) _ | exact HB1.out.setCell (Nat.le_refl _) _ | exact HB1.out)⟩
  have q0 : ((ks.length : Int) != (kids.length : Int)) = false := by rw [hl]; simp
  have hK := keyed_any ok (.slice S1 ks.length c0) ks (w.alloc (.cells #[.int .i64 7, .int .i64 n, .string X, .slice S1 ks.length c0, .slice S2 kids.length c1] 25)) (hst.kept (al0 w _).size (fun b hb hlt => ⟨hb, (al0 w _).block b hlt⟩)) hsum (Utf8Tabs_below hT (al0 w _))
  have HL := Lib.hid hl
  clear hT hst hl
  cases hv : kyB ks with
  | false =>
    rw [hv] at hK
    have HV := Lib.hid hv
    clear hv
    go_enter Tryd.func55, Tryd.ntmps55
    go_wp2_with (go_at_call 66; refine hK.mono ?_; rintro e w1 ⟨rfl, hb1⟩)
    go_ret
    exact ⟨⟨false, rfl, iff_of_false (by decide) (fm_ky HV.out)⟩, (al0 w _).trans (hb1.mono (by simp))⟩
  | true =>
    rw [hv] at hK
    have HV := Lib.hid hv
    clear hv
    by_cases hn : n = 0
    rotate_left
    · have q : (n == 0) = false := by simpa using hn
      go_enter Tryd.func55, Tryd.ntmps55
      go_wp2_with fail
      refine hK.mono ?_
      rintro e w1 ⟨rfl, hb1⟩
      have HB1 : Hid (Below w.heap.size w w1) := (al0 w _).trans (hb1.mono (by simp))
      have hx : Blk w1 w.heap.size (.int .i64 7) (.int .i64 n) (.string X) (.slice S1 ks.length c0) (.slice S2 kids.length c1) := (hb1.block _ (by simp)).trans (heap_alloc_new w _)
      have x0 : w1.cell? ⟨w.heap.size, 0, none⟩ = some (.int .i64 7) := hx.cell 0 (by omega)
      have x1 : w1.cell? ⟨w.heap.size, 1, none⟩ = some (.int .i64 n) := hx.cell 1 (by omega)
      have x2 : w1.cell? ⟨w.heap.size, 2, none⟩ = some (.string X) := hx.cell 2 (by omega)
      have x3 : w1.cell? ⟨w.heap.size, 3, none⟩ = some (.slice S1 ks.length c0) := hx.cell 3 (by omega)
      have x4 : w1.cell? ⟨w.heap.size, 4, none⟩ = some (.slice S2 kids.length c1) := hx.cell 4 (by omega)
      have f3 := hx.fz 3
      have f4 := hx.fz 4
      clear hK hb1 hx
      go_wp2
      go_ret
      exact ⟨⟨false, rfl, iff_of_false (by decide) (fm_n (by decide) hn)⟩, (by first | exact al0 w _ | exact (al0 w _).setCell (Nat.le_refl _) _ | exact ((al0 w _).setCell (Nat.le_refl _) _).setCell (Nat.le_refl _) _ | exact (HB1.out.setCell (Nat.le_refl _) _).setCell (Nat.le_refl _) _ | exact HB1.out.setCell (Nat.le_refl _) _ | exact HB1.out)⟩
    subst hn
    by_cases ht : tx = []
    rotate_left
    · have q1 := tx_ne ht
      have q2 := tx_neB ht
      rw [hX] at q1 q2
      go_enter Tryd.func55, Tryd.ntmps55
      go_wp2_with fail
      refine hK.mono ?_
      rintro e w1 ⟨rfl, hb1⟩
      have HB1 : Hid (Below w.heap.size w w1) := (al0 w _).trans (hb1.mono (by simp))
      have hx : Blk w1 w.heap.size (.int .i64 7) (.int .i64 0) (.string X) (.slice S1 ks.length c0) (.slice S2 kids.length c1) := (hb1.block _ (by simp)).trans (heap_alloc_new w _)
      have x0 : w1.cell? ⟨w.heap.size, 0, none⟩ = some (.int .i64 7) := hx.cell 0 (by omega)
      have x1 : w1.cell? ⟨w.heap.size, 1, none⟩ = some (.int .i64 0) := hx.cell 1 (by omega)
      have x2 : w1.cell? ⟨w.heap.size, 2, none⟩ = some (.string X) := hx.cell 2 (by omega)
      have x3 : w1.cell? ⟨w.heap.size, 3, none⟩ = some (.slice S1 ks.length c0) := hx.cell 3 (by omega)
      have x4 : w1.cell? ⟨w.heap.size, 4, none⟩ = some (.slice S2 kids.length c1) := hx.cell 4 (by omega)
      have f3 := hx.fz 3
      have f4 := hx.fz 4
      clear hK hb1 hx
      go_wp2
      go_ret
      exact ⟨⟨false, rfl, iff_of_false (by decide) (fm_tx (by decide) ht)⟩, (by first | exact al0 w _ | exact (al0 w _).setCell (Nat.le_refl _) _ | exact ((al0 w _).setCell (Nat.le_refl _) _).setCell (Nat.le_refl _) _ | exact (HB1.out.setCell (Nat.le_refl _) _).setCell (Nat.le_refl _) _ | exact HB1.out.setCell (Nat.le_refl _) _ | exact HB1.out)⟩
    subst ht
    subst hX
    go_enter Tryd.func55, Tryd.ntmps55
    go_wp2_with fail
    refine hK.mono ?_
    rintro e w1 ⟨rfl, hb1⟩
    have HB1 : Hid (Below w.heap.size w w1) := (al0 w _).trans (hb1.mono (by simp))
    have hx : Blk w1 w.heap.size (.int .i64 7) (.int .i64 0) (.string ⟨#[]⟩) (.slice S1 ks.length c0) (.slice S2 kids.length c1) := (hb1.block _ (by simp)).trans (heap_alloc_new w _)
    have x0 : w1.cell? ⟨w.heap.size, 0, none⟩ = some (.int .i64 7) := hx.cell 0 (by omega)
    have x1 : w1.cell? ⟨w.heap.size, 1, none⟩ = some (.int .i64 0) := hx.cell 1 (by omega)
    have x2 : w1.cell? ⟨w.heap.size, 2, none⟩ = some (.string ⟨#[]⟩) := hx.cell 2 (by omega)
    have x3 : w1.cell? ⟨w.heap.size, 3, none⟩ = some (.slice S1 ks.length c0) := hx.cell 3 (by omega)
    have x4 : w1.cell? ⟨w.heap.size, 4, none⟩ = some (.slice S2 kids.length c1) := hx.cell 4 (by omega)
    have f3 := hx.fz 3
    have f4 := hx.fz 4
    clear hK hb1 hx
    go_wp2
    go_ret
    exact ⟨⟨true, rfl, iff_of_true rfl ⟨.inr rfl, .inr rfl, .inl rfl, .inr (.inl rfl), by decide, by decide, fun h => absurd h (by decide), fun _ => HL.out, fun _ => HV.out⟩⟩, (by first | exact al0 w _ | exact (al0 w _).setCell (Nat.le_refl _) _ | exact ((al0 w _).setCell (Nat.le_refl _) _).setCell (Nat.le_refl _) _ | exact (HB1.out.setCell (Nat.le_refl _) _).setCell (Nat.le_refl _) _ | exact HB1.out.setCell (Nat.le_refl _) _ | exact HB1.out)⟩

set_option maxRecDepth 100000 in
set_option maxHeartbeats 4000000 in
theorem formed_k0 (k n : Int) (X : ByteArray) (tx : List UInt8) (_hX : (⟨tx.toArray⟩ : ByteArray) = X) (ks : List (List UInt8)) (kids : List NT) (S1 S2 : Option Addr) (c0 c1 : Nat) (w : World) (hk : k < 1 ∨ 7 < k) :
    Calls Tryd.prog 55 #[.agg #[.int .i64 k, .int .i64 n, .string X, .slice S1 ks.length c0, .slice S2 kids.length c1]] w fun e w' => (∃ b, e = .returned (.bool b) ∧ (b = true ↔ fmP k n tx ks kids)) ∧ Below w.heap.size w w' := by
  have r1 : (k == 1) = false := by simp; omega
  have r2 : (k == 2) = false := by simp; omega
  have r3 : (k == 3) = false := by simp; omega
  have r4 : (k == 4) = false := by simp; omega
  have r5 : (k == 5) = false := by simp; omega
  have r6 : (k == 6) = false := by simp; omega
  have r7 : (k == 7) = false := by simp; omega
  go_enter Tryd.func55, Tryd.ntmps55
  go_wp2
  go_ret
  exact ⟨⟨false, rfl, iff_of_false (by decide) (fm_out hk)⟩, (by first | exact al0 w _ | exact (al0 w _).setCell (Nat.le_refl _) _ | exact ((al0 w _).setCell (Nat.le_refl _) _).setCell (Nat.le_refl _) _ | exact (HB1.out.setCell (Nat.le_refl _) _).setCell (Nat.le_refl _) _ | exact HB1.out.setCell (Nat.le_refl _) _ | exact HB1.out)⟩

theorem formed_any (ok : Nat → Prop) (h : Nat) (t : NT) (v : Value) (w : World) (hN : NIs ok h w t v) (hs : szT t ≤ 1000000) (hT : Lib.Utf8Tabs 15 16 w) :
    Calls Tryd.prog 55 #[v] w fun e w' => (∃ b, e = .returned (.bool b) ∧ (b = true ↔ fmB t)) ∧ Below w.heap.size w w' := by
  cases h with
  | zero => exact hN.elim
  | succ h =>
    obtain ⟨k, n, tx, ks, kids⟩ := t
    obtain ⟨kv, S, c1, rfl, hst, _⟩ := hN
    obtain ⟨S1, c0, rfl, hst2⟩ := hst
    unfold szT at hs
    show Calls _ _ #[.agg #[.int .i64 k, .int .i64 n, .string ⟨tx.toArray⟩, .slice S1 ks.length c0, .slice S kids.length c1]] w _
    by_cases hk : k < 1 ∨ 7 < k
    · exact formed_k0 k n _ tx rfl ks kids S1 S c0 c1 w hk
    have hk7 : k = 1 ∨ k = 2 ∨ k = 3 ∨ k = 4 ∨ k = 5 ∨ k = 6 ∨ k = 7 := by omega
    rcases hk7 with rfl | rfl | rfl | rfl | rfl | rfl | rfl
    · exact formed_k1 n _ tx rfl ks kids S1 S c0 c1 w
    · exact formed_k2 n _ tx rfl ks kids S1 S c0 c1 w
    · exact formed_k3 n _ tx rfl ks kids S1 S c0 c1 w
    · exact formed_k4 n _ tx rfl ks kids S1 S c0 c1 w
    · exact formed_k5 n _ tx rfl ks kids S1 S c0 c1 w (by show tx.toArray.size ≤ _; simp; omega) hT
    · exact formed_k6 n _ tx rfl ks kids S1 S c0 c1 w
    · exact formed_k7 n _ tx rfl ks kids S1 S c0 c1 w ok ⟨S1, c0, rfl, hst2⟩ (by unfold kySum; omega) hT

end Go.Proofs.YtlaagdpanbineaaDoor

