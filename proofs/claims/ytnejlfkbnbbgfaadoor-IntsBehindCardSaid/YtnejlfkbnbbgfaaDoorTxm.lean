/- The decimal text of a number (no program): it is a number's text, and its value is the number. -/
import Derived.Test.YtnejlfkbnbbgfaaDoorRtk
import Derived.Test.YtnejlfkbnbbgfaaDoorPar
import Derived.Lib.ItoaMem
namespace Go.Proofs.YtnejlfkbnbbgfaaDoor
open Go.Lib

theorem dd_small {u : Nat} (h : u < 10) : decDigits u = [UInt8.ofNat (48 + u)] := by rw [decDigits, dif_pos h]
theorem dd_big {u : Nat} (h : ¬ u < 10) : decDigits u = decDigits (u / 10) ++ [UInt8.ofNat (48 + u % 10)] := by rw [decDigits, dif_neg h]
theorem dg_byte {d : Nat} (h : d < 10) : (UInt8.ofNat (48 + d)).toNat = 48 + d := by
  rw [UInt8.toNat_ofNat']; omega

theorem dd_ind {P : Nat → List UInt8 → Prop} (h1 : ∀ u, u < 10 → P u [UInt8.ofNat (48 + u)]) (h2 : ∀ u l, ¬ u < 10 → P (u / 10) l → P u (l ++ [UInt8.ofNat (48 + u % 10)])) : ∀ u, P u (decDigits u) := by
  intro u
  induction u using Nat.strongRecOn with
  | _ u ih =>
    by_cases h : u < 10
    · rw [dd_small h]; exact h1 u h
    · rw [dd_big h]; exact h2 u _ h (ih (u / 10) (by omega))

theorem dd_dg (u : Nat) : allDg (decDigits u) := by
  refine dd_ind (P := fun _ l => allDg l) ?_ ?_ u
  · intro u h c hc
    simp only [List.mem_singleton] at hc
    rw [hc, dg_byte h]; omega
  · intro u l _ ih c hc
    rcases List.mem_append.1 hc with h | h
    · exact ih c h
    · simp only [List.mem_singleton] at h
      rw [h, dg_byte (by omega)]; omega
theorem dd_val (u : Nat) : valFrom 0 (decDigits u) = u := by
  refine dd_ind (P := fun u l => valFrom 0 l = u) ?_ ?_ u
  · intro u h
    rw [valFrom_cons, valFrom_nil, dg_byte h]; omega
  · intro u l _ ih
    rw [valFrom_append, ih, valFrom_cons, valFrom_nil, dg_byte (by omega)]; omega
theorem dd_ne (u : Nat) : decDigits u ≠ [] := by
  refine dd_ind (P := fun _ l => l ≠ []) ?_ ?_ u
  · intro u h; simp
  · intro u l _ _; simp
/-- no needless nought -/
theorem dd_head (u : Nat) : (u = 0 ∧ decDigits u = [48]) ∨ (decDigits u ≠ [] ∧ bAt (decDigits u) 0 ≠ 48) := by
  refine dd_ind (P := fun u l => (u = 0 ∧ l = [48]) ∨ (l ≠ [] ∧ bAt l 0 ≠ 48)) ?_ ?_ u
  · intro u h
    rcases Nat.eq_zero_or_pos u with h0 | h0
    · exact .inl ⟨h0, by rw [h0]; rfl⟩
    · exact .inr ⟨by simp, by rw [bAt_cons, dg_byte h]; omega⟩
  · intro u l h ih
    rcases ih with ⟨h0, _⟩ | ⟨ih1, ih2⟩
    · omega
    · refine .inr ⟨by simp, ?_⟩
      cases l with
      | nil => exact absurd rfl ih1
      | cons c r => exact ih2

theorem digs_dd (u : Nat) {b : List UInt8} (hb : ¬ isDg (bAt b 0)) : digs (decDigits u ++ b) = (decDigits u).length := by
  refine digs_of (fun k hk => ?_) ?_
  · rw [bAt_left hk]; exact allDg_at (dd_dg u) hk
  · have := bAt_right (decDigits u) b 0
    rw [Nat.add_zero] at this
    rw [this]; exact hb
theorem dd_len (u : Nat) : 0 < (decDigits u).length := List.length_pos_iff.2 (dd_ne u)
theorem front_of {l : List UInt8} {σ : Nat} {u : Nat} {b : List UInt8} (hs : sgn l = σ) (hl : l.drop σ = decDigits u ++ b) (hb : ¬ isDg (bAt b 0)) : front l = σ + (decDigits u).length := by
  have hp := dd_len u
  unfold front
  have e : bAt l (sgn l) = bAt (decDigits u) 0 := by
    have := bAt_drop l σ 0
    rw [hl, Nat.add_zero, bAt_left hp] at this
    rw [hs, this]
  rw [e, hs, hl, digs_dd u hb]
  rcases dd_head u with ⟨h0, h1⟩ | ⟨h0, h1⟩
  · rw [h1]; rfl
  · rw [if_neg h1, if_neg (by omega)]

/-- what stands behind does not go on with a number's text -/
def Ends (b : List UInt8) : Prop := ¬ isDg (bAt b 0) ∧ bAt b 0 ≠ 46 ∧ bAt b 0 ≠ 101 ∧ bAt b 0 ≠ 69
theorem ends_nil : Ends [] := ⟨by simp [bAt, isDg], by simp [bAt], by simp [bAt], by simp [bAt]⟩

theorem front_itoa (n : Int) {b : List UInt8} (hb : Ends b) : front (itoa n ++ b) = (itoa n).length := by
  unfold itoa
  split
  · rw [front_of (σ := 1) (u := n.natAbs) (b := b) (by unfold sgn; rw [List.cons_append, bAt_cons]; rfl) (by rw [List.cons_append]; rfl) hb.1, List.length_cons]; omega
  · have h := allDg_at (dd_dg n.toNat) (dd_len n.toNat)
    unfold isDg at h
    rw [front_of (σ := 0) (u := n.toNat) (b := b) (by unfold sgn; rw [bAt_left (dd_len _), if_neg (by omega)]) (by rw [List.drop_zero]) hb.1]; omega
theorem all_itoa (n : Int) {b : List UInt8} (hb : Ends b) : allOf (itoa n ++ b) = (itoa n).length := by
  have h2 : two (itoa n ++ b) = (itoa n).length := by
    unfold two
    rw [front_itoa n hb, List.drop_left]
    unfold frac
    rw [if_neg (fun h => hb.2.1 h.1)]
    rfl
  unfold allOf
  rw [h2, List.drop_left]
  unfold expo
  rw [if_neg (fun h => h.1.elim hb.2.2.1 hb.2.2.2)]
  rfl
theorem itoa_len (n : Int) : 0 < (itoa n).length := by
  unfold itoa; split
  · simp
  · exact dd_len _
theorem wholeV_of {l : List UInt8} {v : Int} (h : atoiAll l = .ok v) : wholeV l = some v := by unfold wholeV; rw [h]
theorem whole_itoa (n : Int) (h0 : -9223372036854775808 ≤ n) (h1 : n ≤ 9223372036854775807) : wholeV (itoa n) = some n := by
  apply wholeV_of
  unfold itoa
  by_cases hn : n < 0
  · rw [if_pos hn, atoi_neg _ (dd_dg _) (dd_ne _), dd_val, if_pos (by omega)]
    congr 1; omega
  · rw [if_neg hn, atoi_pos _ (dd_dg _) (dd_ne _), dd_val, if_pos (by omega)]
    congr 1; omega
theorem takeR_itoa (n : Int) {b : List UInt8} (hb : Ends b) (h0 : -9223372036854775808 ≤ n) (h1 : n ≤ 9223372036854775807) : takeR (itoa n ++ b) = (n, (itoa n).length, none) := by
  have hl := itoa_len n
  have hf := front_itoa n hb
  rw [takeR_ok (v := n) (by omega) (by rw [hf, all_itoa n hb]) (by rw [hf, List.take_left]; exact whole_itoa n h0 h1), hf]
theorem parseR_itoa (n : Int) (h0 : -9223372036854775808 ≤ n) (h1 : n ≤ 9223372036854775807) : parseR (itoa n) = (n, none) := by
  have hl := itoa_len n
  have hf := front_itoa n ends_nil
  have ha := all_itoa n ends_nil
  have ht := takeR_itoa n ends_nil h0 h1
  rw [List.append_nil] at hf ha ht
  rw [parseR_go (by omega) ha, ht]

end Go.Proofs.YtnejlfkbnbbgfaaDoor
