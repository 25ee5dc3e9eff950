/- json.Count and json.Depth on a value in memory. -/
import Derived.Test.YtnlpdpbmmpeiaaaDoorJn
import Derived.WalkKit
import Derived.WalkSpells
import Derived.WalkLawsBesides
import Derived.Lib.Hide
import Derived.Handy
namespace Go.Proofs.YtnlpdpbmmpeiaaaDoor
open Go.RowKit

mutual
def cnt : NT → Nat
  | .mk _ _ _ _ kids => 1 + cntL kids
def cntL : List NT → Nat
  | [] => 0
  | t :: ts => cnt t + cntL ts
end
mutual
def dep : NT → Nat
  | .mk _ _ _ _ kids => depL kids
def depL : List NT → Nat
  | [] => 0
  | t :: ts => max (1 + dep t) (depL ts)
end
theorem cntL_append : ∀ a b : List NT, cntL (a ++ b) = cntL a + cntL b
  | [], b => by simp [cntL]
  | t :: a, b => by simp [cntL, cntL_append a b]; omega
theorem depL_append : ∀ a b : List NT, depL (a ++ b) = max (depL a) (depL b)
  | [], b => by simp [depL]
  | t :: a, b => by simp only [List.cons_append, depL, depL_append a b]; omega
theorem take_snoc' (l : List NT) (k : Nat) (h : k < l.length) : l.take (k + 1) = l.take k ++ [l[k]] := by
  rw [List.take_succ_eq_append_getElem h]
theorem cntL_take (l : List NT) (k : Nat) (h : k < l.length) : cntL (l.take (k + 1)) = cntL (l.take k) + cnt l[k] := by rw [take_snoc' l k h, cntL_append]; simp [cntL]
theorem depL_take (l : List NT) (k : Nat) (h : k < l.length) : depL (l.take (k + 1)) = max (depL (l.take k)) (1 + dep l[k]) := by rw [take_snoc' l k h, depL_append]; simp [depL]
theorem cntL_le (l : List NT) (k : Nat) : cntL (l.take k) ≤ cntL l := by
  conv => rhs; rw [← List.take_append_drop k l]
  rw [cntL_append]; omega
theorem depL_le (l : List NT) (k : Nat) : depL (l.take k) ≤ depL l := by
  conv => rhs; rw [← List.take_append_drop k l]
  rw [depL_append]; omega
theorem len_le_cntL : ∀ l : List NT, l.length ≤ cntL l
  | [] => Nat.le_refl _
  | .mk _ _ _ _ ks :: l => by have := len_le_cntL l; simp only [List.length_cons, cntL, cnt]; omega

set_option maxRecDepth 100000 in
set_option maxHeartbeats 1000000 in
theorem count_any (ok : Nat → Prop) : ∀ (h : Nat) (t : NT) (v : Value) (w : World), NIs ok h w t v → True → cnt t ≤ 1000000 →
    Calls Tryd.prog 14 #[v] w fun e w' => e = .returned (.int .i64 (cnt t)) ∧ Below w.heap.size w w'
  | 0, _, _, _, hN, _, _ => hN.elim
  | h + 1, .mk kd nn tx ks kids, v, w, hN, hbd, hct => by
    have ih := count_any ok h
    obtain ⟨kv, S, c1, rfl, ⟨S1, c0, rfl, _⟩, hk⟩ := hN
    have hlen := len_le_cntL kids
    simp only [cnt] at hct
    have HIH := Lib.hid ih
    have HK := Lib.hid hk
    have HCT := Lib.hid hct
    have hlen2 : kids.length ≤ 1000000 := by omega
    have hdd : True := trivial
    clear ih hk hlen hct hbd
    show Calls Tryd.prog _ #[.agg #[.int .i64 kd, .int .i64 nn, .string ⟨tx.toArray⟩, .slice S1 ks.length c0, .slice S kids.length c1]] w _
    go_enter Tryd.func14, Tryd.ntmps14
    go_wp2
    go_loopw [3, 9] (fun c i wr => ∃ k : Nat, k ≤ kids.length ∧ i = .int .i64 k ∧ c = .int .i64 (1 + cntL (kids.take k) : Nat) ∧ Hid (Below w.heap.size w wr)) (fun _ i _ => kids.length - (intOf i).toNat)
    case atStart => exact ⟨0, Nat.zero_le _, rfl, by simp [cntL, depL], (Below.refl _ _).alloc (Nat.le_refl _) _⟩
    case round =>
      obtain ⟨k, hkl, rfl, rfl, HB⟩ := hrel
      by_cases hlt : k < kids.length
      · obtain ⟨b, off, rfl, hb0, hc⟩ : ∃ b off, S = some ⟨b, off, none⟩ ∧ b < w.heap.size ∧ ∀ j (hj : j < kids.length), ∃ c0 c1 c2 c3 c4,
            w.cell? ⟨b, off + 5 * j, none⟩ = some c0 ∧ w.cell? ⟨b, off + 5 * j + 1, none⟩ = some c1 ∧ w.cell? ⟨b, off + 5 * j + 2, none⟩ = some c2 ∧ w.cell? ⟨b, off + 5 * j + 3, none⟩ = some c3 ∧ w.cell? ⟨b, off + 5 * j + 4, none⟩ = some c4 ∧
            NIs ok h w kids[j] (.agg #[c0, c1, c2, c3, c4]) := by
          rcases HK.out with e | ⟨b, off, e, _, h1, h2⟩
          · rw [e] at hlt; simp at hlt
          · exact ⟨b, off, e, h1, h2⟩
        obtain ⟨x0, x1, x2, x3, x4, e0, e1, e2, e3, e4, hNk⟩ := hc k hlt
        obtain ⟨kk, n2, t2, S3, l3, m3, S4, l4, m4, hv⟩ := hNk.nd
        simp only [Value.agg.injEq, Array.mk.injEq, List.cons.injEq, and_true] at hv
        obtain ⟨rfl, rfl, rfl, rfl, rfl⟩ := hv
        have hcell : ∀ {j : Nat} {x : Value}, w.cell? ⟨b, off + 5 * k + j, none⟩ = some x → wr.cell? ⟨b, off + k * 5 + j, none⟩ = some x := fun {j x} hx => by
          rw [show off + k * 5 + j = off + 5 * k + j by omega]
          exact (HB.out.cell (p := ⟨b, off + 5 * k + j, none⟩) hb0).trans hx
        have f0 : wr.cell? ⟨b, off + k * 5, none⟩ = _ := hcell (j := 0) e0
        have f1 := hcell e1
        have f2 := hcell e2
        have f3 := hcell e3
        have f4 := hcell e4
        have hba : ∀ o, Below w.heap.size w (wr.alloc o) := fun o => HB.out.alloc (HB.out.size) _
        have hT := fun o => HIH.out kids[k] _ (wr.alloc o) (hNk.below (hba o)) trivial (by have h1 := HCT.out; have h2 := cntL_take kids k hlt; have h3 := cntL_le kids (k + 1); omega)
        have HT := cntL_take kids k hlt
        have HL := cntL_le kids (k + 1)
        have HBA := Lib.hid hba
        have HT2 := Lib.hid HT
        have hq1 : cntL (kids.take k) + cnt kids[k] ≤ 1000000 := by have h1 := HCT.out; omega
        have hq2 := Nat.zero_le (cnt kids[k])
        clear e0 e1 e2 e3 e4 hc hcell hba HT hNk
        go_wp2_with fail
        refine (hT _).mono ?_
        rintro e w2 ⟨rfl, hb2⟩
        have HB2 : Hid (Below w.heap.size w w2) := (HBA.out _).trans (hb2.mono (HBA.out _).size)
        clear hT hb2
        go_wp2
        go_roundw
        case rel => exact ⟨k + 1, by omega, by go_num, by rw [HT2.out]; go_num, HB2⟩
        case measure => simp [intOf]; omega
      · obtain rfl : k = kids.length := by omega
        go_wp2
        go_ret
        refine ⟨?_, HB.out⟩
        rw [List.take_length]
        rfl

set_option maxRecDepth 100000 in
set_option maxHeartbeats 1000000 in
theorem depth_any (ok : Nat → Prop) : ∀ (h : Nat) (t : NT) (v : Value) (w : World), NIs ok h w t v → dep t ≤ 1000000 → cnt t ≤ 1000000 →
    Calls Tryd.prog 13 #[v] w fun e w' => e = .returned (.int .i64 (dep t)) ∧ Below w.heap.size w w'
  | 0, _, _, _, hN, _, _ => hN.elim
  | h + 1, .mk kd nn tx ks kids, v, w, hN, hbd, hct => by
    have ih := depth_any ok h
    obtain ⟨kv, S, c1, rfl, ⟨S1, c0, rfl, _⟩, hk⟩ := hN
    have hlen := len_le_cntL kids
    simp only [cnt] at hct
    have HIH := Lib.hid ih
    have HK := Lib.hid hk
    have HCT := Lib.hid hct
    have hlen2 : kids.length ≤ 1000000 := by omega
    simp only [dep] at hbd
    have HBD := Lib.hid hbd
    clear ih hk hlen hct hbd
    show Calls Tryd.prog _ #[.agg #[.int .i64 kd, .int .i64 nn, .string ⟨tx.toArray⟩, .slice S1 ks.length c0, .slice S kids.length c1]] w _
    go_enter Tryd.func13, Tryd.ntmps13
    go_wp2
    go_loopw [3, 9] (fun c i wr => ∃ k : Nat, k ≤ kids.length ∧ i = .int .i64 k ∧ c = .int .i64 (depL (kids.take k) : Nat) ∧ Hid (Below w.heap.size w wr)) (fun _ i _ => kids.length - (intOf i).toNat)
    case atStart => exact ⟨0, Nat.zero_le _, rfl, by simp [cntL, depL], (Below.refl _ _).alloc (Nat.le_refl _) _⟩
    case round =>
      obtain ⟨k, hkl, rfl, rfl, HB⟩ := hrel
      by_cases hlt : k < kids.length
      · obtain ⟨b, off, rfl, hb0, hc⟩ : ∃ b off, S = some ⟨b, off, none⟩ ∧ b < w.heap.size ∧ ∀ j (hj : j < kids.length), ∃ c0 c1 c2 c3 c4,
            w.cell? ⟨b, off + 5 * j, none⟩ = some c0 ∧ w.cell? ⟨b, off + 5 * j + 1, none⟩ = some c1 ∧ w.cell? ⟨b, off + 5 * j + 2, none⟩ = some c2 ∧ w.cell? ⟨b, off + 5 * j + 3, none⟩ = some c3 ∧ w.cell? ⟨b, off + 5 * j + 4, none⟩ = some c4 ∧
            NIs ok h w kids[j] (.agg #[c0, c1, c2, c3, c4]) := by
          rcases HK.out with e | ⟨b, off, e, _, h1, h2⟩
          · rw [e] at hlt; simp at hlt
          · exact ⟨b, off, e, h1, h2⟩
        obtain ⟨x0, x1, x2, x3, x4, e0, e1, e2, e3, e4, hNk⟩ := hc k hlt
        obtain ⟨kk, n2, t2, S3, l3, m3, S4, l4, m4, hv⟩ := hNk.nd
        simp only [Value.agg.injEq, Array.mk.injEq, List.cons.injEq, and_true] at hv
        obtain ⟨rfl, rfl, rfl, rfl, rfl⟩ := hv
        have hcell : ∀ {j : Nat} {x : Value}, w.cell? ⟨b, off + 5 * k + j, none⟩ = some x → wr.cell? ⟨b, off + k * 5 + j, none⟩ = some x := fun {j x} hx => by
          rw [show off + k * 5 + j = off + 5 * k + j by omega]
          exact (HB.out.cell (p := ⟨b, off + 5 * k + j, none⟩) hb0).trans hx
        have f0 : wr.cell? ⟨b, off + k * 5, none⟩ = _ := hcell (j := 0) e0
        have f1 := hcell e1
        have f2 := hcell e2
        have f3 := hcell e3
        have f4 := hcell e4
        have hba : ∀ o, Below w.heap.size w (wr.alloc o) := fun o => HB.out.alloc (HB.out.size) _
        have hT := fun o => HIH.out kids[k] _ (wr.alloc o) (hNk.below (hba o)) (by have h1 := HBD.out; have h2 := depL_take kids k hlt; have h3 := depL_le kids (k + 1); omega) (by have h1 := HCT.out; have h2 := cntL_take kids k hlt; have h3 := cntL_le kids (k + 1); omega)
        have HT := depL_take kids k hlt
        have HL := depL_le kids (k + 1)
        have HBA := Lib.hid hba
        have HT2 := Lib.hid HT
        have hq1 : depL (kids.take (k + 1)) ≤ 1000000 := by have h1 := HBD.out; omega
        have hq2 : dep kids[k] ≤ 1000000 := by omega
        clear e0 e1 e2 e3 e4 hc hcell hba HT hNk
        go_wp2_with fail
        refine (hT _).mono ?_
        rintro e w2 ⟨rfl, hb2⟩
        have HB2 : Hid (Below w.heap.size w w2) := (HBA.out _).trans (hb2.mono (HBA.out _).size)
        clear hT hb2
        go_wp2
        go_roundw
        case rel => exact ⟨k + 1, by omega, by go_num, by rw [HT2.out]; go_num, HB2⟩
        case measure => simp [intOf]; omega
      · obtain rfl : k = kids.length := by omega
        go_wp2
        go_ret
        refine ⟨?_, HB.out⟩
        rw [List.take_length]
        rfl

end Go.Proofs.YtnlpdpbmmpeiaaaDoor
