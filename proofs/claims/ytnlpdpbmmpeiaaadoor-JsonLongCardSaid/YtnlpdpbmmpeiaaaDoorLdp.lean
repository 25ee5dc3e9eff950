/- JsonDeep's walk. -/
import Derived.Test.YtnlpdpbmmpeiaaaDoorLal
import Derived.Test.YtnlpdpbmmpeiaaaDoorLpm
namespace Go.Proofs.YtnlpdpbmmpeiaaaDoor
open Go.RowKit
open I2 (errVal errVal_some errVal_none)

theorem bools_take (l : List Bool) (k : Nat) (h : k < l.length) : l.take (k + 1) = l.take k ++ [l[k]] := by rw [List.take_succ_eq_append_getElem h]
theorem ba_app (a b : ByteArray) : (a ++ b).data.toList = a.data.toList ++ b.data.toList := by simp

/-- a parse that answers a value, its shape written out -/
theorem parse_ok (s : ByteArray) (w : World) (A : Nat → Addr) (hC : Cond w A) (hs : s.size ≤ 200000) {t : NT} (hp : pText s.data.toList = .ok t) :
    Calls Tryd.prog 11 #[.string s] w fun e w' => ∃ (k n : Int) (x : List UInt8) (A1 : Option Addr) (l1 c1 : Nat) (A2 : Option Addr) (l2 c2 : Nat), e = .returned (.tuple #[.agg #[.int .i64 k, .int .i64 n, .string ⟨x.toArray⟩, .slice A1 l1 c1, .slice A2 l2 c2], .nilIface]) ∧
      Hid (NIs (fun b => w.heap.size ≤ b) 33 w' t (.agg #[.int .i64 k, .int .i64 n, .string ⟨x.toArray⟩, .slice A1 l1 c1, .slice A2 l2 c2])) ∧ Hid (Below w.heap.size w w') := by
  refine (parse_any s w A hC hs).mono ?_
  intro e w' h
  unfold ParsePost at h
  rw [hp] at h
  obtain ⟨L, rfl, hN, hb⟩ := h
  obtain ⟨k, n, x, A1, l1, c1, A2, l2, c2, hv⟩ := hN.nd
  rw [hv] at hN ⊢
  exact ⟨k, n, x, A1, l1, c1, A2, l2, c2, rfl, hN, hb⟩
theorem parse_bad (s : ByteArray) (w : World) (A : Nat → Addr) (hC : Cond w A) (hs : s.size ≤ 200000) {e0 : Nat} (hp : pText s.data.toList = .bad e0) :
    Calls Tryd.prog 11 #[.string s] w fun e w' => e = .returned (.tuple #[.agg #[.int .i64 0, .int .i64 0, .string ⟨#[]⟩, .slice none 0 0, .slice none 0 0], .iface 122 (.pointer (some (A (e0 - 1))))]) ∧ Hid (Below w.heap.size w w') := by
  refine (parse_any s w A hC hs).mono ?_
  intro e w' h
  unfold ParsePost at h
  rw [hp] at h
  exact ⟨h.2.1, h.2.2⟩

def BoolsAt (w : World) (a : Option Addr) (len : Nat) (l : List Bool) : Prop := l.length = len ∧ (len = 0 ∨ ∃ b off, a = some ⟨b, off, none⟩ ∧ b < w.heap.size ∧ ∀ j (hj : j < l.length), w.cell? ⟨b, off + j, none⟩ = some (.bool l[j]))

set_option maxRecDepth 100000 in
set_option maxHeartbeats 2000000 in
theorem deep_in (a : Option Addr) (len cap : Nat) (l : List Bool) (w : World) (A : Nat → Addr) (hC : Cond w A) (hl : BoolsAt w a len l) (hlen : len ≤ 100) :
    Calls Tryd.prog 4 #[.slice a len cap] w fun e w' => e = .returned (.bool true) ∧ Below w.heap.size w w' := by
  have hL := alive_any w A hC
  have HC := Lib.hid hC
  have HLL := Lib.hid hl.1
  have HB := Lib.hid hl.2
  have hnl := fun (w : World) => @run_eql_nil_nil_at Tryd.prog w 31 (by kernel_rfl)
  clear hC hl
  go_enter Tryd.func4, Tryd.ntmps4
  go_wp2_with fail
  refine hL.mono ?_
  rintro e w1 ⟨rfl, hb1⟩
  have HB1 := Lib.hid hb1
  have HC1 := Lib.hid (HC.out.below hb1)
  clear hL hb1
  go_wp2
  go_loop [3, 4, 16] (fun u v i => ∃ (k : Nat) (X Y : ByteArray), k ≤ len ∧ i = .int .i64 k ∧ u = .string X ∧ v = .string Y ∧ Hid (X.data.toList = ahd (l.take k)) ∧ Hid (Y.data.toList = bhd (l.take k)) ∧ X.size ≤ 5 * k ∧ Y.size ≤ k) (fun _ _ i => len - (intOf i).toNat)
  case atStart => exact ⟨0, ⟨#[]⟩, ⟨#[]⟩, Nat.zero_le _, rfl, rfl, rfl, by simp [Hid, ahd], by simp [Hid, bhd], Nat.le_refl _, Nat.le_refl _⟩
  case round =>
    obtain ⟨k, X, Y, hk, rfl, rfl, rfl, HX, HY, hx, hy⟩ := hrel
    by_cases hlt : k < len
    · have hkl : k < l.length := by have := HLL.out; omega
      obtain ⟨b, off, rfl, hbl, hc⟩ : ∃ b off, a = some ⟨b, off, none⟩ ∧ b < w.heap.size ∧ ∀ j (hj : j < l.length), w.cell? ⟨b, off + j, none⟩ = some (.bool l[j]) := by
        rcases HB.out with e | e
        · omega
        · exact e
      have ck : w1.cell? ⟨b, off + k, none⟩ = some (.bool l[k]) := (HB1.out.cell (p := ⟨b, off + k, none⟩) hbl).trans (hc k hkl)
      have ht := bools_take l k hkl
      clear hc
      cases hlk : l[k] with
      | true =>
        rw [hlk] at ht ck
        have HX2 : Hid ((X ++ ⟨#[91]⟩).data.toList = ahd (l.take (k + 1))) := by
          show _ = _
          rw [ht, ahd_snoc, ba_app, HX.out]; rfl
        have HY2 : Hid ((⟨#[93]⟩ ++ Y).data.toList = bhd (l.take (k + 1))) := by
          show _ = _
          rw [ht, bhd_snoc, ba_app, HY.out]; rfl
        have hsx : (X ++ ⟨#[91]⟩).size ≤ 5 * (k + 1) := by rw [ByteArray.size_append]; show X.size + 1 ≤ _; omega
        have hsy : (⟨#[93]⟩ ++ Y).size ≤ k + 1 := by rw [ByteArray.size_append]; show 1 + Y.size ≤ _; omega
        clear ht hlk
        go_wp2
        go_round
        case rel => exact ⟨k + 1, _, _, by omega, by go_num, rfl, rfl, HX2, HY2, hsx, hsy⟩
        case measure => simp [intOf]; omega
      | false =>
        rw [hlk] at ht ck
        have HX2 : Hid ((X ++ ⟨#[123, 34, 107, 34, 58]⟩).data.toList = ahd (l.take (k + 1))) := by
          show _ = _
          rw [ht, ahd_snoc, ba_app, HX.out]; rfl
        have HY2 : Hid ((⟨#[125]⟩ ++ Y).data.toList = bhd (l.take (k + 1))) := by
          show _ = _
          rw [ht, bhd_snoc, ba_app, HY.out]; rfl
        have hsx : (X ++ ⟨#[123, 34, 107, 34, 58]⟩).size ≤ 5 * (k + 1) := by rw [ByteArray.size_append]; show X.size + 5 ≤ _; omega
        have hsy : (⟨#[125]⟩ ++ Y).size ≤ k + 1 := by rw [ByteArray.size_append]; show 1 + Y.size ≤ _; omega
        clear ht hlk
        go_wp2
        go_round
        case rel => exact ⟨k + 1, _, _, by omega, by go_num, rfl, rfl, HX2, HY2, hsx, hsy⟩
        case measure => simp [intOf]; omega
    · obtain rfl : k = len := by omega
      have hS : ((X ++ ⟨#[55]⟩) ++ Y).data.toList = ahd l ++ 55 :: bhd l := by
        rw [ba_app, ba_app, HX.out, HY.out, ← HLL.out, List.take_length, List.append_assoc]; rfl
      have hss : ((X ++ ⟨#[55]⟩) ++ Y).size ≤ 200000 := by
        rw [ByteArray.size_append, ByteArray.size_append]
        show X.size + 1 + Y.size ≤ _
        omega
      have hpt := deep_text l (by have := HLL.out; omega)
      rw [← hS] at hpt
      have HLLn := HLL.out
      by_cases h32 : 32 < k
      · rw [if_neg (by omega)] at hpt
        have hT := parse_bad _ w1 A HC1.out hss hpt
        have q32 : decide ((32 : Int) < k) = true := decide_eq_true (by omega)
        clear hpt hS hss HLLn
        go_wp2_with fail
        refine hT.mono ?_
        rintro e w2 ⟨rfl, HB2⟩
        have HC2 := Lib.hid (HC1.out.below HB2.out)
        clear hT
        have hN := fun o => num_any A (w2.alloc o) (HC2.out.below ((Below.refl _ _).alloc (Nat.le_refl _) o)).n.errs 1 (by omega)
        go_wp2_with fail
        refine (hN _).mono ?_
        rintro e w3 ⟨rfl, hb3⟩
        go_wp2
        go_ret
        have h12 := HB1.out.trans (HB2.out.mono HB1.out.size)
        exact ⟨rfl, (h12.alloc h12.size _).trans (hb3.mono (by simp; have := h12.size; omega))⟩
      · rw [if_pos (by omega)] at hpt
        have hT := parse_ok _ w1 A HC1.out hss hpt
        have q32 : decide ((32 : Int) < k) = false := decide_eq_false (by omega)
        have hcn := nest_cnt l
        have hdn := nest_dep l
        rw [HLLn] at hcn hdn
        have HCN := Lib.hid hcn
        have HDN := Lib.hid hdn
        clear hpt hS hss HLLn hcn hdn
        go_wp2_with fail
        refine hT.mono ?_
        rintro e w2 ⟨kd, nn, tx, A1, l1, c1, A2, l2, c2, rfl, HN2, HB2⟩
        clear hT
        have hD := fun o => depth_any _ 33 (nest l) _ (w2.alloc o) (HN2.out.below ((Below.refl _ _).alloc (Nat.le_refl _) o)) (by rw [HDN.out]; omega) (by rw [HCN.out]; omega)
        rw [HDN.out] at hD
        go_wp2_with fail
        refine (hD _).mono ?_
        rintro e w3 ⟨rfl, hb3⟩
        have HB3 := Lib.hid hb3
        clear hD hb3
        have HX3 : Hid (Blk w3 w2.heap.size (.int .i64 kd) (.int .i64 nn) (.string ⟨tx.toArray⟩) (.slice A1 l1 c1) (.slice A2 l2 c2)) := (HB3.out.block _ (by simp)).trans (heap_alloc_new w2 _)
        have HN3 : Hid (NIs (fun b => w1.heap.size ≤ b) 33 w3 (nest l) (.agg #[.int .i64 kd, .int .i64 nn, .string ⟨tx.toArray⟩, .slice A1 l1 c1, .slice A2 l2 c2])) := (HN2.out.below ((Below.refl _ _).alloc (Nat.le_refl _) _)).below HB3.out
        have x0 := HX3.out.cell 0 (by omega)
        have x1 := HX3.out.cell 1 (by omega)
        have x2 := HX3.out.cell 2 (by omega)
        have x3 := HX3.out.cell 3 (by omega)
        have x4 := HX3.out.cell 4 (by omega)
        have hE := count_any _ 33 (nest l) _ w3 HN3.out trivial (by rw [HCN.out]; omega)
        rw [HCN.out] at hE
        have h12 := HB1.out.trans (HB2.out.mono HB1.out.size)
        have HB4 : Hid (Below w.heap.size w w3) := (h12.alloc h12.size _).trans (HB3.out.mono (by simp; have := h12.size; omega))
        clear h12
        go_wp2_with fail
        refine hE.mono ?_
        rintro e w4 ⟨rfl, hb4⟩
        go_wp2
        go_ret
        exact ⟨ret_bool (by simp), HB4.out.trans (hb4.mono HB4.out.size)⟩

theorem bools_of {w : World} {x : Addr} {len cap : Nat} {B : Nat → Bool} (hl : len ≤ cap) (hcell : ∀ i, i < cap → w.cell? (x.add i) = some (.bool (B i))) : BoolsAt w (some x) len ((List.range len).map B) := by
  refine ⟨by simp, ?_⟩
  by_cases h0 : len = 0
  · exact .inl h0
  right
  obtain ⟨b, off, sub⟩ := x
  have hs : sub = none := by
    cases sub with
    | none => rfl
    | some q =>
      have := hcell 0 (by omega)
      unfold Addr.add at this
      simp [World.cell?] at this
      split at this <;> simp at this
  subst hs
  have hc : ∀ i, i < cap → w.cell? ⟨b, off + i, none⟩ = some (.bool (B i)) := fun i hi => by
    have := hcell i hi
    have hadd : (⟨b, off, none⟩ : Addr).add i = ⟨b, off + i, none⟩ := by unfold Addr.add; split <;> simp_all
    rwa [hadd] at this
  refine ⟨b, off, rfl, cell_lt (hc 0 (by omega)), fun j hj => ?_⟩
  simp at hj
  rw [hc j (by omega)]
  simp

end Go.Proofs.YtnlpdpbmmpeiaaaDoor
