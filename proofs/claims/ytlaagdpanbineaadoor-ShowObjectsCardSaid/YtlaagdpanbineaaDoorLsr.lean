/- the document's Same on two values in memory: whether they are the same value. -/
import Derived.Test.YtlaagdpanbineaaDoorSa
namespace Go.Proofs.YtlaagdpanbineaaDoor
open Go.RowKit

theorem below_drewS {B : Nat} {a w : World} (h : Below B a w) : Below B a w.drew := ⟨h.os, h.tape, h.output, h.size, h.block⟩
theorem take_snoc_eq {a b : List (List UInt8)} {k : Nat} (ha : k < a.length) (hb : k < b.length) (h : a.take k = b.take k) (e : a.getD k [] = b.getD k []) : a.take (k + 1) = b.take (k + 1) := by
  rw [List.take_succ_eq_append_getElem ha, List.take_succ_eq_append_getElem hb, h]
  congr 2
  simpa [List.getD, ha, hb] using e

set_option maxRecDepth 100000 in
set_option maxHeartbeats 2000000 in
theorem stexts_any {ok1 ok2 : Nat → Prop} {w : World} {v1 v2 : Value} {k1 k2 : List (List UInt8)} (h1 : StrAt ok1 w v1 k1) (h2 : StrAt ok2 w v2 k2) (l1 : k1.length ≤ 9223372036854775807) (_l2 : k2.length ≤ 9223372036854775807) :
    Calls Tryd.prog 23 #[v1, v2] w fun e w' => e = .returned (.bool (k1 == k2)) ∧ Below w.heap.size w w' := by
  obtain ⟨A1, c1, rfl, h1⟩ := h1
  obtain ⟨A2, c2, rfl, h2⟩ := h2
  have H1 := Lib.hid h1
  have H2 := Lib.hid h2
  clear h1 h2
  by_cases hl : k1.length = k2.length
  · have HL := Lib.hid hl
    rw [← hl]
    clear hl
    go_enter Tryd.func23, Tryd.ntmps23
    go_wp2
    go_loopw [13] (fun i wr => ∃ k : Nat, k ≤ k1.length ∧ i = .int .i64 k ∧ Hid (k1.take k = k2.take k) ∧ Hid (Below w.heap.size w wr)) (fun i _ => k1.length - (intOf i).toNat)
    case atStart => exact ⟨0, Nat.zero_le _, rfl, by simp [Hid], Below.refl _ _⟩
    case round =>
      obtain ⟨k, hk, rfl, HE, HB⟩ := hrel
      by_cases hlt : k < k1.length
      · have hlt2 : k < k2.length := by have := HL.out; omega
        obtain ⟨b1, f1, rfl, d1⟩ : ∃ b off, A1 = some ⟨b, off, none⟩ ∧ wr.cell? ⟨b, off + k, none⟩ = some (.string ⟨(k1.getD k []).toArray⟩) := by
          rcases H1.out with e | ⟨b, off, e, _, hbl, h2⟩
          · rw [e] at hlt; simp at hlt
          · exact ⟨b, off, e, (HB.out.cell (p := ⟨b, off + k, none⟩) hbl).trans (h2 k hlt)⟩
        obtain ⟨b2, f2, rfl, d2⟩ : ∃ b off, A2 = some ⟨b, off, none⟩ ∧ wr.cell? ⟨b, off + k, none⟩ = some (.string ⟨(k2.getD k []).toArray⟩) := by
          rcases H2.out with e | ⟨b, off, e, _, hbl, h2⟩
          · rw [e] at hlt2; simp at hlt2
          · exact ⟨b, off, e, (HB.out.cell (p := ⟨b, off + k, none⟩) hbl).trans (h2 k hlt2)⟩
        obtain ⟨x, hx⟩ : ∃ x, (⟨(k1.getD k []).toArray⟩ : ByteArray) = x := ⟨_, rfl⟩
        obtain ⟨y, hy⟩ : ∃ y, (⟨(k2.getD k []).toArray⟩ : ByteArray) = y := ⟨_, rfl⟩
        have hxy : (x.toList == y.toList) = (k1.getD k [] == k2.getD k []) := by rw [← hx, ← hy]; exact ba_beq _ _
        rw [hx] at d1
        rw [hy] at d2
        clear hx hy
        by_cases hq : k1.getD k [] = k2.getD k []
        · have q : (x.toList == y.toList) = true := by rw [hxy, hq]; exact beq_self_eq_true _
          have q2 : (x.toList != y.toList) = false := by simp [bne, q]
          have HQ := Lib.hid hq
          clear hxy hq
          go_wp2_with fail
          go_region
          all_goals
            go_wp2
            go_roundw
            case rel => exact ⟨k + 1, by omega, by go_num, take_snoc_eq hlt hlt2 HE.out HQ.out, below_drewS HB.out⟩
            case measure => simp [intOf]; omega
        · have q : (x.toList == y.toList) = false := by rw [hxy]; simpa using hq
          have q2 : (x.toList != y.toList) = true := by simp [bne, q]
          have HQ := Lib.hid hq
          clear hxy hq
          go_wp2_with fail
          go_region
          all_goals
           go_wp2
           go_ret
           refine ⟨ret_bool ?_, below_drewS HB.out⟩
           symm; rw [beq_eq_false_iff_ne]; intro e; exact HQ.out (by rw [e])
      · obtain rfl : k = k1.length := by omega
        go_wp2
        go_ret
        have he := HE.out
        rw [List.take_length, HL.out, List.take_length] at he
        exact ⟨ret_bool (by simp [he]), HB.out⟩
  · have q : ((k1.length : Int) == (k2.length : Int)) = false := by simp; omega
    have he : false = (k1 == k2) := by
      symm; rw [beq_eq_false_iff_ne]; intro e; rw [e] at hl; exact hl rfl
    go_enter Tryd.func23, Tryd.ntmps23
    go_wp2
    go_ret
    exact ⟨ret_bool he, Below.refl _ _⟩

def RefC (h : Nat) : Prop := ∀ (ok1 ok2 : Nat → Prop) (t1 t2 : NT) (v1 v2 : Value) (w : World), NIs ok1 h w t1 v1 → NIs ok2 h w t2 v2 → okLen t1 → okLen t2 →
  Calls Tryd.prog 11 #[v1, v2] w fun e w' => e = .returned (.bool (eqT t1 t2)) ∧ Below w.heap.size w w'


section
variable (kd nn kd' nn' : Int) (tx tx' : ByteArray) (A B A' B' : Option Addr) (l1 c1 l2 c2 l1' c1' l2' c2' : Nat) (w : World)
set_option maxRecDepth 100000 in
set_option maxHeartbeats 1000000 in
theorem ref_1 (_q : (kd == kd') = false) (qq : (kd != kd') = true) :
    Calls Tryd.prog 11 #[aggV kd nn tx A l1 c1 B l2 c2, aggV kd' nn' tx' A' l1' c1' B' l2' c2'] w fun e w' => e = .returned (.bool false) ∧ Below w.heap.size w w' := by
  unfold aggV
  go_enter Tryd.func11, Tryd.ntmps11
  go_wp2
  go_ret
  exact ⟨rfl, al2 _ _ _⟩
set_option maxRecDepth 100000 in
set_option maxHeartbeats 1000000 in
theorem ref_2 (_q1 : (kd == kd') = true) (qq1 : (kd != kd') = false) (_q : (nn == nn') = false) (qq : (nn != nn') = true) :
    Calls Tryd.prog 11 #[aggV kd nn tx A l1 c1 B l2 c2, aggV kd' nn' tx' A' l1' c1' B' l2' c2'] w fun e w' => e = .returned (.bool false) ∧ Below w.heap.size w w' := by
  unfold aggV
  go_enter Tryd.func11, Tryd.ntmps11
  go_wp2
  go_ret
  exact ⟨rfl, al2 _ _ _⟩
set_option maxRecDepth 100000 in
set_option maxHeartbeats 1000000 in
theorem ref_3 (_q1 : (kd == kd') = true) (qq1 : (kd != kd') = false) (_q2 : (nn == nn') = true) (qq2 : (nn != nn') = false) (q : (tx.toList == tx'.toList) = false) (_qq : (tx.toList != tx'.toList) = true) :
    Calls Tryd.prog 11 #[aggV kd nn tx A l1 c1 B l2 c2, aggV kd' nn' tx' A' l1' c1' B' l2' c2'] w fun e w' => e = .returned (.bool false) ∧ Below w.heap.size w w' := by
  unfold aggV
  go_enter Tryd.func11, Tryd.ntmps11
  go_wp2
  go_ret
  exact ⟨rfl, al2 _ _ _⟩
set_option maxRecDepth 100000 in
set_option maxHeartbeats 1000000 in
theorem ref_4 (_q1 : (kd == kd') = true) (qq1 : (kd != kd') = false) (_q2 : (nn == nn') = true) (qq2 : (nn != nn') = false) (q3 : (tx.toList == tx'.toList) = true) (_qq3 : (tx.toList != tx'.toList) = false)
    (hT : ∀ o o', Calls Tryd.prog 23 #[.slice A l1 c1, .slice A' l1' c1'] ((w.alloc o).alloc o') fun e w' => e = .returned (.bool false) ∧ Below ((w.alloc o).alloc o').heap.size ((w.alloc o).alloc o') w') :
    Calls Tryd.prog 11 #[aggV kd nn tx A l1 c1 B l2 c2, aggV kd' nn' tx' A' l1' c1' B' l2' c2'] w fun e w' => e = .returned (.bool false) ∧ Below w.heap.size w w' := by
  unfold aggV
  go_enter Tryd.func11, Tryd.ntmps11
  go_wp2_with fail
  refine (hT _ _).mono ?_
  rintro e w2 ⟨rfl, hb⟩
  have HB := Lib.hid hb
  clear hT hb
  go_wp2
  go_ret
  exact ⟨rfl, (al2 _ _ _).trans (HB.out.mono (al2 _ _ _).size)⟩
set_option maxRecDepth 100000 in
set_option maxHeartbeats 1000000 in
theorem ref_5 (_q1 : (kd == kd') = true) (qq1 : (kd != kd') = false) (_q2 : (nn == nn') = true) (qq2 : (nn != nn') = false) (q3 : (tx.toList == tx'.toList) = true) (_qq3 : (tx.toList != tx'.toList) = false) (_q5 : ((l2 : Int) == (l2' : Int)) = false) (qq5 : ((l2 : Int) != (l2' : Int)) = true)
    (hT : ∀ o o', Calls Tryd.prog 23 #[.slice A l1 c1, .slice A' l1' c1'] ((w.alloc o).alloc o') fun e w' => e = .returned (.bool true) ∧ Below ((w.alloc o).alloc o').heap.size ((w.alloc o).alloc o') w') :
    Calls Tryd.prog 11 #[aggV kd nn tx A l1 c1 B l2 c2, aggV kd' nn' tx' A' l1' c1' B' l2' c2'] w fun e w' => e = .returned (.bool false) ∧ Below w.heap.size w w' := by
  unfold aggV
  go_enter Tryd.func11, Tryd.ntmps11
  go_wp2_with fail
  refine (hT _ _).mono ?_
  rintro e w2 ⟨rfl, hb⟩
  have f4 : w2.cell? ⟨w.heap.size, 4, none⟩ = some (.slice B l2 c2) := by
    simp only [World.cell?]
    rw [(hb.block w.heap.size (by simp; omega)).trans ((Below.heap_alloc _ _ _ (by simp)).trans (heap_alloc_new w _))]; rfl
  have f5 : w2.cell? ⟨w.heap.size + 1, 4, none⟩ = some (.slice B' l2' c2') := by
    simp only [World.cell?]
    rw [(hb.block (w.heap.size + 1) (by simp)).trans (heap_alloc_new2 w _ _)]; rfl
  have HB := Lib.hid hb
  clear hT hb
  go_wp2
  go_ret
  exact ⟨rfl, (al2 _ _ _).trans (HB.out.mono (al2 _ _ _).size)⟩

set_option maxRecDepth 100000 in
set_option maxHeartbeats 2000000 in
theorem ref_6 (h : Nat) (ih : RefC h) (ok1 ok2 : Nat → Prop) (k1 k2 : List NT) (h1 : KidsAt ok1 h w B k1) (h2 : KidsAt ok2 h w B' k2) (ln1 : k1.length ≤ 9223372036854775807) (_ln2 : k2.length ≤ 9223372036854775807) (o1 : ∀ t ∈ k1, okLen t) (o2 : ∀ t ∈ k2, okLen t) (hl : k1.length = k2.length)
    (_q1 : (kd == kd') = true) (qq1 : (kd != kd') = false) (_q2 : (nn == nn') = true) (qq2 : (nn != nn') = false) (q3 : (tx.toList == tx'.toList) = true) (_qq3 : (tx.toList != tx'.toList) = false)
    (hT : ∀ o o', Calls Tryd.prog 23 #[.slice A l1 c1, .slice A' l1' c1'] ((w.alloc o).alloc o') fun e w' => e = .returned (.bool true) ∧ Below ((w.alloc o).alloc o').heap.size ((w.alloc o).alloc o') w') :
    Calls Tryd.prog 11 #[aggV kd nn tx A l1 c1 B k1.length c2, aggV kd' nn' tx' A' l1' c1' B' k2.length c2'] w fun e w' => e = .returned (.bool (eqL k1 k2)) ∧ Below w.heap.size w w' := by
  unfold aggV
  have IH := Lib.hid ih
  have H1 := Lib.hid h1
  have H2 := Lib.hid h2
  have O1 := Lib.hid o1
  have O2 := Lib.hid o2
  have HL := Lib.hid hl
  rw [← hl]
  clear ih h1 h2 o1 o2 hl
  go_enter Tryd.func11, Tryd.ntmps11
  go_wp2_with fail
  refine (hT _ _).mono ?_
  rintro e w2 ⟨rfl, hb⟩
  have f4 : w2.cell? ⟨w.heap.size, 4, none⟩ = some (.slice B k1.length c2) := by
    simp only [World.cell?]
    rw [(hb.block w.heap.size (by simp; omega)).trans ((Below.heap_alloc _ _ _ (by simp)).trans (heap_alloc_new w _))]; rfl
  have f5 : w2.cell? ⟨w.heap.size + 1, 4, none⟩ = some (.slice B' k1.length c2') := by
    simp only [World.cell?]
    rw [(hb.block (w.heap.size + 1) (by simp)).trans (heap_alloc_new2 w _ _)]; rfl
  have hs2 : w.heap.size + 2 ≤ w2.heap.size := by have := hb.size; simp at this; omega
  have HB : Hid (Below w.heap.size w w2) := (al2 _ _ _).trans (hb.mono (al2 _ _ _).size)
  clear hT hb
  go_wp2
  go_loopw [45] (fun i wr => ∃ k : Nat, k ≤ k1.length ∧ i = .int .i64 k ∧ Hid (eqL (k1.take k) (k2.take k) = true) ∧ Hid (Below w2.heap.size w2 wr)) (fun i _ => k1.length - (intOf i).toNat)
  case atStart => exact ⟨0, Nat.zero_le _, rfl, by simp [Hid, eqL], Below.refl _ _⟩
  case round =>
    obtain ⟨k, hk, rfl, HE, HR⟩ := hrel
    have g4 := (HR.out.cell (p := ⟨w.heap.size, 4, none⟩) (by show w.heap.size < _; omega)).trans f4
    have g5 := (HR.out.cell (p := ⟨w.heap.size + 1, 4, none⟩) (by show w.heap.size + 1 < _; omega)).trans f5
    have HBR : Hid (Below w.heap.size w wr) := HB.out.trans (HR.out.mono HB.out.size)
    by_cases hlt : k < k1.length
    · have hlt2 : k < k2.length := by have := HL.out; omega
      obtain ⟨b1, e1, rfl, hb1, kk, n3, t, S3, l3, m3, S4, l4, m4, a0, a1, a2, a3, a4, hN1⟩ := kid_at H1.out HBR.out hlt
      obtain ⟨b2, e2, rfl, hb2, kk', n3', t', S3', l3', m3', S4', l4', m4', d0, d1, d2, d3, d4, hN2⟩ := kid_at H2.out HBR.out hlt2
      have hT := fun (w' : World) (hb : Below wr.heap.size wr w') => IH.out ok1 ok2 _ _ _ _ w' (hN1.below hb) (hN2.below hb) (O1.out _ (List.getElem_mem hlt)) (O2.out _ (List.getElem_mem hlt2))
      clear hN1 hN2
      by_cases hq : eqT k1[k] k2[k] = true
      · have hT2 := fun (w' : World) (hb : Below wr.heap.size wr w') => (hT w' hb).mono fun e w'' h => (⟨h.1.trans (ret_bool hq), hb.trans (h.2.mono hb.size)⟩ : e = .returned (.bool true) ∧ Below wr.heap.size wr w'')
        have HQ := Lib.hid hq
        clear hT hq
        go_wp2_with fail
        go_region_with (go_at_call 11; refine (hT2 wr.drew ⟨rfl, rfl, rfl, Nat.le_refl _, fun _ _ => rfl⟩).mono ?_; rintro e w3 ⟨rfl, hb3⟩)
        all_goals
          have HR2 : Hid (Below w2.heap.size w2 w3) := HR.out.trans (hb3.mono HR.out.size)
          clear hT2 hb3
          go_wp2
          go_roundw
          case rel => exact ⟨k + 1, by omega, by go_num, eqL_take hlt hlt2 HE.out HQ.out, HR2⟩
          case measure => simp [intOf]; omega
      · have hT2 := fun (w' : World) (hb : Below wr.heap.size wr w') => (hT w' hb).mono fun e w'' h => (⟨h.1.trans (ret_bool (Bool.of_not_eq_true hq)), hb.trans (h.2.mono hb.size)⟩ : e = .returned (.bool false) ∧ Below wr.heap.size wr w'')
        have HQ := Lib.hid hq
        clear hT hq
        go_wp2_with fail
        go_region_with (go_at_call 11; refine (hT2 wr.drew ⟨rfl, rfl, rfl, Nat.le_refl _, fun _ _ => rfl⟩).mono ?_; rintro e w3 ⟨rfl, hb3⟩)
        all_goals
         have HR2 : Hid (Below w2.heap.size w2 w3) := HR.out.trans (hb3.mono HR.out.size)
         clear hT2 hb3
         go_wp2
         go_ret
         exact ⟨ret_bool ((eqL_at hlt hlt2 HE.out).trans (congrArg (fun b => b && _) (Bool.of_not_eq_true HQ.out))).symm, HB.out.trans (HR2.out.mono HB.out.size)⟩
    · obtain rfl : k = k1.length := by omega
      go_wp2
      go_ret
      have he := HE.out
      rw [List.take_length, HL.out, List.take_length] at he
      exact ⟨ret_bool he.symm, HBR.out⟩
end

theorem neT {α : Type} [BEq α] {a b : α} (h : (a == b) = true) : (a != b) = false := by simp [bne, h]
theorem neF {α : Type} [BEq α] {a b : α} (h : (a == b) = false) : (a != b) = true := by simp [bne, h]

theorem ref_any : ∀ h : Nat, RefC h
  | 0 => fun _ _ _ _ _ _ _ h1 _ _ _ => h1.elim
  | h + 1 => by
    intro ok1 ok2 t1 t2 v1 v2 w h1 h2 o1 o2
    have ih := ref_any h
    obtain ⟨kd, nn, tx, ks, kids⟩ := t1
    obtain ⟨kd', nn', tx', ks', kids'⟩ := t2
    obtain ⟨kv, S, c1, rfl, hks, hk⟩ := h1
    obtain ⟨kv', S', c1', rfl, hks', hk'⟩ := h2
    obtain ⟨p1, p2, p3⟩ := okLen_kids o1
    obtain ⟨p1', p2', p3'⟩ := okLen_kids o2
    have hTX := fun o o' => stexts_any (hks.belowS (al2 w o o')) (hks'.belowS (al2 w o o')) p1 p1'
    obtain ⟨S1, c0, rfl, _⟩ := hks
    obtain ⟨S1', c0', rfl, _⟩ := hks'
    show Calls Tryd.prog _ #[aggV kd nn ⟨tx.toArray⟩ S1 ks.length c0 S kids.length c1, aggV kd' nn' ⟨tx'.toArray⟩ S1' ks'.length c0' S' kids'.length c1'] w _
    by_cases hq1 : (kd == kd') = true
    · by_cases hq2 : (nn == nn') = true
      · by_cases hq3 : (tx == tx') = true
        · have q3 := (ba_beq tx tx').trans hq3
          by_cases hq4 : (ks == ks') = true
          · have hT2 := fun o o' => (hTX o o').mono fun e w' h => (⟨h.1.trans (ret_bool hq4), h.2⟩ : e = .returned (.bool true) ∧ _)
            by_cases hl : kids.length = kids'.length
            · refine (ref_6 kd nn kd' nn' _ _ S1 S S1' S' _ _ _ _ _ _ w h ih ok1 ok2 kids kids' hk hk' p2 p2' p3 p3' hl hq1 (neT hq1) hq2 (neT hq2) q3 (neT q3) hT2).mono fun e w' h => ⟨h.1.trans (ret_bool ?_), h.2⟩
              simp only [eqT, hq1, hq2, hq3, hq4, Bool.true_and]
            · have q5 : ((kids.length : Int) == (kids'.length : Int)) = false := by simp; omega
              refine (ref_5 kd nn kd' nn' _ _ S1 S S1' S' _ _ _ _ _ _ _ _ w hq1 (neT hq1) hq2 (neT hq2) q3 (neT q3) q5 (neF q5) hT2).mono fun e w' h => ⟨h.1.trans (ret_bool ?_), h.2⟩
              simp only [eqT, eqL_len hl, Bool.and_false]
          · have hq4 := Bool.of_not_eq_true hq4
            refine (ref_4 kd nn kd' nn' _ _ S1 S S1' S' _ _ _ _ _ _ _ _ w hq1 (neT hq1) hq2 (neT hq2) q3 (neT q3) (fun o o' => (hTX o o').mono fun e w' h => ⟨h.1.trans (ret_bool hq4), h.2⟩)).mono fun e w' h => ⟨h.1.trans (ret_bool ?_), h.2⟩
            simp only [eqT, hq4, Bool.and_false, Bool.false_and]
        · have hq3 := Bool.of_not_eq_true hq3
          have q3 := (ba_beq tx tx').trans hq3
          refine (ref_3 kd nn kd' nn' _ _ S1 S S1' S' _ _ _ _ _ _ _ _ w hq1 (neT hq1) hq2 (neT hq2) q3 (neF q3)).mono fun e w' h => ⟨h.1.trans (ret_bool ?_), h.2⟩
          simp only [eqT, hq3, Bool.and_false, Bool.false_and]
      · have hq2 := Bool.of_not_eq_true hq2
        refine (ref_2 kd nn kd' nn' _ _ S1 S S1' S' _ _ _ _ _ _ _ _ w hq1 (neT hq1) hq2 (neF hq2)).mono fun e w' h => ⟨h.1.trans (ret_bool ?_), h.2⟩
        simp only [eqT, hq2, Bool.and_false, Bool.false_and]
    · have hq1 := Bool.of_not_eq_true hq1
      refine (ref_1 kd nn kd' nn' _ _ S1 S S1' S' _ _ _ _ _ _ _ _ w hq1 (neF hq1)).mono fun e w' h => ⟨h.1.trans (ret_bool ?_), h.2⟩
      simp only [eqT, hq1, Bool.false_and]

end Go.Proofs.YtlaagdpanbineaaDoor

