/- json.Same on two values in memory: whether they are the same value. -/
import Derived.Test.YtlaagdpanbineaaDoorJa
import Derived.Test.YtlaagdpanbineaaDoorShelf
import Derived.Test.YtlaagdpanbineaaDoorQa
namespace Go.Proofs.YtlaagdpanbineaaDoor
open Go.RowKit

mutual
def eqT : NT → NT → Bool
  | .mk k n x ks ts, .mk k' n' x' ks' ts' => (k == k') && (n == n') && (x == x') && (ks == ks') && eqL ts ts'
def eqL : List NT → List NT → Bool
  | [], [] => true
  | a :: la, b :: lb => eqT a b && eqL la lb
  | _, _ => false
end
mutual
theorem eqT_self : ∀ t, eqT t t = true
  | .mk k n x ks ts => by simp [eqT, eqL_self ts]
theorem eqL_self : ∀ l, eqL l l = true
  | [] => rfl
  | t :: l => by simp [eqL, eqT_self t, eqL_self l]
end
theorem eqL_len : ∀ {a b : List NT}, a.length ≠ b.length → eqL a b = false
  | [], [], h => absurd rfl h
  | [], _ :: _, _ => rfl
  | _ :: _, [], _ => rfl
  | x :: a, y :: b, h => by
    simp only [List.length_cons, ne_eq] at h
    simp [eqL, eqL_len (a := a) (b := b) (by omega)]
theorem eqL_at : ∀ {a b : List NT} {k : Nat} (ha : k < a.length) (hb : k < b.length), eqL (a.take k) (b.take k) = true → eqL a b = (eqT a[k] b[k] && eqL (a.drop (k + 1)) (b.drop (k + 1)))
  | [], _, _, ha, _, _ => absurd ha (by simp)
  | _ :: _, [], _, _, hb, _ => absurd hb (by simp)
  | x :: a, y :: b, 0, _, _, _ => by simp [eqL]
  | x :: a, y :: b, k + 1, ha, hb, h => by
    simp only [List.take_succ_cons, eqL, Bool.and_eq_true] at h
    have := eqL_at (a := a) (b := b) (k := k) (by simpa using ha) (by simpa using hb) h.2
    simp only [eqL, h.1, Bool.true_and, this, List.getElem_cons_succ, List.drop_succ_cons]
theorem eqL_take : ∀ {a b : List NT} {k : Nat} (ha : k < a.length) (hb : k < b.length), eqL (a.take k) (b.take k) = true → eqT a[k] b[k] = true → eqL (a.take (k + 1)) (b.take (k + 1)) = true
  | [], _, _, ha, _, _, _ => absurd ha (by simp)
  | _ :: _, [], _, _, hb, _, _ => absurd hb (by simp)
  | x :: a, y :: b, 0, _, _, _, h => by simpa [eqL] using h
  | x :: a, y :: b, k + 1, ha, hb, h, h2 => by
    simp only [List.take_succ_cons, eqL, Bool.and_eq_true] at h ⊢
    exact ⟨h.1, eqL_take (k := k) (by simpa using ha) (by simpa using hb) h.2 (by simpa using h2)⟩

/-- no list in it is longer than a machine's numbers -/
def okLen : NT → Prop
  | .mk _ _ _ ks kids => ks.length ≤ 9223372036854775807 ∧ kids.length ≤ 9223372036854775807 ∧ ∀ t ∈ kids, okLen t

theorem bytes_inj {a b : List (List UInt8)} : (a.map fun x => (⟨x.toArray⟩ : ByteArray)) = (b.map fun x => (⟨x.toArray⟩ : ByteArray)) ↔ a = b := by
  constructor
  · intro h
    have := congrArg (List.map fun s : ByteArray => s.data.toList) h
    simpa [List.map_map, Function.comp_def] using this
  · intro h; rw [h]

theorem texts_eq {ok1 ok2 : Nat → Prop} {w : World} {v1 v2 : Value} {k1 k2 : List (List UInt8)} (h1 : StrAt ok1 w v1 k1) (h2 : StrAt ok2 w v2 k2) (l1 : k1.length ≤ 9223372036854775807) (l2 : k2.length ≤ 9223372036854775807) :
    Calls Tryd.prog 21 #[v1, v2] w fun e w' => e = .returned (.bool (k1 == k2)) ∧ Below w.heap.size w w' := by
  obtain ⟨A1, c1, rfl, h1⟩ := h1
  obtain ⟨A2, c2, rfl, h2⟩ := h2
  by_cases hl : k1.length = k2.length
  · rcases h1 with rfl | ⟨b1, o1, rfl, _, _, hc1⟩
    · have : k2 = [] := List.eq_nil_of_length_eq_zero hl.symm
      subst this
      refine (Tryd.slices_Equal_string_empty A1 A2 c1 0 c2 w (by omega)).mono ?_
      rintro e w' ⟨rfl, rfl⟩
      exact ⟨rfl, Below.refl _ _⟩
    rcases h2 with rfl | ⟨b2, o2, rfl, _, _, hc2⟩
    · have : k1 = [] := List.eq_nil_of_length_eq_zero hl
      subst this
      refine (Tryd.slices_Equal_string_empty _ A2 c1 0 c2 w (by omega)).mono ?_
      rintro e w' ⟨rfl, rfl⟩
      exact ⟨rfl, Below.refl _ _⟩
    have hg : ∀ (k : List (List UInt8)) (b o : Nat), (∀ j, j < k.length → w.cell? ⟨b, o + j, none⟩ = some (.string ⟨(k.getD j []).toArray⟩)) → ∀ j, j < (k.map fun x => (⟨x.toArray⟩ : ByteArray)).length → w.cell? ⟨b, o + j, none⟩ = some (.string ((k.map fun x => (⟨x.toArray⟩ : ByteArray)).getD j ByteArray.empty)) := fun k b o hc j hj => by
      have hj2 : j < k.length := by simpa using hj
      rw [hc j hj2]
      simp [List.getD, hj2]
    refine (Tryd.slices_Equal_string b1 o1 k1.length c1 b2 o2 k2.length c2 (k1.map fun x => ⟨x.toArray⟩) (k2.map fun x => ⟨x.toArray⟩) w (by simp) (by simp) l1 l2 (hg k1 b1 o1 hc1) (hg k2 b2 o2 hc2)).mono ?_
    rintro e w' ⟨rfl, q, rfl⟩
    refine ⟨?_, ⟨rfl, rfl, rfl, Nat.le_refl _, fun _ _ => rfl⟩⟩
    rw [List.take_of_length_le (by simp), List.take_of_length_le (by simp)]
    congr 2
    rw [Bool.eq_iff_iff]
    simp only [decide_eq_true_eq, beq_iff_eq]
    exact bytes_inj
  · refine (Tryd.slices_Equal_string_lens A1 A2 k1.length c1 k2.length c2 w hl).mono ?_
    rintro e w' ⟨rfl, rfl⟩
    refine ⟨?_, Below.refl _ _⟩
    congr 2
    rw [eq_comm, beq_eq_false_iff_ne]
    intro e; rw [e] at hl; exact hl rfl

/-- a row of kids in memory -/
def KidsAt (ok : Nat → Prop) (h : Nat) (w : World) (A : Option Addr) (kids : List NT) : Prop :=
  kids = [] ∨ ∃ b off, A = some ⟨b, off, none⟩ ∧ ok b ∧ b < w.heap.size ∧ ∀ j (hj : j < kids.length), ∃ c0 c1 c2 c3 c4,
        w.cell? ⟨b, off + 5 * j, none⟩ = some c0 ∧ w.cell? ⟨b, off + 5 * j + 1, none⟩ = some c1 ∧ w.cell? ⟨b, off + 5 * j + 2, none⟩ = some c2 ∧ w.cell? ⟨b, off + 5 * j + 3, none⟩ = some c3 ∧ w.cell? ⟨b, off + 5 * j + 4, none⟩ = some c4 ∧
        NIs ok h w kids[j] (.agg #[c0, c1, c2, c3, c4])

theorem KidsAt.below {ok : Nat → Prop} {h : Nat} {w w' : World} {A : Option Addr} {kids : List NT} (hK : KidsAt ok h w A kids) (hb : Below w.heap.size w w') : KidsAt ok h w' A kids := by
  rcases hK with e | ⟨b, off, hA, ho, hbl, hc⟩
  · exact .inl e
  · refine .inr ⟨b, off, hA, ho, Nat.lt_of_lt_of_le hbl hb.size, fun j hj => ?_⟩
    obtain ⟨x0, x1, x2, x3, x4, e0, e1, e2, e3, e4, hN⟩ := hc j hj
    exact ⟨x0, x1, x2, x3, x4, (hb.cell hbl).trans e0, (hb.cell hbl).trans e1, (hb.cell hbl).trans e2, (hb.cell hbl).trans e3, (hb.cell hbl).trans e4, hN.below hb⟩

def SameC (h : Nat) : Prop := ∀ (ok1 ok2 : Nat → Prop) (t1 t2 : NT) (v1 v2 : Value) (w : World), NIs ok1 h w t1 v1 → NIs ok2 h w t2 v2 → okLen t1 → okLen t2 →
  Calls Tryd.prog 10 #[v1, v2] w fun e w' => e = .returned (.bool (eqT t1 t2)) ∧ Below w.heap.size w w'

/-- one kid, its cells written out at a later world -/
theorem kid_at {ok : Nat → Prop} {h : Nat} {w wr : World} {A : Option Addr} {kids : List NT} (hK : KidsAt ok h w A kids) (hb : Below w.heap.size w wr) {k : Nat} (hk : k < kids.length) :
    ∃ b off, A = some ⟨b, off, none⟩ ∧ b < w.heap.size ∧ ∃ (kk nn : Int) (t : List UInt8) (S3 : Option Addr) (l3 m3 : Nat) (S4 : Option Addr) (l4 m4 : Nat), wr.cell? ⟨b, off + k * 5, none⟩ = some (.int .i64 kk) ∧ wr.cell? ⟨b, off + k * 5 + 1, none⟩ = some (.int .i64 nn) ∧ wr.cell? ⟨b, off + k * 5 + 2, none⟩ = some (.string ⟨t.toArray⟩) ∧
      wr.cell? ⟨b, off + k * 5 + 3, none⟩ = some (.slice S3 l3 m3) ∧ wr.cell? ⟨b, off + k * 5 + 4, none⟩ = some (.slice S4 l4 m4) ∧ NIs ok h wr kids[k] (.agg #[.int .i64 kk, .int .i64 nn, .string ⟨t.toArray⟩, .slice S3 l3 m3, .slice S4 l4 m4]) := by
  rcases hK with e | ⟨b, off, rfl, _, hbl, hc⟩
  · rw [e] at hk; simp at hk
  obtain ⟨x0, x1, x2, x3, x4, e0, e1, e2, e3, e4, hN⟩ := hc k hk
  obtain ⟨kk, n2, t2, S3, l3, m3, S4, l4, m4, hv⟩ := hN.nd
  simp only [Value.agg.injEq, Array.mk.injEq, List.cons.injEq, and_true] at hv
  obtain ⟨rfl, rfl, rfl, rfl, rfl⟩ := hv
  have hcell : ∀ {j : Nat} {x : Value}, w.cell? ⟨b, off + 5 * k + j, none⟩ = some x → wr.cell? ⟨b, off + k * 5 + j, none⟩ = some x := fun {j x} hx => by
    rw [show off + k * 5 + j = off + 5 * k + j by omega]
    exact (hb.cell (p := ⟨b, off + 5 * k + j, none⟩) hbl).trans hx
  exact ⟨b, off, rfl, hbl, _, _, _, _, _, _, _, _, _, hcell (j := 0) e0, hcell e1, hcell e2, hcell e3, hcell e4, hN.below hb⟩

set_option maxRecDepth 100000 in
set_option maxHeartbeats 2000000 in
theorem efunc_any (h : Nat) (ih : SameC h) (ok1 ok2 : Nat → Prop) (A1 A2 : Option Addr) (c1 c2 : Nat) (k1 k2 : List NT) (w : World) (h1 : KidsAt ok1 h w A1 k1) (h2 : KidsAt ok2 h w A2 k2) (l1 : k1.length ≤ 9223372036854775807) (_l2 : k2.length ≤ 9223372036854775807) (o1 : ∀ t ∈ k1, okLen t) (o2 : ∀ t ∈ k2, okLen t) (fv : Value) (hfv : fv = .func (.func 10) #[] #[]) :
    Calls Tryd.prog 22 #[.slice A1 k1.length c1, .slice A2 k2.length c2, fv] w fun e w' => e = .returned (.bool (eqL k1 k2)) ∧ Below w.heap.size w w' := by
  subst hfv
  have IH := Lib.hid ih
  have H1 := Lib.hid h1
  have H2 := Lib.hid h2
  have O1 := Lib.hid o1
  have O2 := Lib.hid o2
  by_cases hl : k1.length = k2.length
  · have HL := Lib.hid hl
    clear ih h1 h2 o1 o2
    rw [← hl]
    clear hl
    go_enter Tryd.func22, Tryd.ntmps22
    go_wp2
    go_loopw [17] (fun i wr => ∃ k : Nat, k ≤ k1.length ∧ i = .int .i64 k ∧ Hid (eqL (k1.take k) (k2.take k) = true) ∧ Hid (Below w.heap.size w wr)) (fun i _ => k1.length - (intOf i).toNat)
    case atStart => exact ⟨0, Nat.zero_le _, rfl, by simp [Hid, eqL], Below.refl _ _⟩
    case round =>
      obtain ⟨k, hk, rfl, HE, HB⟩ := hrel
      by_cases hlt : k < k1.length
      · have hlt2 : k < k2.length := by have := HL.out; omega
        obtain ⟨b1, f1, rfl, hb1, kk, nn, t, S3, l3, m3, S4, l4, m4, a0, a1, a2, a3, a4, hN1⟩ := kid_at H1.out HB.out hlt
        obtain ⟨b2, f2, rfl, hb2, kk', nn', t', S3', l3', m3', S4', l4', m4', d0, d1, d2, d3, d4, hN2⟩ := kid_at H2.out HB.out hlt2
        have hal : ∀ (o : Obj), Below wr.heap.size wr (wr.alloc o) := fun o => (Below.refl _ _).alloc (Nat.le_refl _) o
        have hbw2 : b2 < wr.heap.size := by have := HB.out.size; omega
        have g0 := fun o => ((hal o).cell (p := ⟨b2, f2 + k * 5, none⟩) hbw2).trans d0
        have g1 := fun o => ((hal o).cell (p := ⟨b2, f2 + k * 5 + 1, none⟩) hbw2).trans d1
        have g2 := fun o => ((hal o).cell (p := ⟨b2, f2 + k * 5 + 2, none⟩) hbw2).trans d2
        have g3 := fun o => ((hal o).cell (p := ⟨b2, f2 + k * 5 + 3, none⟩) hbw2).trans d3
        have g4 := fun o => ((hal o).cell (p := ⟨b2, f2 + k * 5 + 4, none⟩) hbw2).trans d4
        have hal2 : ∀ (o o2 : Obj), Below wr.heap.size wr ((wr.alloc o).alloc o2) := fun o o2 => (hal o).trans (((Below.refl _ _).alloc (Nat.le_refl _) o2).mono (hal o).size)
        have hT := fun o o2 => IH.out ok1 ok2 _ _ _ _ ((wr.alloc o).alloc o2) (hN1.below (hal2 o o2)) (hN2.below (hal2 o o2)) (O1.out _ (List.getElem_mem hlt)) (O2.out _ (List.getElem_mem hlt2))
        have HA2 := Lib.hid hal2
        have HLE := Lib.hid hlt2
        clear hal hal2 hN1 hN2 d0 d1 d2 d3 d4
        by_cases hq : eqT k1[k] k2[k] = true
        · have hT2 : ∀ o o2, Calls Tryd.prog 10 _ ((wr.alloc o).alloc o2) fun e w' => e = .returned (.bool true) ∧ Below ((wr.alloc o).alloc o2).heap.size ((wr.alloc o).alloc o2) w' := fun o o2 => (hT o o2).mono fun e w' h => ⟨h.1.trans (ret_bool hq), h.2⟩
          have HQ := Lib.hid hq
          clear hT hq
          go_wp2_with fail
          refine (hT2 _ _).mono ?_
          rintro e w2 ⟨rfl, hb3⟩
          have HB2 : Hid (Below w.heap.size w w2) := (HB.out.trans ((HA2.out _ _).mono HB.out.size)).trans (hb3.mono (Nat.le_trans HB.out.size (HA2.out _ _).size))
          clear hT2 hb3
          go_wp2
          go_roundw
          case rel => exact ⟨k + 1, by omega, by go_num, eqL_take hlt HLE.out HE.out HQ.out, HB2⟩
          case measure => simp [intOf]; omega
        · have hT2 : ∀ o o2, Calls Tryd.prog 10 _ ((wr.alloc o).alloc o2) fun e w' => e = .returned (.bool false) ∧ Below ((wr.alloc o).alloc o2).heap.size ((wr.alloc o).alloc o2) w' := fun o o2 => (hT o o2).mono fun e w' h => ⟨h.1.trans (ret_bool (Bool.of_not_eq_true hq)), h.2⟩
          have HQ := Lib.hid hq
          clear hT hq
          go_wp2_with fail
          refine (hT2 _ _).mono ?_
          rintro e w2 ⟨rfl, hb3⟩
          have HB2 : Hid (Below w.heap.size w w2) := (HB.out.trans ((HA2.out _ _).mono HB.out.size)).trans (hb3.mono (Nat.le_trans HB.out.size (HA2.out _ _).size))
          clear hT2 hb3
          go_wp2
          go_ret
          exact ⟨ret_bool ((eqL_at hlt hlt2 HE.out).trans (congrArg (fun b => b && _) (Bool.of_not_eq_true HQ.out))).symm, HB2.out⟩
      · obtain rfl : k = k1.length := by omega
        go_wp2
        go_ret
        have he := HE.out
        rw [List.take_length, HL.out, List.take_length] at he
        exact ⟨ret_bool he.symm, HB.out⟩
  · have hle : eqL k1 k2 = false := eqL_len hl
    have q : ((k1.length : Int) == (k2.length : Int)) = false := by simp; omega
    have q2 : decide ((k1.length : Int) = (k2.length : Int)) = false := by simp; omega
    clear ih h1 h2 o1 o2
    go_enter Tryd.func22, Tryd.ntmps22
    go_wp2
    go_ret
    exact ⟨ret_bool hle.symm, Below.refl _ _⟩

end Go.Proofs.YtlaagdpanbineaaDoor

/- json.Same on two values in memory: its walk. -/
namespace Go.Proofs.YtlaagdpanbineaaDoor
open Go.RowKit

theorem okLen_kids {kd nn : Int} {tx : List UInt8} {ks : List (List UInt8)} {kids : List NT} (h : okLen (.mk kd nn tx ks kids)) : ks.length ≤ 9223372036854775807 ∧ kids.length ≤ 9223372036854775807 ∧ ∀ t ∈ kids, okLen t := by
  unfold okLen at h; exact h

theorem ba_beq (a b : List UInt8) : ((⟨a.toArray⟩ : ByteArray).toList == (⟨b.toArray⟩ : ByteArray).toList) = (a == b) := by
  rw [ByteArray.toList_eq, ByteArray.toList_eq]
theorem al2 (w : World) (o o' : Obj) : Below w.heap.size w ((w.alloc o).alloc o') := ((Below.refl _ _).alloc (Nat.le_refl _) o).alloc (((Below.refl _ _).alloc (Nat.le_refl _) o).size) o'

theorem StrAt.belowS {ok : Nat → Prop} {w w' : World} {v : Value} {ks : List (List UInt8)} (h : StrAt ok w v ks) (hb : Below w.heap.size w w') : StrAt ok w' v ks :=
  h.kept hb.size fun b ho hl => ⟨ho, hb.block b hl⟩

section
variable (kd nn kd' nn' : Int) (tx tx' : ByteArray) (A B C D A' B' C' D' : Option Addr) (l1 c1 l2 c2 l1' c1' l2' c2' : Nat) (w : World)
def aggV (kd nn : Int) (tx : ByteArray) (A : Option Addr) (l1 c1 : Nat) (B : Option Addr) (l2 c2 : Nat) : Value := .agg #[.int .i64 kd, .int .i64 nn, .string tx, .slice A l1 c1, .slice B l2 c2]

set_option maxRecDepth 100000 in
set_option maxHeartbeats 1000000 in
theorem same_1 (q : (kd == kd') = false) :
    Calls Tryd.prog 10 #[aggV kd nn tx A l1 c1 B l2 c2, aggV kd' nn' tx' A' l1' c1' B' l2' c2'] w fun e w' => e = .returned (.bool false) ∧ Below w.heap.size w w' := by
  unfold aggV
  go_enter Tryd.func10, Tryd.ntmps10
  go_wp2
  go_ret
  exact ⟨rfl, al2 _ _ _⟩
set_option maxRecDepth 100000 in
set_option maxHeartbeats 1000000 in
theorem same_2 (q1 : (kd == kd') = true) (q : (nn == nn') = false) :
    Calls Tryd.prog 10 #[aggV kd nn tx A l1 c1 B l2 c2, aggV kd' nn' tx' A' l1' c1' B' l2' c2'] w fun e w' => e = .returned (.bool false) ∧ Below w.heap.size w w' := by
  unfold aggV
  go_enter Tryd.func10, Tryd.ntmps10
  go_wp2
  go_ret
  exact ⟨rfl, al2 _ _ _⟩
set_option maxRecDepth 100000 in
set_option maxHeartbeats 1000000 in
theorem same_3 (q1 : (kd == kd') = true) (q2 : (nn == nn') = true) (q : (tx.toList == tx'.toList) = false) :
    Calls Tryd.prog 10 #[aggV kd nn tx A l1 c1 B l2 c2, aggV kd' nn' tx' A' l1' c1' B' l2' c2'] w fun e w' => e = .returned (.bool false) ∧ Below w.heap.size w w' := by
  unfold aggV
  go_enter Tryd.func10, Tryd.ntmps10
  go_wp2
  go_ret
  exact ⟨rfl, al2 _ _ _⟩
set_option maxRecDepth 100000 in
set_option maxHeartbeats 1000000 in
theorem same_4 (q1 : (kd == kd') = true) (q2 : (nn == nn') = true) (q : (tx.toList == tx'.toList) = true)
    (hT : ∀ o o', Calls Tryd.prog 21 #[.slice A l1 c1, .slice A' l1' c1'] ((w.alloc o).alloc o') fun e w' => e = .returned (.bool false) ∧ Below ((w.alloc o).alloc o').heap.size ((w.alloc o).alloc o') w') :
    Calls Tryd.prog 10 #[aggV kd nn tx A l1 c1 B l2 c2, aggV kd' nn' tx' A' l1' c1' B' l2' c2'] w fun e w' => e = .returned (.bool false) ∧ Below w.heap.size w w' := by
  unfold aggV
  go_enter Tryd.func10, Tryd.ntmps10
  go_wp2_with fail
  refine (hT _ _).mono ?_
  rintro e w2 ⟨rfl, hb⟩
  have HB := Lib.hid hb
  clear hT hb
  go_wp2
  go_ret
  exact ⟨rfl, (al2 _ _ _).trans (HB.out.mono (al2 _ _ _).size)⟩
set_option maxRecDepth 100000 in
set_option maxHeartbeats 1000000 in
theorem same_5 (b : Bool) (q1 : (kd == kd') = true) (q2 : (nn == nn') = true) (q : (tx.toList == tx'.toList) = true)
    (hT : ∀ o o', Calls Tryd.prog 21 #[.slice A l1 c1, .slice A' l1' c1'] ((w.alloc o).alloc o') fun e w' => e = .returned (.bool true) ∧ Below ((w.alloc o).alloc o').heap.size ((w.alloc o).alloc o') w')
    (hE : ∀ w1, Below w.heap.size w w1 → Calls Tryd.prog 22 #[.slice B l2 c2, .slice B' l2' c2', .func (.func 10) #[] #[]] w1 fun e w' => e = .returned (.bool b) ∧ Below w1.heap.size w1 w') :
    Calls Tryd.prog 10 #[aggV kd nn tx A l1 c1 B l2 c2, aggV kd' nn' tx' A' l1' c1' B' l2' c2'] w fun e w' => e = .returned (.bool b) ∧ Below w.heap.size w w' := by
  unfold aggV
  have HE := Lib.hid hE
  clear hE
  go_enter Tryd.func10, Tryd.ntmps10
  go_wp2_with fail
  refine (hT _ _).mono ?_
  rintro e w2 ⟨rfl, hb⟩
  have hb2 := (al2 w _ _).trans (hb.mono (al2 w _ _).size)
  have hE2 := HE.out w2 hb2
  have f4 : w2.cell? ⟨w.heap.size, 4, none⟩ = some (.slice B l2 c2) := by
    simp only [World.cell?]
    rw [(hb.block w.heap.size (by simp; omega)).trans ((Below.heap_alloc _ _ _ (by simp)).trans (heap_alloc_new w _))]; rfl
  have f5 : w2.cell? ⟨w.heap.size + 1, 4, none⟩ = some (.slice B' l2' c2') := by
    simp only [World.cell?]
    rw [(hb.block (w.heap.size + 1) (by simp)).trans (heap_alloc_new2 w _ _)]; rfl
  have HB := Lib.hid hb2
  clear hT hb hb2
  go_wp2_with fail
  refine hE2.mono ?_
  rintro e w3 ⟨rfl, hb3⟩
  go_wp2
  go_ret
  exact ⟨rfl, HB.out.trans (hb3.mono HB.out.size)⟩
end

theorem same_any : ∀ h : Nat, SameC h
  | 0 => fun _ _ _ _ _ _ _ h1 _ _ _ => h1.elim
  | h + 1 => by
    intro ok1 ok2 t1 t2 v1 v2 w h1 h2 o1 o2
    have ih := same_any h
    obtain ⟨kd, nn, tx, ks, kids⟩ := t1
    obtain ⟨kd', nn', tx', ks', kids'⟩ := t2
    obtain ⟨kv, S, c1, rfl, hks, hk⟩ := h1
    obtain ⟨kv', S', c1', rfl, hks', hk'⟩ := h2
    obtain ⟨p1, p2, p3⟩ := okLen_kids o1
    obtain ⟨p1', p2', p3'⟩ := okLen_kids o2
    have hTX := fun o o' => texts_eq (hks.belowS (al2 w o o')) (hks'.belowS (al2 w o o')) p1 p1'
    have hEF := fun w' (hb : Below w.heap.size w w') => efunc_any h ih ok1 ok2 S S' c1 c1' kids kids' w' (KidsAt.below hk hb) (KidsAt.below hk' hb) p2 p2' p3 p3' (.func (.func 10) #[] #[]) rfl
    obtain ⟨S1, c0, rfl, _⟩ := hks
    obtain ⟨S1', c0', rfl, _⟩ := hks'
    clear ih hk hk' p1 p2 p3 p1' p2' p3' o1 o2
    show Calls Tryd.prog _ #[aggV kd nn ⟨tx.toArray⟩ S1 ks.length c0 S kids.length c1, aggV kd' nn' ⟨tx'.toArray⟩ S1' ks'.length c0' S' kids'.length c1'] w _
    by_cases hq1 : (kd == kd') = true
    · by_cases hq2 : (nn == nn') = true
      · by_cases hq3 : (tx == tx') = true
        · by_cases hq4 : (ks == ks') = true
          · refine (same_5 kd nn kd' nn' _ _ S1 S S1' S' _ _ _ _ _ _ _ _ w (eqL kids kids') hq1 hq2 ((ba_beq tx tx').trans hq3) (fun o o' => (hTX o o').mono fun e w' h => ⟨h.1.trans (ret_bool hq4), h.2⟩) hEF).mono fun e w' h => ⟨h.1.trans (ret_bool ?_), h.2⟩
            simp only [eqT, hq1, hq2, hq3, hq4, Bool.true_and]
          · have hq4 := Bool.of_not_eq_true hq4
            refine (same_4 kd nn kd' nn' _ _ S1 S S1' S' _ _ _ _ _ _ _ _ w hq1 hq2 ((ba_beq tx tx').trans hq3) (fun o o' => (hTX o o').mono fun e w' h => ⟨h.1.trans (ret_bool hq4), h.2⟩)).mono fun e w' h => ⟨h.1.trans (ret_bool ?_), h.2⟩
            simp only [eqT, hq4, Bool.and_false, Bool.false_and]
        · have hq3 := Bool.of_not_eq_true hq3
          refine (same_3 kd nn kd' nn' _ _ S1 S S1' S' _ _ _ _ _ _ _ _ w hq1 hq2 ((ba_beq tx tx').trans hq3)).mono fun e w' h => ⟨h.1.trans (ret_bool ?_), h.2⟩
          simp only [eqT, hq3, Bool.and_false, Bool.false_and]
      · have hq2 := Bool.of_not_eq_true hq2
        refine (same_2 kd nn kd' nn' _ _ S1 S S1' S' _ _ _ _ _ _ _ _ w hq1 hq2).mono fun e w' h => ⟨h.1.trans (ret_bool ?_), h.2⟩
        simp only [eqT, hq2, Bool.and_false, Bool.false_and]
    · have hq1 := Bool.of_not_eq_true hq1
      refine (same_1 kd nn kd' nn' _ _ S1 S S1' S' _ _ _ _ _ _ _ _ w hq1).mono fun e w' h => ⟨h.1.trans (ret_bool ?_), h.2⟩
      simp only [eqT, hq1, Bool.false_and]

end Go.Proofs.YtlaagdpanbineaaDoor

