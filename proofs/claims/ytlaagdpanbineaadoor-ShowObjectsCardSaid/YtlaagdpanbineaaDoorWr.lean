/- The writer of package show: what it writes of a right value. -/
import Derived.Test.YtlaagdpanbineaaDoorWq
import Derived.Test.YtlaagdpanbineaaDoorRgc
import Derived.BigQuiet
import Derived.Deep.QuietTactic
import Derived.Deep.RegionWith
namespace Go.Proofs.YtlaagdpanbineaaDoor
open Go.RowKit

theorem WIs.below {B b : Nat} {bs : List Value} {w w' : World} (h : WIs B b bs w) (hb : Below w.heap.size w w') : WIs B b bs w' := by
  have hA : ∀ p, WAt B b p bs w → WAt B b p bs w' := fun p hA => by
    obtain ⟨hB, v, hbk, hown, hne⟩ := hA
    exact ⟨hB, v, (hb.block b (Array.getElem?_eq_some_iff.1 hbk).1).trans hbk, hown.kept (row := none) ⟨hb.os, hb.tape, hb.output, hb.size, fun k hk _ => hb.block k hk⟩ (Decidable.em _), hne⟩
  exact h.elim (fun h => .inl (hA _ h)) (fun h => .inr (hA _ h))
theorem dr_one {B : Nat} {w wx : World} (h : Below B w wx) : Below B w wx.drew := ⟨h.os, h.tape, h.output, h.size, h.block⟩
theorem WIs.lt {B b : Nat} {bs : List Value} {w : World} (h : WIs B b bs w) : B ≤ b ∧ b < w.heap.size := h.elim (fun h => ⟨h.1, h.lt⟩) (fun h => ⟨h.1, h.lt⟩)
theorem cells_u8 (acc : List UInt8) (c : UInt8) (z : Int) (hz : (c.toNat : Int) = z) : Lib.byteCells acc ++ [.int .u8 z] = Lib.byteCells (acc ++ [c]) := by
  simp [Lib.byteCells, ← hz]

set_option maxRecDepth 100000 in
theorem comma_any (B b k : Nat) (acc : List UInt8) (w : World) (h : WIs B b (Lib.byteCells acc) w) (hl : acc.length ≤ 500000000) (hBw : B ≤ w.heap.size) :
    Calls Tryd.prog 60 #[.pointer (some ⟨b, 0, none⟩), .int .i64 k] w fun e w' => e = .returned (.tuple #[]) ∧ WIs B b (Lib.byteCells (acc ++ comB (k == 0))) w' ∧ Below B w w' ∧ Lib.OthersKept 5 (some b) w w' := by
  have hlt := h.lt
  by_cases hk : k = 0
  · subst hk
    have HW := Lib.hid h
    clear h
    go_enter Tryd.func60, Tryd.ntmps60
    go_wp2
    go_end0
    exact ⟨rfl, by simpa [comB] using HW.out, Below.refl _ _, Lib.OthersKept.refl _ _ _⟩
  · have hW := wbyte B b (Lib.byteCells acc) 44 w h (by rw [Lib.byteCells_length]; omega) hBw
    rw [cells_u8 acc 44 44 rfl] at hW
    have hk0 : 0 < k := by omega
    have hkb : (k == 0) = false := by simpa using hk
    rw [hkb]
    clear h hk hkb
    go_enter Tryd.func60, Tryd.ntmps60
    go_wp2_with fail
    refine hW.mono ?_
    rintro e w1 ⟨rfl, h1, h2, h3⟩
    go_wp2
    go_end0
    exact ⟨rfl, .inr h1, h2, h3⟩

set_option maxRecDepth 100000 in
theorem quoted_any (B b : Nat) (acc x : List UInt8) (w : World) (hC : CondE w) (h : WIs B b (Lib.byteCells acc) w) (hv : VdL x) (hx : x.length ≤ 200000) (hl : acc.length ≤ 500000000) (hBw : B ≤ w.heap.size) :
    Calls Tryd.prog 48 #[.pointer (some ⟨b, 0, none⟩), .string ⟨x.toArray⟩] w fun e w' => e = .returned (.tuple #[]) ∧ WIs B b (Lib.byteCells (acc ++ quoteL x)) w' ∧ Below B w w' ∧ Lib.OthersKept 5 (some b) w w' := by
  have hQ := quote_good ⟨x.toArray⟩ w hC (by show x.toArray.size ≤ _; simp; omega) hv
  have hqs := quoteL_len x
  have hlt := h.lt
  obtain ⟨Q, hQQ⟩ : ∃ Q : ByteArray, (⟨(quoteL x).toArray⟩ : ByteArray) = Q := ⟨_, rfl⟩
  have hQs : Q.size = (quoteL x).length := by rw [← hQQ]; simp [ByteArray.size]
  have hQl : Q.data.toList = quoteL x := by rw [← hQQ]
  rw [toBA, hQQ] at hQ
  have hS := fun w1 (hb : Below w.heap.size w w1) => wstring B b (Lib.byteCells acc) Q w1 (h.below hb) (by rw [Lib.byteCells_length]; omega) (Nat.le_trans hBw hb.size)
  rw [cells_str, hQl] at hS
  have HS := Lib.hid hS
  obtain ⟨X, hX⟩ : ∃ X : ByteArray, (⟨x.toArray⟩ : ByteArray) = X := ⟨_, rfl⟩
  rw [hX] at hQ ⊢
  clear hS h hC hv hQQ hQs hQl hX
  go_enter Tryd.func48, Tryd.ntmps48
  go_wp2_with fail
  refine hQ.mono ?_
  rintro e w1 ⟨rfl, hb1⟩
  have hW := HS.out w1 hb1
  clear hQ
  go_wp2_with fail
  refine hW.mono ?_
  rintro e w2 ⟨rfl, h1, h2, h3⟩
  go_wp2
  go_end0
  exact ⟨rfl, .inr h1, (hb1.mono hBw).trans h2, fun k o hk hb ho => h3 k o ((hb1.block k (Array.getElem?_eq_some_iff.1 hk).1).trans hk) hb ho⟩

set_option maxHeartbeats 400000 in
theorem itext_any (n : Int) (h0 : -9223372036854775808 ≤ n) (h1 : n ≤ 9223372036854775807) (w : World) (hT : Lib.TabIs Tryd.prog w "internal/strconv.uint64pow10" .u64 Lib.pow10Tab) :
    Calls Tryd.prog 47 #[.int .i64 n] w fun e w' => e = .returned (.string ⟨(Lib.itoa n).toArray⟩) ∧ Below w.heap.size w w' := by
  have hI := Tryd.strconv_Itoa n h0 h1 w hT
  have HB := Lib.hid (fun k os => Lib.below_grow w.heap.size w (Nat.le_refl _) k os)
  clear hT
  generalize (⟨(Lib.itoa n).toArray⟩ : ByteArray) = t at *
  go_enter Tryd.func47, Tryd.ntmps47
  go_wp2_with (go_at_call 57; refine hI.mono ?_; rintro e w' ⟨rfl, k, os, rfl⟩)
  go_ret
  exact ⟨rfl, HB.out k os⟩

def ValW (h : Nat) : Prop := ∀ (ok : Nat → Prop) (t : NT) (v : Value) (d b : Nat) (acc : List UInt8) (w0 w : World), NIs ok h w0 t v → rgt d t → szT t ≤ 200000 → CondE w0 → Below w0.heap.size w0 w → WIs w0.heap.size b (Lib.byteCells acc) w → acc.length + 22 * szT t ≤ 500000000 →
  Calls Tryd.prog 30 #[.pointer (some ⟨b, 0, none⟩), v] w fun e w' => e = .returned (.tuple #[]) ∧ WIs w0.heap.size b (Lib.byteCells (acc ++ showT t)) w' ∧ Below w0.heap.size w w'

theorem showA_snoc (t : NT) : ∀ (b : Bool) (l : List NT), showA b (l ++ [t]) = showA b l ++ (comB (b && l.isEmpty) ++ showT t)
  | b, [] => by simp [showA]
  | b, a :: l => by
    rw [List.cons_append]
    simp only [showA]
    rw [showA_snoc t false l]
    simp
theorem showO_snoc (t : NT) (k : List UInt8) : ∀ (b : Bool) (l : List NT) (ks : List (List UInt8)), ks.length = l.length → showO b (l ++ [t]) (ks ++ [k]) = showO b l ks ++ (comB (b && l.isEmpty) ++ (quoteL k ++ 58 :: showT t))
  | b, [], ks, h => by
    have : ks = [] := List.eq_nil_of_length_eq_zero (by simpa using h)
    subst this
    simp [showO]
  | b, a :: l, [], h => by simp at h
  | b, a :: l, k0 :: ks, h => by
    rw [List.cons_append, List.cons_append]
    simp only [showO]
    rw [showO_snoc t k false l ks (by simpa using h)]
    simp
theorem szL_take : ∀ (l : List NT) (k : Nat), szL (l.take k) ≤ szL l
  | [], k => by simp
  | a :: l, 0 => by simp [szL]
  | a :: l, k + 1 => by
    have := szL_take l k
    simp only [List.take_succ_cons, szL]; omega
theorem kySum_append (a b : List (List UInt8)) : kySum (a ++ b) = kySum a + kySum b := by simp [kySum]
theorem kySum_one (x : List UInt8) : kySum [x] = x.length + 1 := by simp [kySum]
theorem kySum_take : ∀ (l : List (List UInt8)) (k : Nat), kySum (l.take k) ≤ kySum l
  | [], k => by simp
  | a :: l, 0 => by simp [kySum]
  | a :: l, k + 1 => by
    have := kySum_take l k
    simp only [kySum, List.take_succ_cons, List.map_cons, List.sum_cons] at *; omega
theorem take_empty {α : Type} (l : List α) (k : Nat) (h : k < l.length) : (l.take k).isEmpty = (k == 0) := by
  cases k with
  | zero => rfl
  | succ k =>
    cases l with
    | nil => simp at h
    | cons a l => rfl

/-- the kids of a value in memory -/
def KidsW (ok : Nat → Prop) (h : Nat) (w : World) (S : Option Addr) (kids : List NT) : Prop := kids = [] ∨ ∃ b off, S = some ⟨b, off, none⟩ ∧ ok b ∧ b < w.heap.size ∧ ∀ j (hj : j < kids.length), ∃ c0 c1 c2 c3 c4,
        w.cell? ⟨b, off + 5 * j, none⟩ = some c0 ∧ w.cell? ⟨b, off + 5 * j + 1, none⟩ = some c1 ∧ w.cell? ⟨b, off + 5 * j + 2, none⟩ = some c2 ∧ w.cell? ⟨b, off + 5 * j + 3, none⟩ = some c3 ∧ w.cell? ⟨b, off + 5 * j + 4, none⟩ = some c4 ∧
        NIs ok h w kids[j] (.agg #[c0, c1, c2, c3, c4])
theorem kid_w {ok : Nat → Prop} {h : Nat} {w0 w : World} {S : Option Addr} {kids : List NT} (hK : KidsW ok h w0 S kids) (hb : Below w0.heap.size w0 w) {k : Nat} (hk : k < kids.length) :
    ∃ b off kk kn kt kA kl kc kB km kd, S = some ⟨b, off, none⟩ ∧ w.cell? ⟨b, off + k * 5, none⟩ = some (.int .i64 kk) ∧ w.cell? ⟨b, off + k * 5 + 1, none⟩ = some (.int .i64 kn) ∧ w.cell? ⟨b, off + k * 5 + 2, none⟩ = some (.string ⟨List.toArray kt⟩) ∧ w.cell? ⟨b, off + k * 5 + 3, none⟩ = some (.slice kA kl kc) ∧ w.cell? ⟨b, off + k * 5 + 4, none⟩ = some (.slice kB km kd) ∧
      NIs ok h w0 kids[k] (.agg #[.int .i64 kk, .int .i64 kn, .string ⟨List.toArray kt⟩, .slice kA kl kc, .slice kB km kd]) := by
  rcases hK with e | ⟨b, off, rfl, _, hbl, hc⟩
  · rw [e] at hk; simp at hk
  · obtain ⟨g0, g1, g2, g3, g4, e0, e1, e2, e3, e4, hN⟩ := hc k hk
    obtain ⟨kk, kn, kt, kA, kl, kc, kB, km, kdd, hv⟩ := hN.nd
    simp only [Value.agg.injEq, Array.mk.injEq, List.cons.injEq, and_true] at hv
    obtain ⟨rfl, rfl, rfl, rfl, rfl⟩ := hv
    rw [Nat.mul_comm 5 k] at e0 e1 e2 e3 e4
    have hbk := hb.block b hbl
    exact ⟨b, off, kk, kn, kt, kA, kl, kc, kB, km, kdd, rfl, (cell_kept hbk).trans e0, (cell_kept hbk).trans e1, (cell_kept hbk).trans e2, (cell_kept hbk).trans e3, (cell_kept hbk).trans e4, hN⟩

set_option maxRecDepth 100000 in
set_option maxHeartbeats 4000000 in
theorem array_w (h : Nat) (ih : ValW h) (ok : Nat → Prop) (S : Option Addr) (cap d b : Nat) (kids : List NT) (acc : List UInt8) (w0 w : World) (hK : KidsW ok h w0 S kids) (hr : rgtL d kids) (hs : szL kids ≤ 200000) (hC : CondE w0) (hb : Below w0.heap.size w0 w) (hW : WIs w0.heap.size b (Lib.byteCells acc) w) (hl : acc.length + 22 * szL kids + 22 ≤ 500000000) :
    Calls Tryd.prog 49 #[.pointer (some ⟨b, 0, none⟩), .slice S kids.length cap] w fun e w' => e = .returned (.tuple #[]) ∧ WIs w0.heap.size b (Lib.byteCells (acc ++ 91 :: (showA true kids ++ [93]))) w' ∧ Below w0.heap.size w w' := by
  have IH := Lib.hid ih
  have HK := Lib.hid hK
  have HRG := Lib.hid hr
  have HC := Lib.hid hC
  have HB := Lib.hid hb
  have hlen := len_szL kids
  have hO := wbyte w0.heap.size b (Lib.byteCells acc) 91 w hW (by rw [Lib.byteCells_length]; omega) hb.size
  rw [cells_u8 acc 91 91 rfl] at hO
  clear ih hK hr hC hb hW
  go_enter Tryd.func49, Tryd.ntmps49
  go_wp2_with fail
  refine hO.mono ?_
  rintro e w1 ⟨rfl, h1, h2, _⟩
  have HW1 : Hid (WIs w0.heap.size b (Lib.byteCells (acc ++ [91])) w1) := .inr h1
  have HB1 := Lib.hid h2
  clear hO h1 h2
  go_wp2
  go_loopw [12] (fun i wr => ∃ k : Nat, k ≤ kids.length ∧ i = .int .i64 k ∧ Hid (WIs w0.heap.size b (Lib.byteCells (acc ++ [91] ++ showA true (kids.take k))) wr) ∧ Hid (Below w0.heap.size w wr)) (fun i _ => kids.length - (intOf i).toNat)
  case atStart => exact ⟨0, Nat.zero_le _, rfl, by rw [List.take_zero]; show WIs _ _ _ _; simpa [showA] using HW1.out, HB1⟩
  case round =>
    obtain ⟨k, hkl, rfl, HW, HBr⟩ := hrel
    have hsz := HBr.out.size
    by_cases hlt : k < kids.length
    · obtain ⟨bk, off, kk, kn, kt, kA, kl, kc, kB, km, kd, rfl, k0, k1, k2, k3, k4, hN⟩ := kid_w HK.out (HB.out.trans HBr.out) hlt
      have hmem : kids[k] ∈ kids := List.getElem_mem hlt
      have hsk := szL_mem hmem
      have hrk := rgtL_mem.1 HRG.out _ hmem
      have hst := szL_take kids k
      have hla : (showA true (kids.take k)).length ≤ 22 * szL (kids.take k) := showA_len d _ true (rgtL_mem.2 fun t ht => rgtL_mem.1 HRG.out t (List.mem_of_mem_take ht))
      have hsp : szL (kids.take k) + szT kids[k] ≤ szL kids := by
        have h1 := szL_take kids (k + 1)
        rw [List.take_succ_eq_append_getElem hlt, szL_append] at h1
        simp only [szL] at h1; omega
      have hbl := HW.out.lt
      have hwl : w0.heap.size ≤ wr.heap.size := Nat.le_trans HB.out.size hsz
      have hcm := fun o => comma_any w0.heap.size b k _ (wr.alloc o) (HW.out.below (al0 wr o)) (by simp; omega) (by simp; omega)
      have htk := showA_snoc kids[k] true (kids.take k)
      rw [← List.take_succ_eq_append_getElem hlt, Bool.true_and, take_empty kids k hlt] at htk
      have HTK := Lib.hid htk
      have HN := Lib.hid hN
      have hv := fun w3 (hb3 : Below w0.heap.size w0 w3) hW3 => IH.out ok kids[k] _ d b (acc ++ [91] ++ showA true (kids.take k) ++ comB (k == 0)) w0 w3 hN hrk (by omega) HC.out hb3 hW3 (by
        have : (comB (k == 0)).length ≤ 1 := by cases (k == 0) <;> simp [comB]
        simp only [List.length_append, List.length_singleton]; omega)
      have HV := Lib.hid hv
      clear hN hrk hsk hst hla hsp htk hmem hv
      go_upto_region 4 with fail
      refine wp_gen (fun w2 => Hid (Blk w2 wr.heap.size (.int .i64 kk) (.int .i64 kn) (.string ⟨kt.toArray⟩) (.slice kA kl kc) (.slice kB km kd)) ∧ ∃ o, w2 = wr.alloc o) ⟨heap_alloc_new wr _, _, rfl⟩ ?_
      rintro w2 ⟨HX2, o2, rfl⟩
      clear k0 k1 k2 k3 k4
      go_wp2_with fail
      refine (hcm o2).mono ?_
      rintro e w3 ⟨rfl, hW3, hb3, hk3⟩
      have HX3 : Hid (Blk w3 wr.heap.size (.int .i64 kk) (.int .i64 kn) (.string ⟨kt.toArray⟩) (.slice kA kl kc) (.slice kB km kd)) :=
        hk3 _ _ HX2.out (by intro e; injection e with e; omega) (by intro c fz e; injection e with _ e2 _; exact absurd e2 (by decide))
      have HB3 : Hid (Below w0.heap.size w w3) := HBr.out.trans (((al0 wr o2).mono hwl).trans hb3)
      have hcall := HV.out w3 (HB.out.trans HB3.out) hW3
      have x0 := HX3.out.cell 0 (by omega)
      have x1 := HX3.out.cell 1 (by omega)
      have x2 := HX3.out.cell 2 (by omega)
      have x3 := HX3.out.cell 3 (by omega)
      have x4 := HX3.out.cell 4 (by omega)
      clear hcm hW3 hb3 hk3 HX2 HX3 HV
      go_wp2_with fail
      refine hcall.mono ?_
      rintro e w4 ⟨rfl, hW4, hb4⟩
      have HW4 : Hid (WIs w0.heap.size b (Lib.byteCells (acc ++ [91] ++ showA true (kids.take (k + 1)))) w4) := by
        show WIs _ _ _ _
        rw [HTK.out, ← List.append_assoc, ← List.append_assoc]
        exact hW4
      have HB4 : Hid (Below w0.heap.size w w4) := HB3.out.trans hb4
      clear hcall hW4 hb4 x0 x1 x2 x3 x4
      go_wp2
      go_roundw
      case rel => exact ⟨k + 1, by omega, by go_num, HW4, HB4⟩
      case measure => simp [intOf]; omega
    · obtain rfl : k = kids.length := by omega
      have hw := HW.out
      rw [List.take_length] at hw
      have hla : (showA true kids).length ≤ 22 * szL kids := showA_len d kids true HRG.out
      have hO := wbyte w0.heap.size b _ 93 wr hw (by rw [Lib.byteCells_length]; simp; omega) (Nat.le_trans HB.out.size hsz)
      rw [cells_u8 _ 93 93 rfl] at hO
      rw [show acc ++ [91] ++ showA true kids ++ [93] = acc ++ 91 :: (showA true kids ++ [93]) by simp] at hO
      clear hw hla
      go_wp2_with fail
      refine hO.mono ?_
      rintro e w5 ⟨rfl, h1, h2, _⟩
      go_wp2
      go_end0
      exact ⟨rfl, .inr h1, HBr.out.trans h2⟩

set_option maxRecDepth 100000 in
set_option maxHeartbeats 4000000 in
theorem object_w (h : Nat) (ih : ValW h) (ok ok0 : Nat → Prop) (S1 S : Option Addr) (c0 cap d b : Nat) (ks : List (List UInt8)) (kids : List NT) (acc : List UInt8) (w0 w : World) (hS : StrAt ok0 w0 (.slice S1 ks.length c0) ks) (hK : KidsW ok h w0 S kids) (hle : ks.length = kids.length) (hv : ∀ x ∈ ks, VdL x) (hr : rgtL d kids) (hs : szL kids + kySum ks ≤ 200000) (hC : CondE w0) (hb : Below w0.heap.size w0 w) (hW : WIs w0.heap.size b (Lib.byteCells acc) w) (hl : acc.length + 22 * szL kids + 22 * kySum ks + 22 ≤ 500000000) :
    Calls Tryd.prog 50 #[.pointer (some ⟨b, 0, none⟩), .slice S1 ks.length c0, .slice S kids.length cap] w fun e w' => e = .returned (.tuple #[]) ∧ WIs w0.heap.size b (Lib.byteCells (acc ++ 123 :: (showO true kids ks ++ [125]))) w' ∧ Below w0.heap.size w w' := by
  have IH := Lib.hid ih
  have HK := Lib.hid hK
  have HRG := Lib.hid hr
  have HC := Lib.hid hC
  have HB := Lib.hid hb
  have HVD := Lib.hid hv
  have HLE := Lib.hid hle
  obtain ⟨S1', c0', hSe, hS2⟩ := hS
  simp only [Value.slice.injEq, true_and] at hSe
  obtain ⟨rfl, rfl⟩ := hSe
  have HS := Lib.hid hS2
  have hlen := len_szL kids
  have hklen := kySum_len ks
  have hO := wbyte w0.heap.size b (Lib.byteCells acc) 123 w hW (by rw [Lib.byteCells_length]; omega) hb.size
  rw [cells_u8 acc 123 123 rfl] at hO
  clear ih hK hr hC hb hW hv hS2 hle
  go_enter Tryd.func50, Tryd.ntmps50
  go_wp2_with fail
  refine hO.mono ?_
  rintro e w1 ⟨rfl, h1, h2, _⟩
  have HW1 : Hid (WIs w0.heap.size b (Lib.byteCells (acc ++ [123])) w1) := .inr h1
  have HB1 := Lib.hid h2
  clear hO h1 h2
  go_wp2
  go_loopw [14] (fun i wr => ∃ k : Nat, k ≤ ks.length ∧ i = .int .i64 k ∧ Hid (WIs w0.heap.size b (Lib.byteCells (acc ++ [123] ++ showO true (kids.take k) (ks.take k))) wr) ∧ Hid (Below w0.heap.size w wr)) (fun i _ => ks.length - (intOf i).toNat)
  case atStart => exact ⟨0, Nat.zero_le _, rfl, by rw [List.take_zero]; show WIs _ _ _ _; simpa [showO] using HW1.out, HB1⟩
  case round =>
    obtain ⟨k, hkl, rfl, HW, HBr⟩ := hrel
    have hsz := HBr.out.size
    by_cases hlt : k < ks.length
    · have hltk : k < kids.length := by have := HLE.out; omega
      obtain ⟨bs, offs, rfl, _, hbsl, hcs⟩ : ∃ bs offs, S1 = some ⟨bs, offs, none⟩ ∧ ok0 bs ∧ bs < w0.heap.size ∧ ∀ j (hj : j < ks.length), w0.cell? ⟨bs, offs + j, none⟩ = some (.string ⟨ks[j].toArray⟩) := by
        rcases HS.out with e | ⟨b, off, h1, h2, h3, h4⟩
        · rw [e] at hlt; simp at hlt
        · exact ⟨b, off, h1, h2, h3, fun j hj => by have := h4 j hj; rwa [List.getD_eq_getElem?_getD, List.getElem?_eq_getElem hj] at this⟩
      have ck : wr.cell? ⟨bs, offs + k, none⟩ = some (.string ⟨ks[k].toArray⟩) := (((HB.out.trans HBr.out)).cell (p := ⟨bs, offs + k, none⟩) hbsl).trans (hcs k hlt)
      have hkid := fun w5 (hb5 : Below w0.heap.size w0 w5) => kid_w HK.out hb5 hltk
      have hmem : kids[k] ∈ kids := List.getElem_mem hltk
      have hsk := szL_mem hmem
      have hrk := rgtL_mem.1 HRG.out _ hmem
      have hvk := HVD.out ks[k] (List.getElem_mem hlt)
      have hky := kySum_at hlt
      have hla := showO_len d _ true (ks.take k) (rgtL_mem.2 fun t ht => rgtL_mem.1 HRG.out t (List.mem_of_mem_take (i := k) ht))
      have hsp : szL (kids.take k) + szT kids[k] ≤ szL kids := by
        have h1 := szL_take kids (k + 1)
        rw [List.take_succ_eq_append_getElem hltk, szL_append] at h1
        simp only [szL] at h1; omega
      have hsq : kySum (ks.take k) + (ks[k].length + 1) ≤ kySum ks := by
        have h1 := kySum_take ks (k + 1)
        rw [List.take_succ_eq_append_getElem hlt] at h1
        rw [kySum_append, kySum_one] at h1
        exact h1
      have hla2 : (showO true (kids.take k) (ks.take k)).length ≤ 22 * szL (kids.take k) + 22 * kySum (ks.take k) := hla
      have hcl : (comB (k == 0)).length ≤ 1 := by cases (k == 0) <;> simp [comB]
      have hql := quoteL_len ks[k]
      have hwl : w0.heap.size ≤ wr.heap.size := Nat.le_trans HB.out.size hsz
      have hcm := comma_any w0.heap.size b k _ wr HW.out (by simp; omega) hwl
      have htk := showO_snoc kids[k] ks[k] true (kids.take k) (ks.take k) (by simp; omega)
      rw [← List.take_succ_eq_append_getElem hltk, ← List.take_succ_eq_append_getElem hlt, Bool.true_and, take_empty kids k hltk] at htk
      have HTK := Lib.hid htk
      have hqt := fun w3 (hb3 : Below w0.heap.size w0 w3) (hW3 : WIs w0.heap.size b (Lib.byteCells (acc ++ [123] ++ showO true (kids.take k) (ks.take k) ++ comB (k == 0))) w3) => quoted_any w0.heap.size b (acc ++ [123] ++ showO true (kids.take k) (ks.take k) ++ comB (k == 0)) ks[k] w3 (HC.out.below hb3) hW3 hvk (by omega) (by simp only [List.length_append, List.length_singleton]; omega) hb3.size
      have hby := fun w4 (hs4 : w0.heap.size ≤ w4.heap.size) (hW4 : WIs w0.heap.size b (Lib.byteCells (acc ++ [123] ++ showO true (kids.take k) (ks.take k) ++ comB (k == 0) ++ quoteL ks[k])) w4) => wbyte w0.heap.size b (Lib.byteCells (acc ++ [123] ++ showO true (kids.take k) (ks.take k) ++ comB (k == 0) ++ quoteL ks[k])) 58 w4 hW4 (by rw [Lib.byteCells_length]; simp only [List.length_append, List.length_singleton]; omega) hs4
      rw [cells_u8 _ 58 58 rfl] at hby
      have hvl := fun v w5 (hN : NIs ok h w0 kids[k] v) (hb5 : Below w0.heap.size w0 w5) (hW5 : WIs w0.heap.size b (Lib.byteCells (acc ++ [123] ++ showO true (kids.take k) (ks.take k) ++ comB (k == 0) ++ quoteL ks[k] ++ [58])) w5) => IH.out ok kids[k] v d b (acc ++ [123] ++ showO true (kids.take k) (ks.take k) ++ comB (k == 0) ++ quoteL ks[k] ++ [58]) w0 w5 hN hrk (by omega) HC.out hb5 hW5 (by
        simp only [List.length_append, List.length_singleton]; omega)
      have HV := Lib.hid hvl
      have HQT := Lib.hid hqt
      have HBY := Lib.hid hby
      have HKD := Lib.hid hkid
      obtain ⟨X, hX⟩ : ∃ X : ByteArray, (⟨ks[k].toArray⟩ : ByteArray) = X := ⟨_, rfl⟩
      have HX := Lib.hid hX
      rw [hX] at ck
      clear hrk hsk hla hla2 hsp hsq htk hmem hvl hqt hby hkid hcs hvk hky hX hcl hql
      go_upto_region 4 with fail
      go_wp2_with fail
      refine hcm.mono ?_
      rintro e w3 ⟨rfl, hW3, hb3, _⟩
      have HB3 : Hid (Below w0.heap.size w w3) := HBr.out.trans hb3
      have hq := HQT.out w3 (HB.out.trans HB3.out) hW3
      rw [HX.out] at hq
      clear hcm hW3 hb3 ck HQT
      go_wp2_with fail
      refine hq.mono ?_
      rintro e w4 ⟨rfl, hW4, hb4, _⟩
      have HB4 : Hid (Below w0.heap.size w w4) := HB3.out.trans hb4
      have hy := HBY.out w4 (Nat.le_trans HB.out.size HB4.out.size) hW4
      clear hq hW4 hb4 HBY
      go_wp2_with fail
      refine hy.mono ?_
      rintro e w5 ⟨rfl, hW5, hb5, _⟩
      have HB5 : Hid (Below w0.heap.size w w5) := HB4.out.trans hb5
      obtain ⟨bk, off, kk, kn, kt, kA, kl, kc, kB, km, kd, rfl, k0, k1, k2, k3, k4, hN⟩ := HKD.out w5 (HB.out.trans HB5.out)
      have hcall := HV.out _ w5 hN (HB.out.trans HB5.out) (.inr hW5)
      clear hy hW5 hb5 HKD HV hN
      go_wp2_with fail
      refine hcall.mono ?_
      rintro e w6 ⟨rfl, hW6, hb6⟩
      have HW6 : Hid (WIs w0.heap.size b (Lib.byteCells (acc ++ [123] ++ showO true (kids.take (k + 1)) (ks.take (k + 1)))) w6) := by
        show WIs _ _ _ _
        rw [HTK.out]
        simpa only [List.append_assoc, List.singleton_append, List.cons_append, List.nil_append] using hW6
      have HB6 : Hid (Below w0.heap.size w w6) := HB5.out.trans hb6
      clear hcall hW6 hb6 k0 k1 k2 k3 k4
      go_wp2
      go_roundw
      case rel => exact ⟨k + 1, by omega, by go_num, HW6, HB6⟩
      case measure => simp [intOf]; omega
    · obtain rfl : k = ks.length := by omega
      have hw := HW.out
      rw [List.take_length, HLE.out, List.take_length] at hw
      have hla := showO_len d kids true ks HRG.out
      have hla2 : (showO true kids ks).length ≤ 22 * szL kids + 22 * kySum ks := hla
      have hO := wbyte w0.heap.size b _ 125 wr hw (by rw [Lib.byteCells_length]; simp; omega) (Nat.le_trans HB.out.size hsz)
      rw [cells_u8 _ 125 125 rfl] at hO
      rw [show acc ++ [123] ++ showO true kids ks ++ [125] = acc ++ 123 :: (showO true kids ks ++ [125]) by simp] at hO
      clear hw hla hla2
      go_wp2_with fail
      refine hO.mono ?_
      rintro e w5 ⟨rfl, h1, h2, _⟩
      go_wp2
      go_end0
      exact ⟨rfl, .inr h1, HBr.out.trans h2⟩

set_option maxRecDepth 100000 in
set_option maxHeartbeats 4000000 in
theorem value_w : ∀ h : Nat, ValW h
  | 0 => fun _ _ _ _ _ _ _ _ hN => hN.elim
  | h + 1 => by
    intro ok t v d b acc w0 w hN hr hs hC hb hW hl
    have IH := value_w h
    obtain ⟨k, n, tx, ks, kids⟩ := t
    obtain ⟨kv, S, c1, rfl, hst, hK⟩ := hN
    obtain ⟨S1, c0, rfl, hst2⟩ := hst
    have hST : StrAt ok w0 (.slice S1 ks.length c0) ks := ⟨S1, c0, rfl, hst2⟩
    have HKW : Hid (KidsW ok h w0 S kids) := hK
    unfold rgt at hr
    obtain ⟨a1, a2, a3, a4, a5, a6, a7, a8, a9, a10, a11, a12, a13, a14⟩ := hr
    have hsz : 1 + tx.length + kySum ks + szL kids ≤ 200000 := hs
    have hszl : acc.length + 22 * (1 + tx.length + kySum ks + szL kids) ≤ 500000000 := hl
    show Calls _ _ #[_, .agg #[.int .i64 k, .int .i64 n, .string ⟨tx.toArray⟩, .slice S1 ks.length c0, .slice S kids.length c1]] w _
    have hB0 := hb.size
    have hWs := fun W (hbw : Below w.heap.size w W) (x : ByteArray) (hx : x.size ≤ 1000000) => wstring w0.heap.size b (Lib.byteCells acc) x W (hW.below hbw) (by rw [Lib.byteCells_length]; omega) (Nat.le_trans hB0 hbw.size)
    have HWS := Lib.hid hWs
    have HC := Lib.hid hC
    have HB := Lib.hid hb
    have HW := Lib.hid hW
    clear hWs hst2 hK hs hl hC hb hW
    have hk7 : k = 1 ∨ k = 2 ∨ k = 3 ∨ k = 4 ∨ k = 5 ∨ k = 6 ∨ k = 7 := by omega
    unfold showT
    rcases hk7 with rfl | rfl | rfl | rfl | rfl | rfl | rfl
    · rw [if_pos rfl]
      have hwd : w.cell? ⟨13, 1, none⟩ = some (.string ⟨wNull.toArray⟩) := (HC.out.below HB.out).wrd 1 (by omega)
      have hwa : ∀ o, (w.alloc o).cell? ⟨13, 1, none⟩ = some (.string ⟨wNull.toArray⟩) := fun o => ((al0 w o).cell (p := ⟨13, 1, none⟩) (World.block_lt_of_cell? w _ hwd)).trans hwd
      obtain ⟨Y, hY⟩ : ∃ Y : ByteArray, (⟨wNull.toArray⟩ : ByteArray) = Y := ⟨_, rfl⟩
      have hYs : Y.size ≤ 1000000 := by rw [← hY]; show wNull.toArray.size ≤ _; simp [wNull]
      have hYl : Y.data.toList = wNull := by rw [← hY]
      rw [hY] at hwa
      have hS := fun W hbw => HWS.out W hbw Y hYs
      rw [cells_str, hYl] at hS
      obtain ⟨X, hX⟩ : ∃ X : ByteArray, (⟨tx.toArray⟩ : ByteArray) = X := ⟨_, rfl⟩
      rw [hX]
      clear hX hY hYs hYl hwd a1 a2 a3 a4 a5 a6 a7 a8 a9 a10 a11 a12 a13 a14
      go_enter Tryd.func30, Tryd.ntmps30
      go_upto_region 2 with fail
      go_region_with (first | (go_at_call 46; refine (hS _ (by first | exact dr_one (al0 w _) | exact al0 w _)).mono ?_; rintro e w3 ⟨rfl, h1, h2, _⟩))
      go_wp2
      go_end0
      exact ⟨rfl, .inr h1, ((dr_one (al0 w _)).mono hB0).trans h2⟩
    · rw [if_neg (by decide), if_pos rfl]
      have hwd : w.cell? ⟨13, 2, none⟩ = some (.string ⟨wFalse.toArray⟩) := (HC.out.below HB.out).wrd 2 (by omega)
      have hwa : ∀ o, (w.alloc o).cell? ⟨13, 2, none⟩ = some (.string ⟨wFalse.toArray⟩) := fun o => ((al0 w o).cell (p := ⟨13, 2, none⟩) (World.block_lt_of_cell? w _ hwd)).trans hwd
      obtain ⟨Y, hY⟩ : ∃ Y : ByteArray, (⟨wFalse.toArray⟩ : ByteArray) = Y := ⟨_, rfl⟩
      have hYs : Y.size ≤ 1000000 := by rw [← hY]; show wFalse.toArray.size ≤ _; simp [wFalse]
      have hYl : Y.data.toList = wFalse := by rw [← hY]
      rw [hY] at hwa
      have hS := fun W hbw => HWS.out W hbw Y hYs
      rw [cells_str, hYl] at hS
      obtain ⟨X, hX⟩ : ∃ X : ByteArray, (⟨tx.toArray⟩ : ByteArray) = X := ⟨_, rfl⟩
      rw [hX]
      clear hX hY hYs hYl hwd a1 a2 a3 a4 a5 a6 a7 a8 a9 a10 a11 a12 a13 a14
      go_enter Tryd.func30, Tryd.ntmps30
      go_upto_region 2 with fail
      go_region_with (first | (go_at_call 46; refine (hS _ (by first | exact dr_one (al0 w _) | exact al0 w _)).mono ?_; rintro e w3 ⟨rfl, h1, h2, _⟩))
      go_wp2
      go_end0
      exact ⟨rfl, .inr h1, ((dr_one (al0 w _)).mono hB0).trans h2⟩
    · rw [if_neg (by decide), if_neg (by decide), if_pos rfl]
      have hwd : w.cell? ⟨13, 3, none⟩ = some (.string ⟨wTrue.toArray⟩) := (HC.out.below HB.out).wrd 3 (by omega)
      have hwa : ∀ o, (w.alloc o).cell? ⟨13, 3, none⟩ = some (.string ⟨wTrue.toArray⟩) := fun o => ((al0 w o).cell (p := ⟨13, 3, none⟩) (World.block_lt_of_cell? w _ hwd)).trans hwd
      obtain ⟨Y, hY⟩ : ∃ Y : ByteArray, (⟨wTrue.toArray⟩ : ByteArray) = Y := ⟨_, rfl⟩
      have hYs : Y.size ≤ 1000000 := by rw [← hY]; show wTrue.toArray.size ≤ _; simp [wTrue]
      have hYl : Y.data.toList = wTrue := by rw [← hY]
      rw [hY] at hwa
      have hS := fun W hbw => HWS.out W hbw Y hYs
      rw [cells_str, hYl] at hS
      obtain ⟨X, hX⟩ : ∃ X : ByteArray, (⟨tx.toArray⟩ : ByteArray) = X := ⟨_, rfl⟩
      rw [hX]
      clear hX hY hYs hYl hwd a1 a2 a3 a4 a5 a6 a7 a8 a9 a10 a11 a12 a13 a14
      go_enter Tryd.func30, Tryd.ntmps30
      go_upto_region 2 with fail
      go_region_with (first | (go_at_call 46; refine (hS _ (by first | exact dr_one (al0 w _) | exact al0 w _)).mono ?_; rintro e w3 ⟨rfl, h1, h2, _⟩))
      go_wp2
      go_end0
      exact ⟨rfl, .inr h1, ((dr_one (al0 w _)).mono hB0).trans h2⟩
    · rw [if_neg (by decide), if_neg (by decide), if_neg (by decide), if_pos rfl]
      have hI := fun W (hbw : Below w.heap.size w W) => itext_any n a7 a8 W (HC.out.below (HB.out.trans (hbw.mono hB0))).tab
      have hil := itoa_len20 a7 a8
      obtain ⟨Y, hY⟩ : ∃ Y : ByteArray, (⟨(Lib.itoa n).toArray⟩ : ByteArray) = Y := ⟨_, rfl⟩
      have hYs : Y.size ≤ 1000000 := by rw [← hY]; show (Lib.itoa n).toArray.size ≤ _; simp; omega
      have hYl : Y.data.toList = Lib.itoa n := by rw [← hY]
      rw [hY] at hI
      have hS := fun W hbw => HWS.out W hbw Y hYs
      rw [cells_str, hYl] at hS
      obtain ⟨X, hX⟩ : ∃ X : ByteArray, (⟨tx.toArray⟩ : ByteArray) = X := ⟨_, rfl⟩
      rw [hX]
      clear hX hY hYs hYl hil a1 a2 a3 a4 a5 a6 a7 a8 a9 a10 a11 a12 a13 a14
      go_enter Tryd.func30, Tryd.ntmps30
      go_upto_region 4 with fail
      go_region_with (first
        | (go_at_call 47; refine (hI _ (by first | exact dr_one (al0 w _) | exact al0 w _)).mono ?_; rintro e w2 ⟨rfl, hb2⟩; have HB2 : Hid (Below w.heap.size w w2) := (dr_one (al0 w _)).trans (hb2.mono (by simp)))
        | (go_at_call 46; refine (hS w2 HB2.out).mono ?_; rintro e w3 ⟨rfl, h1, h2, _⟩))
      go_wp2
      go_end0
      exact ⟨rfl, .inr h1, (HB2.out.mono hB0).trans h2⟩
    · rw [if_neg (by decide), if_neg (by decide), if_neg (by decide), if_neg (by decide), if_pos rfl]
      have hQ := fun W (hbw : Below w.heap.size w W) => quoted_any w0.heap.size b acc tx W (HC.out.below (HB.out.trans (hbw.mono hB0))) (HW.out.below hbw) a9 (by omega) (by omega) (Nat.le_trans hB0 hbw.size)
      obtain ⟨X, hX⟩ : ∃ X : ByteArray, (⟨tx.toArray⟩ : ByteArray) = X := ⟨_, rfl⟩
      rw [hX] at hQ ⊢
      clear hX a1 a2 a3 a4 a5 a6 a7 a8 a9 a10 a11 a12 a13 a14
      go_enter Tryd.func30, Tryd.ntmps30
      go_wp2_with fail
      refine (hQ _ (al0 w _)).mono ?_
      rintro e w2 ⟨rfl, h1, h2, _⟩
      go_wp2
      go_end0
      exact ⟨rfl, h1, ((al0 w _).mono hB0).trans h2⟩
    · rw [if_neg (by decide), if_neg (by decide), if_neg (by decide), if_neg (by decide), if_neg (by decide), if_pos rfl]
      have hQ := fun W (hbw : Below w.heap.size w W) => array_w h IH ok S c1 (d + 1) b kids acc w0 W HKW.out a14 (by omega) HC.out (HB.out.trans (hbw.mono hB0)) (HW.out.below hbw) (by omega)
      obtain ⟨X, hX⟩ : ∃ X : ByteArray, (⟨tx.toArray⟩ : ByteArray) = X := ⟨_, rfl⟩
      rw [hX]
      clear hX a1 a2 a3 a4 a5 a6 a7 a8 a9 a10 a11 a12 a13 a14 IH
      go_enter Tryd.func30, Tryd.ntmps30
      go_wp2_with fail
      refine (hQ _ (al0 w _)).mono ?_
      rintro e w2 ⟨rfl, h1, h2⟩
      go_wp2
      go_end0
      exact ⟨rfl, h1, ((al0 w _).mono hB0).trans h2⟩
    · rw [if_neg (by decide), if_neg (by decide), if_neg (by decide), if_neg (by decide), if_neg (by decide), if_neg (by decide)]
      have hQ := fun W (hbw : Below w.heap.size w W) => object_w h IH ok ok S1 S c0 c1 (d + 1) b ks kids acc w0 W hST HKW.out (a11 rfl) a12 a14 (by omega) HC.out (HB.out.trans (hbw.mono hB0)) (HW.out.below hbw) (by omega)
      obtain ⟨X, hX⟩ : ∃ X : ByteArray, (⟨tx.toArray⟩ : ByteArray) = X := ⟨_, rfl⟩
      rw [hX]
      clear hX a1 a2 a3 a4 a5 a6 a7 a8 a9 a10 a11 a12 a13 a14 IH hST
      go_enter Tryd.func30, Tryd.ntmps30
      go_wp2_with fail
      refine (hQ _ (al0 w _)).mono ?_
      rintro e w2 ⟨rfl, h1, h2⟩
      go_wp2
      go_end0
      exact ⟨rfl, h1, ((al0 w _).mono hB0).trans h2⟩

end Go.Proofs.YtlaagdpanbineaaDoor

