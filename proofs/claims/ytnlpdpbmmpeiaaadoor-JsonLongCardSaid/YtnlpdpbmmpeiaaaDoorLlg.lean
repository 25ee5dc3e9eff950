/- JsonLong's walks. -/
import Derived.Test.YtnlpdpbmmpeiaaaDoorLdp
import Derived.OwnWalk
import Derived.Laws.OwnMore
import Derived.Laws.BytesArg
namespace Go.Proofs.YtnlpdpbmmpeiaaaDoor
open Go.RowKit
open I2 (errVal errVal_some errVal_none)

theorem byteInfo : (Tryd.prog.info? 5).map (fun i => (i.zero, i.size, i.bytes)) = some (some (.int .u8 0), 1, 1) := by kernel_rfl
/-- bytes, cell by cell -/
def bv (l : List UInt8) : List Value := l.map fun c => .int .u8 (c.toNat : Int)
theorem bv_append (a b : List UInt8) : bv (a ++ b) = bv a ++ bv b := by simp [bv]
theorem bv_len (l : List UInt8) : (bv l).length = l.length := by simp [bv]
theorem bv_get (l : List UInt8) (j : Nat) (h : j < l.length) : (bv l)[j]? = some (.int .u8 (l[j].toNat : Int)) := by simp [bv, h]
theorem cv_bytes {w : World} {B n : Nat} {v : Value} {l : List UInt8} (h : w.ownsRow B 5 1 v n (bv l)) : Sem.run Tryd.prog (convert 39 9 v) w = .ok (.string ⟨l.toArray⟩) w := by
  have hlen := h.1
  rw [bv_len, Nat.mul_one] at hlen
  have hs : strOfNums (l.map fun c => (c.toNat : Int)) = ⟨l.toArray⟩ := by
    apply ba_eq
    rw [strOfNums_data, List.map_map]
    refine (List.map_congr_left fun c _ => ?_).trans (List.map_id l)
    simp
  rcases h.2 with ⟨rfl, rfl⟩ | ⟨g, cap, cur, rfl, hb, hg, hn, hc, hs2, ht⟩
  · have hx : l = [] := List.eq_nil_of_length_eq_zero (by omega)
    subst hx
    exact run_convert_bytes_nil (P := Tryd.prog) w 39 5 Tryd.underlying39 Tryd.underlying5 0 0 9 Tryd.underlying9
  · rw [← hs]
    refine run_convert_bytes_arg (P := Tryd.prog) w 39 5 Tryd.underlying39 Tryd.underlying5 g 0 n cap (l.map fun c => (c.toNat : Int)) (by rw [List.length_map]; exact hlen) (fun i hi => ?_) 9 Tryd.underlying9
    rw [Nat.zero_add, h.cellAt i (by omega), bv_get l i (by omega)]
    have h1 : i < l.length := by omega
    simp [List.getD, h1]

/-- a row of n bytes, the first k of them blanks -/
def rowB (n k : Nat) : List UInt8 := List.replicate k 32 ++ List.replicate (n - k) 0
theorem rowB_len {n k : Nat} (h : k ≤ n) : (rowB n k).length = n := by simp [rowB]; omega
theorem rowB_set {n k : Nat} (h : k < n) : (bv (rowB n k)).set k (.int .u8 32) = bv (rowB n (k + 1)) := by
  unfold rowB
  obtain ⟨m, hm⟩ : ∃ m, n - k = m + 1 := ⟨n - k - 1, by omega⟩
  rw [hm, show n - (k + 1) = m by omega, bv_append, bv_append, List.set_append_right _ _ (by rw [bv_len]; simp), bv_len, List.length_replicate, Nat.sub_self, List.replicate_succ]
  rw [show List.replicate (k + 1) (32 : UInt8) = List.replicate k 32 ++ [32] by rw [List.replicate_succ'], bv_append, List.append_assoc]
  rfl
theorem rowB_first {n : Nat} (h : 0 < n) : (bv (rowB n n)).set 0 (.int .u8 53) = bv (53 :: List.replicate (n - 1) 32) := by
  obtain ⟨m, rfl⟩ : ∃ m, n = m + 1 := ⟨n - 1, by omega⟩
  unfold rowB
  rw [Nat.sub_self, List.replicate_zero, List.append_nil, List.replicate_succ]
  rfl
theorem made_row (n : Nat) : (madeCells (Value.int .u8 0).cells (n * 1)).toList = bv (rowB n 0) := by
  show (madeCells #[Value.int .u8 0] (n * 1)).toList = _
  rw [toList_madeCells_one, Nat.mul_one]
  simp [rowB, bv]

/-- the text of k ones, not closed -/
def txtK : Nat → List UInt8
  | 0 => [91]
  | k + 1 => 91 :: 49 :: moreOnes k
theorem txtK_len : ∀ k, (txtK k).length ≤ 2 * k + 1
  | 0 => by simp [txtK]
  | k + 1 => by simp only [txtK, List.length_cons, moreOnes_len]; omega
theorem txtK_one : txtK 1 = txtK 0 ++ [49] := rfl
theorem txtK_more {k : Nat} (h : 0 < k) : txtK (k + 1) = txtK k ++ [44] ++ [49] := by
  obtain ⟨j, rfl⟩ : ∃ j, k = j + 1 := ⟨k - 1, by omega⟩
  show 91 :: 49 :: moreOnes (j + 1) = _
  rw [moreOnes_snoc]
  simp [txtK]

/-- the first branch: blanks behind a digit -/
structure LongB (g n k : Nat) (B : Nat) (w wr : World) : Prop where
  own : wr.ownsRow B 5 1 (.slice (some ⟨g, 0, none⟩) n n) n (bv (rowB n k))
  below : Below B w wr

theorem below_grown {B : Nat} {a b c : World} {r : Option Nat} (h : Below B a b) (hg : b.grownBy c r) (hB : B ≤ b.heap.size) (hr : ∀ g, r = some g → B ≤ g) : Below B a c := h.trans (below_of_gb hg hB hr)

theorem more_lt (z : Int) : -4 ≤ wrap64 (wrap64 ((IntKind.u64.wrap z).tmod 9) - 4) ∧ wrap64 (wrap64 ((IntKind.u64.wrap z).tmod 9) - 4) ≤ 4 := by
  have h : IntKind.u64.wrap z = z % 18446744073709551616 := by simp [IntKind.wrap, IntKind.signed, IntKind.bits]
  have h0 : 0 ≤ z % 18446744073709551616 := Int.emod_nonneg _ (by decide)
  rw [h, Int.tmod_eq_emod_of_nonneg h0]
  have h1 := Int.emod_nonneg (z % 18446744073709551616) (show (9 : Int) ≠ 0 by decide)
  have h2 := Int.emod_lt_of_pos (z % 18446744073709551616) (show (0 : Int) < 9 by decide)
  generalize z % 18446744073709551616 % 9 = y at h1 h2 ⊢
  have e : ∀ x : Int, -10 ≤ x → x ≤ 10 → wrap64 x = x := fun x _ _ => by unfold wrap64; omega
  rw [e y (by omega) (by omega), e (y - 4) (by omega) (by omega)]
  constructor <;> omega

/-- the answers' form of a number's node -/
theorem five_of {ok : Nat → Prop} {w : World} {k n kd nn : Int} {x : List UInt8} {A1 A2 : Option Addr} {l1 c1 l2 c2 : Nat} (h : NIs ok 33 w (.mk kd nn [] [] []) (.agg #[.int .i64 k, .int .i64 n, .string ⟨x.toArray⟩, .slice A1 l1 c1, .slice A2 l2 c2])) : n = nn := by
  obtain ⟨kv, S, c, hL, _⟩ := h
  simp only [litV, Value.agg.injEq, Array.mk.injEq, List.cons.injEq, Value.int.injEq, true_and] at hL
  exact hL.2.1

set_option maxRecDepth 100000 in
set_option maxHeartbeats 2000000 in
theorem long_b (a0 : Int) (w0 : (Lit.int .i64 a0).wf = true) (w : World) (A : Nat → Addr) (hC : Cond w A) :
    Calls Tryd.prog 6 #[.int .i64 a0, .bool true] w fun e w' => e = .returned (.bool true) ∧ Below w.heap.size w w' := by
  obtain ⟨i0, hi, hz0, hz1, hz2⟩ := info_parts byteInfo
  have hL := alive_any w A hC
  have HC := Lib.hid hC
  have hnl := fun (w : World) => @run_eql_nil_nil_at Tryd.prog w 31 (by kernel_rfl)
  clear hC w0
  go_enter Tryd.func6, Tryd.ntmps6
  go_wp2_with fail
  refine hL.mono ?_
  rintro e w1 ⟨rfl, hb1⟩
  have HB1 := Lib.hid hb1
  have HC1 := Lib.hid (HC.out.below hb1)
  clear hL hb1
  go_upto_region 3 with fail
  go_cut [0] (fun v wx => wx = w1 ∧ ∃ m : Int, v = .int .i64 m ∧ -4 ≤ m ∧ m ≤ 4)
  case first =>
    go_wp2
    go_meet
    exact ⟨rfl, _, rfl, more_lt a0⟩
  case rest =>
  obtain ⟨rfl, m, rfl, hm1, hm2⟩ := hcut
  obtain ⟨n, hn⟩ : ∃ n : Nat, (100000 : Int) + m = n := ⟨(100000 + m).toNat, by omega⟩
  have hn0 : 0 < n := by omega
  have hn1 : n ≤ 100004 := by omega
  obtain ⟨w2, hrun, hown2, hg2⟩ := run_make_full (P := Tryd.prog) wc wc.heap.size 39 5 i0 (.int .u8 0) 1 Tryd.underlying39 hi hz0 hz1 .i64 .i64 n (by rw [hz2]; omega) (by unfold maxLen; omega) (Nat.le_refl _)
  rw [made_row] at hown2
  have HLB : Hid (LongB wc.heap.size n 0 wc.heap.size wc w2) := ⟨hown2, below_of_gb hg2 (Nat.le_refl _) (fun g e => by cases e)⟩
  obtain ⟨g, hg⟩ : ∃ g, wc.heap.size = g := ⟨_, rfl⟩
  have HGG := Lib.hid hg
  have HNM := Lib.hid hn
  rw [hg] at hrun
  clear hown2 hg2
  go_wp2
  go_loopw [26] (fun i wr => ∃ k : Nat, k ≤ n ∧ i = .int .i64 k ∧ Hid (LongB wc.heap.size n k wc.heap.size wc wr)) (fun i _ => n - (intOf i).toNat)
  case atStart => exact ⟨0, Nat.zero_le _, rfl, HLB⟩
  case round =>
    obtain ⟨k, hk, rfl, HR⟩ := hrel
    by_cases hlt : k < n
    · have own := HR.out.own
      have ck : wr.cell? ⟨wc.heap.size, k, none⟩ = some _ := (own.cellAt k (by omega)).trans (bv_get _ k (by rw [rowB_len hk]; exact hlt))
      have fk := own.frozenAt k
      have hst := (own.stored k (.int .u8 32)).1
      rw [rowB_set hlt] at hst
      have HR2 : Hid (LongB wc.heap.size n (k + 1) wc.heap.size wc (wr.setCell ⟨wc.heap.size, k, none⟩ (.int .u8 32))) := ⟨hst, HR.out.below.setCell (Nat.le_refl _) _⟩
      rw [hg] at ck fk HR2
      clear own hst
      go_wp2
      go_roundw
      case rel => exact ⟨k + 1, by omega, by go_num, by rw [hg]; exact HR2⟩
      case measure => simp [intOf]; omega
    · obtain rfl : k = n := by omega
      have own := HR.out.own
      have ck : wr.cell? ⟨wc.heap.size, 0, none⟩ = some _ := (own.cellAt 0 (by omega)).trans (bv_get _ 0 (by rw [rowB_len (Nat.le_refl _)]; exact hn0))
      have fk := own.frozenAt 0
      have hst := (own.stored 0 (.int .u8 53)).1
      rw [rowB_first hn0] at hst
      have hcv := cv_bytes hst
      have HB3 : Hid (Below wc.heap.size wc (wr.setCell ⟨wc.heap.size, 0, none⟩ (.int .u8 53))) := HR.out.below.setCell (Nat.le_refl _) _
      rw [hg] at ck fk hcv HB3
      obtain ⟨S, hS⟩ : ∃ S : ByteArray, (⟨(53 :: List.replicate (k - 1) 32).toArray⟩ : ByteArray) = S := ⟨_, rfl⟩
      have hSl : S.data.toList = 53 :: List.replicate (k - 1) 32 := by rw [← hS]
      have hSs : S.size ≤ 200000 := by rw [← size_list, hSl]; simp; omega
      have hpt := long_bytes (k - 1)
      rw [← hSl] at hpt
      rw [hS] at hcv
      have hC3 := HC1.out.below (w' := wr.setCell ⟨g, 0, none⟩ (.int .u8 53)) (by rw [hg]; exact HB3.out)
      have HC3 := Lib.hid hC3
      have HSL := Lib.hid hSl
      clear own hst hS hSl hC3
      by_cases hm0 : 0 < m
      · rw [if_neg (by omega)] at hpt
        have hT := parse_bad S _ A HC3.out hSs hpt
        have q : decide ((0 : Int) < m) = true := decide_eq_true hm0
        clear hpt
        go_wp2_with fail
        refine hT.mono ?_
        rintro e w4 ⟨rfl, HB4⟩
        have HC4 := Lib.hid (HC3.out.below HB4.out)
        have hN := fun o => num_any A (w4.alloc o) (HC4.out.below ((Below.refl _ _).alloc (Nat.le_refl _) o)).n.errs 2 (by omega)
        clear hT
        go_wp2_with fail
        refine (hN _).mono ?_
        rintro e w5 ⟨rfl, hb5⟩
        go_wp2
        go_ret
        have h13 := HB1.out.trans ((HB3.out.mono (by have := HB1.out.size; omega)))
        have h14 := h13.trans (HB4.out.mono h13.size)
        exact ⟨rfl, (h14.alloc h14.size _).trans (hb5.mono (by simp; have := h14.size; omega))⟩
      · rw [if_pos (by omega)] at hpt
        have hT := parse_ok S _ A HC3.out hSs hpt
        have q : decide ((0 : Int) < m) = false := decide_eq_false hm0
        clear hpt
        go_wp2_with fail
        refine hT.mono ?_
        rintro e w4 ⟨kd, nn, tx, A1, l1, c1, A2, l2, c2, rfl, HN4, HB4⟩
        have hnn := five_of HN4.out
        subst hnn
        clear hT
        go_wp2
        go_ret
        have h13 := HB1.out.trans ((HB3.out.mono (by have := HB1.out.size; omega)))
        have h14 := h13.trans (HB4.out.mono h13.size)
        exact ⟨rfl, h14.alloc h14.size _⟩

/-- the second branch: a row of ones -/
structure LongV (k : Nat) (B : Nat) (v : Value) (w wr : World) : Prop where
  own : wr.ownsRow B 5 1 v (txtK k).length (bv (txtK k))
  below : Below B w wr

theorem news_byte (c : Int) : ∀ u ∈ [Value.int .u8 c], u.oneCell' = true := by
  intro u hu
  simp only [List.mem_cons, List.not_mem_nil, or_false] at hu
  rw [hu]; rfl

set_option maxRecDepth 100000 in
set_option maxHeartbeats 4000000 in
theorem long_v (a0 : Int) (w0 : (Lit.int .i64 a0).wf = true) (w : World) (A : Nat → Addr) (hC : Cond w A) :
    Calls Tryd.prog 6 #[.int .i64 a0, .bool false] w fun e w' => e = .returned (.bool true) ∧ Below w.heap.size w w' := by
  obtain ⟨i0, hi, hz0, hz1, hz2⟩ := info_parts byteInfo
  have hL := alive_any w A hC
  have HC := Lib.hid hC
  have hnl := fun (w : World) => @run_eql_nil_nil_at Tryd.prog w 31 (by kernel_rfl)
  clear hC w0
  go_enter Tryd.func6, Tryd.ntmps6
  go_wp2_with fail
  refine hL.mono ?_
  rintro e w1 ⟨rfl, hb1⟩
  have HB1 := Lib.hid hb1
  have HC1 := Lib.hid (HC.out.below hb1)
  clear hL hb1
  go_upto_region 3 with fail
  go_cut [0] (fun v wx => wx = w1 ∧ ∃ m : Int, v = .int .i64 m ∧ -4 ≤ m ∧ m ≤ 4)
  case first =>
    go_wp2
    go_meet
    exact ⟨rfl, _, rfl, more_lt a0⟩
  case rest =>
  obtain ⟨rfl, m, rfl, hm1, hm2⟩ := hcut
  obtain ⟨N, hN⟩ : ∃ N : Nat, (20000 : Int) + m - 1 = N := ⟨(20000 + m - 1).toNat, by omega⟩
  have hN0 : 1 ≤ N := by omega
  have hN1 : N ≤ 20003 := by omega
  go_upto_region 17 with (at_make; refine wpList_make_own _ rfl _ _ 39 rfl wc.heap.size 5 i0 (.int .u8 0) 1 Tryd.underlying39 hi hz0 hz1 .i64 .i64 _ 40020 rfl rfl rfl ?m1 ?m2 ?m3 ?_)
  case m1 => rw [hz2]; omega
  case m2 => unfold maxLen; omega
  case m3 => exact Nat.le_refl _
  intro w2 hown2 hg2
  have HB2 : Hid (Below wc.heap.size wc w2) := below_of_gb hg2 (Nat.le_refl _) (fun g e => by cases e)
  have hz2' := HB2.out.size
  clear hg2
  go_wp2_with (refine wpList_append_lies _ (by rfl) (.tmp 54) (.tmp 55) 39 (by rfl) wc.heap.size 5 i0 _ 1 1 Tryd.underlying39 hi hz0 hz1 hz2 (by rfl) (by decide) _ 0 [] (by rfl) (hown2.alloc _) ⟨w2.heap.size, 0, none⟩ 1 1 [.int .u8 91] (by rfl) rfl (World.news_of_block (heap_alloc_new w2 _)) (news_byte 91) (by decide) (by unfold maxLen; omega) (by omega) (by simp; omega) (w2.heap.size + 1) (by simp) ?_; intro g3 cap3 w3 hown3 hgrow3 hat3 hlt3)
  have HV : Hid (LongV 0 wc.heap.size (.slice (some ⟨g3, 0, none⟩) (0 + 1) cap3) wc w3) := by
    refine ⟨hown3, below_grown (HB2.out.alloc hz2' _) hgrow3 (by simp; omega) (fun g e => ?_)⟩
    exact (hown2.lt g e).1
  clear hown3 hgrow3 hat3 hlt3 hown2
  go_loopw [9, 60] (fun v i wr => ∃ k : Nat, k ≤ N ∧ i = .int .i64 k ∧ Hid (LongV k wc.heap.size v wc wr)) (fun _ i _ => N - (intOf i).toNat)
  case atStart => exact ⟨0, Nat.zero_le _, rfl, HV⟩
  case round =>
    obtain ⟨k, hk, rfl, HR⟩ := hrel
    rename_i v _
    have own := HR.out.own
    have hwz := HR.out.below.size
    have htl := txtK_len k
    have hob := own.lt
    have HOB := Lib.hid hob
    clear hob
    by_cases hlt : k < N
    · by_cases hk0 : k = 0
      · subst hk0
        have q : decide ((0 : Int) < ((0 : Nat) : Int)) = false := by simp
        go_wp2_with (refine wpList_append_lies _ (by rfl) (.tmp 68) (.tmp 69) 39 (by rfl) wc.heap.size 5 i0 _ 1 1 Tryd.underlying39 hi hz0 hz1 hz2 (by rfl) (by decide) _ (txtK 0).length (bv (txtK 0)) (by rfl) (own.alloc _) ⟨wr.heap.size, 0, none⟩ 1 1 [.int .u8 49] (by rfl) rfl (World.news_of_block (heap_alloc_new wr _)) (news_byte 49) (by decide) (by unfold maxLen; omega) (by omega) (by simp; omega) (wr.heap.size + 1) (by simp) ?_; intro g3 cap3 w3 hown3 hgrow3 hat3 hlt3)
        have HR2 : Hid (LongV 1 wc.heap.size (.slice (some ⟨g3, 0, none⟩) ((txtK 0).length + 1) cap3) wc w3) :=
          ⟨hown3, below_grown (HR.out.below.alloc hwz _) hgrow3 (by simp; omega) (fun g e => (HOB.out g e).1)⟩
        go_roundw
        case rel => exact ⟨1, by omega, by go_num, HR2⟩
        case measure => simp [intOf]; omega
      · have q : decide ((0 : Int) < (k : Int)) = true := decide_eq_true (by omega)
        have HTX := Lib.hid (txtK_more (k := k) (by omega))
        go_wp2_with (first
          | (refine wpList_append_lies _ (by rfl) (.tmp 65) (.tmp 66) 39 (by rfl) wc.heap.size 5 i0 _ 1 1 Tryd.underlying39 hi hz0 hz1 hz2 (by rfl) (by decide) _ (txtK k).length (bv (txtK k)) (by rfl) (own.alloc _) ⟨wr.heap.size, 0, none⟩ 1 1 [.int .u8 44] (by rfl) rfl (World.news_of_block (heap_alloc_new wr _)) (news_byte 44) (by decide) (by unfold maxLen; omega) (by omega) (by simp; omega) (wr.heap.size + 1) (by simp) ?_; intro g3 cap3 w3 hown3 hgrow3 hat3 hlt3)
          | (refine wpList_append_lies _ (by rfl) (.tmp 68) (.tmp 69) 39 (by rfl) wc.heap.size 5 i0 _ 1 1 Tryd.underlying39 hi hz0 hz1 hz2 (by rfl) (by decide) (.slice (some ⟨g3, 0, none⟩) ((txtK k).length + 1) cap3) ((txtK k).length + 1) (bv (txtK k) ++ [.int .u8 44]) (by rfl) (hown3.alloc _) ⟨w3.heap.size, 0, none⟩ 1 1 [.int .u8 49] (by rfl) rfl (World.news_of_block (heap_alloc_new w3 _)) (news_byte 49) (by decide) (by unfold maxLen; omega) (by omega) (by have := hgrow3.size; simp at this; simp; omega) (w3.heap.size + 1) (by simp) ?_; intro g4 cap4 w4 hown4 hgrow4 hat4 hlt4))
        have HR2 : Hid (LongV (k + 1) wc.heap.size (.slice (some ⟨g4, 0, none⟩) ((txtK k).length + 1 + 1) cap4) wc w4) := by
          have hb3 : Below wc.heap.size wc w3 := below_grown (HR.out.below.alloc hwz _) hgrow3 (by simp; omega) (fun g e => (HOB.out g e).1)
          have hz3 := hb3.size
          refine ⟨?_, below_grown (hb3.alloc hz3 _) hgrow4 (by simp; omega) (fun g e => (hown3.lt g e).1)⟩
          rw [HTX.out, bv_append, bv_append, List.length_append, List.length_append]
          exact hown4
        go_roundw
        case rel => exact ⟨k + 1, by omega, by go_num, HR2⟩
        case measure => simp [intOf]; omega
    · obtain rfl : k = N := by omega
      have hcv := cv_bytes own
      obtain ⟨S, hS⟩ : ∃ S : ByteArray, (⟨(txtK k).toArray⟩ : ByteArray) = S := ⟨_, rfl⟩
      have hSl : (S ++ ⟨#[93]⟩).data.toList = 91 :: 49 :: (moreOnes (k - 1) ++ [93]) := by
        obtain ⟨j, rfl⟩ : ∃ j, k = j + 1 := ⟨k - 1, by omega⟩
        rw [ba_app, ← hS]
        rfl
      have hSs : (S ++ ⟨#[93]⟩).size ≤ 200000 := by rw [← size_list, hSl]; simp [moreOnes_len]; omega
      have hSz : S.size ≤ 200000 := by have := hSs; rw [ByteArray.size_append] at this; omega
      have hpt := long_values k hN0 (by omega)
      rw [← hSl] at hpt
      rw [hS] at hcv
      have HB3 := Lib.hid HR.out.below
      have HC3 := Lib.hid (HC1.out.below HR.out.below)
      clear hS hSl own HR HOB HV
      by_cases hm0 : 0 < m
      · rw [if_neg (by omega)] at hpt
        have hT := parse_bad (S ++ ⟨#[93]⟩) _ A HC3.out hSs hpt
        have q : decide ((0 : Int) < m) = true := decide_eq_true hm0
        clear hpt
        go_wp2_with fail
        refine hT.mono ?_
        rintro e w4 ⟨rfl, HB4⟩
        have HC4 := Lib.hid (HC3.out.below HB4.out)
        have hNN := fun o => num_any A (w4.alloc o) (HC4.out.below ((Below.refl _ _).alloc (Nat.le_refl _) o)).n.errs 2 (by omega)
        clear hT
        go_wp2_with fail
        refine (hNN _).mono ?_
        rintro e w5 ⟨rfl, hb5⟩
        go_wp2
        go_ret
        have h13 := HB1.out.trans ((HB3.out.mono (by have := HB1.out.size; omega)))
        have h14 := h13.trans (HB4.out.mono h13.size)
        exact ⟨rfl, (h14.alloc h14.size _).trans (hb5.mono (by simp; have := h14.size; omega))⟩
      · rw [if_pos (by omega)] at hpt
        have hT := parse_ok (S ++ ⟨#[93]⟩) _ A HC3.out hSs hpt
        have q : decide ((0 : Int) < m) = false := decide_eq_false hm0
        have hcn : cnt (.mk 6 0 [] [] (List.replicate k oneV)) = 1 + k := by simp only [cnt, cntL_ones]
        have HCN := Lib.hid hcn
        have q2 : (((1 + k : Nat) : Int) == 20000 + m) = true := by simp; omega
        clear hpt hcn
        go_wp2_with fail
        refine hT.mono ?_
        rintro e w4 ⟨kd, nn, tx, A1, l1, c1, A2, l2, c2, rfl, HN4, HB4⟩
        have hD := fun o => count_any _ 33 _ _ (w4.alloc o) (HN4.out.below ((Below.refl _ _).alloc (Nat.le_refl _) o)) trivial (by rw [HCN.out]; omega)
        rw [HCN.out] at hD
        clear hT
        go_wp2_with fail
        refine (hD _).mono ?_
        rintro e w5 ⟨rfl, hb5⟩
        go_wp2
        go_ret
        have h13 := HB1.out.trans ((HB3.out.mono (by have := HB1.out.size; omega)))
        have h14 := h13.trans (HB4.out.mono h13.size)
        exact ⟨ret_bool (by simp; omega), (h14.alloc h14.size _).trans (hb5.mono (by simp; have := h14.size; omega))⟩

end Go.Proofs.YtnlpdpbmmpeiaaaDoor
