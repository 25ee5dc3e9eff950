/- ShowParts' walk. -/
import Derived.Test.YtlaagdpanbineaaDoorWg
import Derived.Test.YtlaagdpanbineaaDoorPz
import Derived.Test.YtlaagdpanbineaaDoorPo
namespace Go.Proofs.YtlaagdpanbineaaDoor
open Go.RowKit

theorem szL_bd (m : Nat) : ∀ l : List NT, (∀ t ∈ l, szT t ≤ m) → szL l ≤ m * l.length
  | [], _ => by simp [szL]
  | a :: l, h => by
    have h1 := h a (by simp)
    have h2 := szL_bd m l fun t ht => h t (by simp [ht])
    simp only [szL, List.length_cons, Nat.mul_add]; omega
theorem depL_bd (m : Nat) : ∀ l : List NT, (∀ t ∈ l, dep t ≤ m) → depL l ≤ m + 1
  | [], _ => by simp [depL]
  | a :: l, h => by
    have h1 := h a (by simp)
    have h2 := depL_bd m l fun t ht => h t (by simp [ht])
    simp only [depL]; omega
theorem parts_len {l : List NT} (h : ∀ t ∈ l, rgt 0 t ∧ szT t ≤ 300 ∧ dep t ≤ 20) (hl : l.length ≤ 30) : (showA true l).length ≤ 198000 := by
  have h1 := szL_bd 300 l fun t ht => (h t ht).2.1
  have h2 := showA_len 0 l true (rgtL_mem.2 fun t ht => (h t ht).1)
  omega
def PartOk (t : NT) : Prop := rgt 0 t ∧ szT t ≤ 300 ∧ dep t ≤ 20
theorem parts_rgt {l : List NT} (h : ∀ t ∈ l, PartOk t) : rgt 0 (.mk 6 0 [] [] l) :=
  rgt_arr (by omega) (rgtL_mem.2 fun t ht => rgt_shift t 0 1 (h t ht).1 (by have := (h t ht).2.2; omega))
theorem parts_sz {l : List NT} (h : ∀ t ∈ l, PartOk t) (hl : l.length ≤ 30) : szT (.mk 6 0 [] [] l) ≤ 9001 := by
  have := szL_bd 300 l fun t ht => (h t ht).2.1
  simp only [szT, List.length_nil, List.map_nil, List.sum_nil]; omega
theorem parts_text (l : List NT) : (⟨(showT (.mk 6 0 [] [] l)).toArray⟩ : ByteArray) = (⟨#[91]⟩ ++ ⟨(showA true l).toArray⟩) ++ ⟨#[93]⟩ := by
  apply ByteArray.ext
  simp [showT, ByteArray.data_append]
theorem part_first (l : List NT) (h : 0 < l.length) : (⟨(showA true (l.take 0)).toArray⟩ : ByteArray) ++ ⟨(showT l[0]).toArray⟩ = ⟨(showA true (l.take 1)).toArray⟩ := by
  have h1 : l.take 1 = [] ++ [l[0]] := by rw [← List.take_zero (l := l)]; exact List.take_succ_eq_append_getElem h
  rw [h1, showA_snoc]
  apply ByteArray.ext
  simp [showA, comB, ByteArray.data_append]
theorem part_next (l : List NT) (k : Nat) (h : k < l.length) (h0 : 0 < k) : ((⟨(showA true (l.take k)).toArray⟩ : ByteArray) ++ ⟨#[44]⟩) ++ ⟨(showT l[k]).toArray⟩ = ⟨(showA true (l.take (k + 1))).toArray⟩ := by
  rw [List.take_succ_eq_append_getElem h, showA_snoc, take_empty l k h]
  apply ByteArray.ext
  have hk : (k == 0) = false := by simp; omega
  simp [comB, hk, ByteArray.data_append]

/-- what ShowParts' row lists, at a world: the tables and texts, and the error that show.Text answers -/
structure CondP (w : World) (a : Addr) : Prop where
  e : CondE w
  ty : w.cell? ⟨5, 0, none⟩ = some (.iface 164 (.pointer (some a)))

set_option maxRecDepth 100000 in
set_option maxHeartbeats 4000000 in
theorem law_parts (w : World) (hC : CondE w) (a : Addr) (hE : w.cell? ⟨5, 0, none⟩ = some (.iface 164 (.pointer (some a)))) (S : Option Addr) (kids : List NT) (cap h : Nat)
    (hK : KidsAt (fun _ => True) h w S kids) (hall : ∀ t ∈ kids, okLen t ∧ okInt t) :
    Calls Tryd.prog 7 #[.slice S kids.length cap] w fun e w' => e = .returned (.bool true) ∧ Below w.heap.size w w' := by
  have hl0 := alive5_any w hC
  have HC := Lib.hid hC
  have HE := Lib.hid hE
  have HK := Lib.hid hK
  have HO := Lib.hid hall
  have hel := World.block_lt_of_cell? w _ hE
  clear hC hE hK hall
  go_enter Tryd.func7, Tryd.ntmps7
  go_wp2_with fail
  refine hl0.mono ?_
  rintro e w1 ⟨rfl, hb1⟩
  have HB1 := Lib.hid hb1
  clear hl0 hb1
  by_cases hlen : 30 < kids.length
  · have q : decide ((30 : Int) < (kids.length : Int)) = true := decide_eq_true (by omega)
    go_wp2
    go_ret
    exact ⟨rfl, HB1.out⟩
  have q : decide ((30 : Int) < (kids.length : Int)) = false := decide_eq_false (by omega)
  have hnl := fun (w : World) => @run_neq_nil_nil_at Tryd.prog w 31 (by kernel_rfl)
  have hne := fun (w : World) => @run_eql_nil_nil_at Tryd.prog w 31 (by kernel_rfl)
  have hnn := fun (w : World) (x : Value) => @run_neq_iface_nil Tryd.prog w 31 (by kernel_rfl) 164 x
  go_wp2
  go_loopw [3, 17] (fun s i wr => ∃ k : Nat, k ≤ kids.length ∧ i = .int .i64 k ∧ s = .string ⟨(showA true (kids.take k)).toArray⟩ ∧ Hid (∀ t ∈ kids.take k, PartOk t) ∧ Hid (Below w.heap.size w wr)) (fun _ i _ => kids.length - (intOf i).toNat)
  case atStart => exact ⟨0, Nat.zero_le _, rfl, by simp [showA], fun t ht => by simp at ht, HB1⟩
  case round =>
    obtain ⟨k, hkl, rfl, rfl, HG, HB⟩ := hrel
    by_cases hlt : k < kids.length
    · obtain ⟨b, off, rfl, hb0, hc⟩ : ∃ b off, S = some ⟨b, off, none⟩ ∧ b < w.heap.size ∧ ∀ j (hj : j < kids.length), ∃ c0 c1 c2 c3 c4,
          w.cell? ⟨b, off + 5 * j, none⟩ = some c0 ∧ w.cell? ⟨b, off + 5 * j + 1, none⟩ = some c1 ∧ w.cell? ⟨b, off + 5 * j + 2, none⟩ = some c2 ∧ w.cell? ⟨b, off + 5 * j + 3, none⟩ = some c3 ∧ w.cell? ⟨b, off + 5 * j + 4, none⟩ = some c4 ∧
          NIs (fun _ => True) h w kids[j] (.agg #[c0, c1, c2, c3, c4]) := by
        rcases HK.out with e | ⟨b, off, e, _, h1, h2⟩
        · rw [e] at hlt; simp at hlt
        · exact ⟨b, off, e, h1, h2⟩
      obtain ⟨x0, x1, x2, x3, x4, e0, e1, e2, e3, e4, hNk⟩ := hc k hlt
      obtain ⟨kk, n2, t2, S3, l3, m3, S4, l4, m4, hv⟩ := hNk.nd
      simp only [Value.agg.injEq, Array.mk.injEq, List.cons.injEq, and_true] at hv
      obtain ⟨rfl, rfl, rfl, rfl, rfl⟩ := hv
      have hcell : ∀ {j : Nat} {x : Value}, w.cell? ⟨b, off + 5 * k + j, none⟩ = some x → wr.cell? ⟨b, off + k * 5 + j, none⟩ = some x := fun {j x} hx => by
        rw [show off + k * 5 + j = off + 5 * k + j by omega]
        exact (HB.out.cell (p := ⟨b, off + 5 * k + j, none⟩) hb0).trans hx
      have f0 : wr.cell? ⟨b, off + k * 5, none⟩ = _ := hcell (j := 0) e0
      have f1 := hcell e1
      have f2 := hcell e2
      have f3 := hcell e3
      have f4 := hcell e4
      have HNk := Lib.hid hNk
      have hmem : kids[k] ∈ kids := List.getElem_mem hlt
      have hO1 := Lib.hid (HO.out _ hmem)
      clear e0 e1 e2 e3 e4 hc hcell hNk hmem
      go_upto_region 9 with fail
      refine wp_gen (fun w2 => Hid (Below w.heap.size w w2) ∧ Hid (Blk w2 wr.heap.size (.int .i64 kk) (.int .i64 n2) (.string ⟨t2.toArray⟩) (.slice S3 l3 m3) (.slice S4 l4 m4)) ∧ Hid (NIs (fun _ => True) h w2 kids[k] (.agg #[.int .i64 kk, .int .i64 n2, .string ⟨t2.toArray⟩, .slice S3 l3 m3, .slice S4 l4 m4]))) ⟨HB.out.alloc HB.out.size _, heap_alloc_new wr _, HNk.out.below (HB.out.alloc HB.out.size _)⟩ ?_
      rintro w2 ⟨HB2, HX2, HN2⟩
      clear f0 f1 f2 f3 f4
      have hx2 := HX2.out.lt
      have u0 := HX2.out.cell 0 (by omega)
      have u1 := HX2.out.cell 1 (by omega)
      have u2 := HX2.out.cell 2 (by omega)
      have u3 := HX2.out.cell 3 (by omega)
      have u4 := HX2.out.cell 4 (by omega)
      have hT := size2_any h (fun _ => True) kids[k] _ w2 300 0 HN2.out hO1.out.1 (by omega) (by omega)
      go_wp2_with fail
      refine hT.mono ?_
      rintro e w3 ⟨⟨z, rfl, z0, z1, hz⟩, hb3⟩
      have HB3 : Hid (Below w.heap.size w w3) := HB2.out.trans (hb3.mono HB2.out.size)
      have HX3 : Hid (Blk w3 wr.heap.size (.int .i64 kk) (.int .i64 n2) (.string ⟨t2.toArray⟩) (.slice S3 l3 m3) (.slice S4 l4 m4)) := (hb3.block _ hx2).trans HX2.out
      have HN3 := Lib.hid (HN2.out.below hb3)
      clear hT hb3 u0 u1 u2 u3 u4 HX2 HN2
      by_cases hz3 : 300 < z
      · have q : decide (300 < z) = true := decide_eq_true hz3
        go_wp2
        go_ret
        exact ⟨rfl, HB3.out⟩
      have q : decide (300 < z) = false := decide_eq_false hz3
      have hsz : szT kids[k] ≤ 300 := by have := hz (by omega); omega
      have hcs := cnt_szT kids[k]
      have hdc := dep_cnt kids[k]
      clear hz
      have hx3 := HX3.out.lt
      have u0 := HX3.out.cell 0 (by omega)
      have u1 := HX3.out.cell 1 (by omega)
      have u2 := HX3.out.cell 2 (by omega)
      have u3 := HX3.out.cell 3 (by omega)
      have u4 := HX3.out.cell 4 (by omega)
      have hD := rdepth_any (fun _ => True) h kids[k] _ w3 HN3.out (by omega) (by omega)
      go_wp2_with fail
      refine hD.mono ?_
      rintro e w4 ⟨rfl, hb4⟩
      have HB4 : Hid (Below w.heap.size w w4) := HB3.out.trans (hb4.mono HB3.out.size)
      have HX4 : Hid (Blk w4 wr.heap.size (.int .i64 kk) (.int .i64 n2) (.string ⟨t2.toArray⟩) (.slice S3 l3 m3) (.slice S4 l4 m4)) := (hb4.block _ hx3).trans HX3.out
      have HN4 := Lib.hid (HN3.out.below hb4)
      clear hD hb4 u0 u1 u2 u3 u4 HX3 HN3
      by_cases hd3 : 20 < dep kids[k]
      · have q : decide ((20 : Int) < (dep kids[k] : Int)) = true := decide_eq_true (by omega)
        go_wp2
        go_ret
        exact ⟨rfl, HB4.out⟩
      have q : decide ((20 : Int) < (dep kids[k] : Int)) = false := decide_eq_false (by omega)
      have hx4 := HX4.out.lt
      have u0 := HX4.out.cell 0 (by omega)
      have u1 := HX4.out.cell 1 (by omega)
      have u2 := HX4.out.cell 2 (by omega)
      have u3 := HX4.out.cell 3 (by omega)
      have u4 := HX4.out.cell 4 (by omega)
      by_cases hr : rgt 0 kids[k]
      · have t1 := Text_yes h _ kids[k] _ w4 HN4.out hr (by omega) (by omega) hO1.out.2 (HC.out.below HB4.out)
        have HP : Hid (PartOk kids[k]) := ⟨hr, hsz, by omega⟩
        have HPF := Lib.hid (part_first kids)
        have HPN := Lib.hid (part_next kids k hlt)
        have lT := show_len 0 kids[k] hr
        have lA := parts_len HG.out (by rw [List.length_take]; omega)
        clear hr
        go_wp2_with fail
        refine t1.mono ?_
        rintro e w5 ⟨rfl, hb5⟩
        have HB5 : Hid (Below w.heap.size w w5) := HB4.out.trans (hb5.mono HB4.out.size)
        have HG5 : Hid (∀ t ∈ kids.take (k + 1), PartOk t) := by
          show ∀ t ∈ kids.take (k + 1), PartOk t
          rw [List.take_succ_eq_append_getElem hlt]
          intro t ht
          rcases List.mem_append.1 ht with e | e
          · exact HG.out t e
          · rw [List.mem_singleton.1 e]; exact HP.out
        clear t1 hb5 u0 u1 u2 u3 u4 HX4 HN4
        by_cases h0 : 0 < k
        · have q : decide ((0 : Int) < (k : Int)) = true := decide_eq_true (by omega)
          go_wp2
          all_goals (try (exfalso; omega))
          go_roundw
          case rel => exact ⟨k + 1, by omega, by go_num, congrArg Value.string (HPN.out h0), HG5, HB5⟩
          case measure => simp [intOf]; omega
        · obtain rfl : k = 0 := by omega
          have q : decide ((0 : Int) < ((0 : Nat) : Int)) = false := by decide
          go_wp2
          all_goals (try (exfalso; simp at lA; omega))
          go_roundw
          case rel => exact ⟨1, by omega, by go_num, congrArg Value.string (HPF.out hlt), HG5, HB5⟩
          case measure => simp [intOf]; omega
      · have t1 := Text_no h _ kids[k] _ w4 a HN4.out (fun h => hr h.1) (by omega) hO1.out.2 (HC.out.below HB4.out) ((HB4.out.cell (p := ⟨5, 0, none⟩) hel).trans HE.out)
        go_wp2_with fail
        refine t1.mono ?_
        rintro e w5 ⟨rfl, hb5⟩
        have HB5 : Hid (Below w.heap.size w w5) := HB4.out.trans (hb5.mono HB4.out.size)
        clear t1 hb5 u0 u1 u2 u3 u4 HX4 HN4
        go_wp2
        go_ret
        exact ⟨rfl, HB5.out⟩
    · obtain rfl : k = kids.length := by omega
      have hP : ∀ t ∈ kids, PartOk t := by
        have := HG.out
        rwa [List.take_length] at this
      have lA := parts_len hP (by omega)
      have hs := parts_sz hP (by omega)
      have hct := cnt_szT (.mk 6 0 [] [] kids)
      have hN : NIs (fun _ => True) (h + 1) wr (.mk 6 0 [] [] kids) (.agg #[.int .i64 6, .int .i64 0, .string ⟨#[]⟩, .slice none 0 0, .slice S kids.length cap]) :=
        ⟨.slice none 0 0, S, cap, rfl, ⟨none, 0, rfl, .inl rfl⟩, HK.out.below HB.out⟩
      have hoi : okInt (.mk 6 0 [] [] kids) := by
        unfold okInt
        exact ⟨by omega, by omega, okIntL_of fun t ht => (HO.out t ht).2⟩
      have t1 := Text_yes (h + 1) _ _ _ wr hN (parts_rgt hP) (by omega) (by omega) hoi (HC.out.below HB.out)
      rw [parts_text] at t1
      rw [List.take_length]
      clear hP hs hct hN hoi
      go_wp2_with fail
      refine t1.mono ?_
      rintro e w5 ⟨rfl, hb5⟩
      have HB5 : Hid (Below w.heap.size w w5) := HB.out.trans (hb5.mono HB.out.size)
      clear t1 hb5
      go_wp2
      all_goals (try (exfalso; omega))
      go_ret
      exact ⟨rfl, HB5.out⟩

end Go.Proofs.YtlaagdpanbineaaDoor
