/- the document's text of a right value: what it is. -/
import Derived.Test.YtlaagdpanbineaaGreatDoorRp
import Derived.Test.YtlaagdpanbineaaGreatDoorRx
import Derived.Test.YtlaagdpanbineaaGreatDoorWr
import Derived.Test.YtlaagdpanbineaaGreatDoorSa
import Derived.Test.YtlaagdpanbineaaGreatDoorRgc
import Derived.Deep.DeepCutAuto
namespace Go.Proofs.YtlaagdpanbineaaGreatDoor
open Go.RowKit

/-- the text of the first k kids -/
def sA (kids : List NT) (k : Nat) : ByteArray := ⟨(showA true (kids.take k)).toArray⟩
def sO (kids : List NT) (ks : List (List UInt8)) (k : Nat) : ByteArray := ⟨(showO true (kids.take k) (ks.take k)).toArray⟩
theorem sA_first (l : List NT) (h : 0 < l.length) : sA l 0 ++ ⟨(showT l[0]).toArray⟩ = sA l 1 := by
  unfold sA
  have h1 : l.take 1 = [] ++ [l[0]] := by rw [← List.take_zero (l := l)]; exact List.take_succ_eq_append_getElem h
  rw [h1, showA_snoc]
  apply ByteArray.ext
  simp [showA, comB, ByteArray.data_append]
theorem sA_next (l : List NT) (k : Nat) (h : k < l.length) (h0 : k ≠ 0) : (sA l k ++ ⟨#[44]⟩) ++ ⟨(showT l[k]).toArray⟩ = sA l (k + 1) := by
  unfold sA
  rw [List.take_succ_eq_append_getElem h, showA_snoc, take_empty l k h]
  apply ByteArray.ext
  have hk : (k == 0) = false := by simp; omega
  simp [comB, hk, ByteArray.data_append]
theorem sO_first (l : List NT) (ks : List (List UInt8)) (h : 0 < l.length) (h2 : 0 < ks.length) : sO l ks 0 ++ (⟨(quoteL ks[0]).toArray⟩ ++ ⟨#[58]⟩) ++ ⟨(showT l[0]).toArray⟩ = sO l ks 1 := by
  unfold sO
  have h1 : l.take 1 = [] ++ [l[0]] := by rw [← List.take_zero (l := l)]; exact List.take_succ_eq_append_getElem h
  have h3 : ks.take 1 = [] ++ [ks[0]] := by rw [← List.take_zero (l := ks)]; exact List.take_succ_eq_append_getElem h2
  rw [h1, h3, showO_snoc _ _ _ _ _ rfl]
  apply ByteArray.ext
  simp [showO, comB, ByteArray.data_append]
theorem sO_next (l : List NT) (ks : List (List UInt8)) (k : Nat) (h : k < l.length) (h2 : k < ks.length) (hl : ks.length = l.length) (h0 : k ≠ 0) : (sO l ks k ++ ⟨#[44]⟩) ++ (⟨(quoteL ks[k]).toArray⟩ ++ ⟨#[58]⟩) ++ ⟨(showT l[k]).toArray⟩ = sO l ks (k + 1) := by
  unfold sO
  rw [List.take_succ_eq_append_getElem h, List.take_succ_eq_append_getElem h2, showO_snoc _ _ _ _ _ (by simp [hl]), take_empty l k h]
  apply ByteArray.ext
  have hk : (k == 0) = false := by simp; omega
  simp [comB, hk, ByteArray.data_append]
theorem szL_tk (l : List NT) (k : Nat) : szL (l.take k) ≤ szL l := by
  conv => rhs; rw [← List.take_append_drop k l, szL_append]
  omega
theorem rgtL_tk {d : Nat} {l : List NT} (h : rgtL d l) (k : Nat) : rgtL d (l.take k) := rgtL_mem.2 fun t ht => rgtL_mem.1 h t (List.mem_of_mem_take ht)
theorem kys_take (ks : List (List UInt8)) (k : Nat) : ((ks.take k).map fun x => x.length + 1).sum ≤ (ks.map fun x => x.length + 1).sum := by
  conv => rhs; rw [← List.take_append_drop k ks, List.map_append, List.sum_append]
  omega
theorem sA_size {d : Nat} {l : List NT} (h : rgtL d l) (k : Nat) : (sA l k).size ≤ 22 * szL l := by
  have h1 := showA_len d (l.take k) true (rgtL_tk h k)
  have h2 := szL_tk l k
  show (showA true (l.take k)).toArray.size ≤ _
  rw [List.size_toArray]
  omega
theorem key_le2 {ks : List (List UInt8)} {x : List UInt8} (h : x ∈ ks) : x.length + 1 ≤ (ks.map fun k => k.length + 1).sum := by
  induction ks with
  | nil => simp at h
  | cons a l ih =>
    simp only [List.map_cons, List.sum_cons]
    rcases List.mem_cons.1 h with e | e
    · rw [e]; omega
    · have := ih e; omega
theorem quote_len22 (x : List UInt8) : (quoteL x).length ≤ 22 * (x.length + 1) := by
  have := quoteL_len x
  omega
theorem sO_size {d : Nat} {l : List NT} {ks : List (List UInt8)} (h : rgtL d l) (k : Nat) : (sO l ks k).size ≤ 22 * szL l + 22 * (ks.map fun x => x.length + 1).sum := by
  have h1 := showO_len d (l.take k) true (ks.take k) (rgtL_tk h k)
  have h2 := szL_tk l k
  have h3 := kys_take ks k
  show (showO true (l.take k) (ks.take k)).toArray.size ≤ _
  rw [List.size_toArray]
  omega
theorem beq_no {k n : Int} (h : k ≠ n) : (k == n) = false := by rw [beq_eq_false_iff_ne]; exact h
theorem itoa_any (n : Int) (w : World) (h0 : -9223372036854775808 ≤ n) (h1 : n ≤ 9223372036854775807) :
    Calls Tryz.prog 26 #[.int .i64 n] w fun e w' => e = .returned (.string ⟨(Lib.itoa n).toArray⟩) ∧ Below w.heap.size w w' := by
  by_cases h : n < 0
  · exact I2.rtext_neg n h h0 w
  · exact I2.rtext_pos n (by omega) h1 w

def RtC (h : Nat) : Prop := ∀ (ok : Nat → Prop) (t : NT) (v : Value) (d : Nat) (w : World), NIs ok h w t v → rgt d t → szT t ≤ 200000 →
    Calls Tryz.prog 15 #[v] w fun e w' => e = .returned (.string ⟨(showT t).toArray⟩) ∧ Below w.heap.size w w'

set_option maxRecDepth 100000 in
set_option maxHeartbeats 16000000 in
theorem rtext5_any : ∀ h : Nat, RtC h
  | 0 => fun _ _ _ _ _ hN _ _ => hN.elim
  | h + 1 => by
    rintro ok ⟨kd, nn, tx, ks, kids⟩ v d w hN hr hs
    have IH := Lib.hid (rtext5_any h)
    obtain ⟨kv, S, c1, rfl, ⟨S1, c0, rfl, hst⟩, hk⟩ := hN
    have hr0 := hr
    unfold rgt at hr
    obtain ⟨a1, a2, a3, a4, a5, a6, a7, a8, a9, a10, a11, a12, a13, a14⟩ := hr
    unfold szT at hs
    have hlen := len_szL kids
    have hlen2 : kids.length ≤ 1000000 := by omega
    have htl : tx.length ≤ 200000 := by omega
    have HR := Lib.hid a14
    have HS := Lib.hid hs
    have HST := Lib.hid hst
    have HK : Hid (KidsAt ok h w S kids) := hk
    have HKV := Lib.hid a12
    have HTX := Lib.hid a9
    have HL := Lib.hid a11
    show Calls _ _ #[.agg #[.int .i64 kd, .int .i64 nn, .string ⟨tx.toArray⟩, .slice S1 ks.length c0, .slice S kids.length c1]] w _
    have hkd : kd = 1 ∨ kd = 2 ∨ kd = 3 ∨ kd = 4 ∨ kd = 5 ∨ kd = 6 ∨ kd = 7 := by omega
    clear hk hr0 hs hst a1 a2 a3 a4 a5 a6 a9 a10 a11 a12 a13 a14 hlen
    obtain ⟨Y, hY⟩ : ∃ Y, (⟨tx.toArray⟩ : ByteArray) = Y := ⟨_, rfl⟩
    rw [hY]
    rcases hkd with rfl | rfl | rfl | rfl | rfl | rfl | rfl
    · clear hY
      go_enter Tryz.func15, Tryz.ntmps15
      go_wp2
      go_ret
      exact ⟨rfl, al0 w _⟩
    · clear hY
      go_enter Tryz.func15, Tryz.ntmps15
      go_wp2
      go_ret
      exact ⟨rfl, al0 w _⟩
    · clear hY
      go_enter Tryz.func15, Tryz.ntmps15
      go_wp2
      go_ret
      exact ⟨rfl, al0 w _⟩
    · clear hY
      have hq := fun w => itoa_any nn w a7 a8
      clear a7 a8
      go_enter Tryz.func15, Tryz.ntmps15
      go_wp2_with (go_at_call 26; refine (hq _).mono ?_; rintro e w2 ⟨rfl, hb⟩)
      go_ret
      exact ⟨rfl, (al0 w _).trans (hb.mono (al0 w _).size)⟩
    · have hq := fun w => rquote_good Y w (by rw [← hY, ← size_list]; exact htl) (by rw [← hY]; exact HTX.out)
      have HQ : Hid ((⟨(quoteL Y.data.toList).toArray⟩ : ByteArray) = ⟨(showT (.mk 5 nn tx ks kids)).toArray⟩) := by
        refine Lib.hid ?_
        rw [← hY]
        simp [showT]
      obtain ⟨Z, hZ⟩ : ∃ Z : ByteArray, (⟨(quoteL Y.data.toList).toArray⟩ : ByteArray) = Z := ⟨_, rfl⟩
      simp only [rquoteV] at hq
      rw [hZ] at hq HQ
      clear hY hZ
      go_enter Tryz.func15, Tryz.ntmps15
      go_wp2_with (go_at_call 27; refine (hq _).mono ?_; rintro e w2 ⟨rfl, hb⟩)
      go_ret
      exact ⟨by rw [← HQ.out]; rfl, (al0 w _).trans (hb.mono (al0 w _).size)⟩
    · -- an Array
      clear hY
      go_enter Tryz.func15, Tryz.ntmps15
      go_upto_region 1 with fail
      refine wp_gen (fun w1 => Hid (Below w.heap.size w w1) ∧ Hid (Blk w1 w.heap.size (.int .i64 6) (.int .i64 nn) (.string Y) (.slice S1 ks.length c0) (.slice S kids.length c1))) ⟨al0 w _, heap_alloc_new w _⟩ ?_
      intro w1 ⟨HB1, HX1⟩
      have x0 := HX1.out.cell 0 (by omega)
      have x4 := HX1.out.cell 4 (by omega)
      go_wp2
      clear x0 x4
      go_loopw [5, 6, 7, 8, 9, 35] (fun s _ _ _ _ i wr => ∃ (k : Nat) (X : ByteArray), k ≤ kids.length ∧ i = .int .i64 k ∧ s = .string X ∧ Hid (X = sA kids k) ∧ Hid (Below w.heap.size w wr) ∧ Hid (Blk wr w.heap.size (.int .i64 6) (.int .i64 nn) (.string Y) (.slice S1 ks.length c0) (.slice S kids.length c1))) (fun _ _ _ _ _ i _ => kids.length - (intOf i).toNat)
      case atStart => exact ⟨0, _, Nat.zero_le _, rfl, rfl, rfl, HB1, HX1⟩
      case round =>
        clear HB1 HX1
        obtain ⟨k, X, hkl, rfl, rfl, HXS, HB, HX⟩ := hrel
        have hXs : X.size ≤ 4400000 := by
          have := sA_size HR.out k
          have h2 := HS.out
          rw [HXS.out]; omega
        by_cases hlt : k < kids.length
        · obtain ⟨b1, e1, rfl, hb1, kk, n3, t, S3, l3, m3, S4, l4, m4, f0, f1, f2, f3, f4, hN1⟩ := kid_at HK.out HB.out hlt
          have HN1 := Lib.hid hN1
          clear hN1
          go_upto_region 17 with fail
          refine wp_gen (fun w2 => Hid (Below w.heap.size w w2) ∧ Hid (Blk w2 wr.heap.size (.int .i64 kk) (.int .i64 n3) (.string ⟨t.toArray⟩) (.slice S3 l3 m3) (.slice S4 l4 m4)) ∧ Hid (NIs ok h w2 kids[k] (.agg #[.int .i64 kk, .int .i64 n3, .string ⟨t.toArray⟩, .slice S3 l3 m3, .slice S4 l4 m4])) ∧ Hid (Blk w2 w.heap.size (.int .i64 6) (.int .i64 nn) (.string Y) (.slice S1 ks.length c0) (.slice (some ⟨b1, e1, none⟩) kids.length c1))) ⟨HB.out.alloc HB.out.size _, heap_alloc_new wr _, HN1.out.below (al0 wr _), ?_⟩ ?_
          · exact (Below.heap_alloc _ _ _ HX.out.lt).trans HX.out
          rintro w2 ⟨HB2, HX2, HN2, HX3⟩
          clear f0 f1 f2 f3 f4 HN1 HB HX
          have u0 := HX2.out.cell 0 (by omega)
          have u1 := HX2.out.cell 1 (by omega)
          have u2 := HX2.out.cell 2 (by omega)
          have u3 := HX2.out.cell 3 (by omega)
          have u4 := HX2.out.cell 4 (by omega)
          have y0 := HX3.out.cell 0 (by omega)
          have hT := IH.out ok kids[k] _ (d + 1) w2 HN2.out (rgtL_mem.1 HR.out _ (List.getElem_mem hlt)) (by have := szL_mem (List.getElem_mem hlt); have h2 := HS.out; omega)
          obtain ⟨U, hU⟩ : ∃ U : ByteArray, (⟨(showT kids[k]).toArray⟩ : ByteArray) = U := ⟨_, rfl⟩
          have hUs : U.size ≤ 4400000 := by
            have h1 := show_len (d + 1) kids[k] (rgtL_mem.1 HR.out _ (List.getElem_mem hlt))
            have h2 := szL_mem (List.getElem_mem hlt)
            have h3 := HS.out
            rw [← hU]
            show (showT kids[k]).toArray.size ≤ _
            rw [List.size_toArray]
            omega
          rw [hU] at hT
          have HU := Lib.hid hU
          clear hU
          by_cases h0 : k = 0
          · have q : decide (0 < k) = false := decide_eq_false (by omega)
            have HN : Hid (X ++ U = sA kids (k + 1)) := by
              refine Lib.hid ?_
              subst h0
              rw [HXS.out, ← HU.out]
              exact sA_first kids hlt
            clear h0
            go_wp2_with fail
            all_goals (try (exfalso; omega))
            refine hT.mono ?_
            rintro e w3 ⟨rfl, hb3⟩
            have HB3 : Hid (Below w.heap.size w w3) := HB2.out.trans (hb3.mono HB2.out.size)
            have HX4 : Hid (Blk w3 w.heap.size (.int .i64 6) (.int .i64 nn) (.string Y) (.slice S1 ks.length c0) (.slice (some ⟨b1, e1, none⟩) kids.length c1)) := (hb3.block _ HX3.out.lt).trans HX3.out
            clear hT hb3 u0 u1 u2 u3 u4 y0 HX2 HN2 HX3 HB2
            go_wp2
            all_goals (try (exfalso; omega))
            go_roundw
            case rel => exact ⟨k + 1, X ++ U, by omega, by go_num, rfl, HN, HB3, HX4⟩
            case measure => simp [intOf]; omega
          · have q : decide (0 < k) = true := decide_eq_true (by omega)
            have HN : Hid ((X ++ ⟨#[44]⟩) ++ U = sA kids (k + 1)) := by
              refine Lib.hid ?_
              rw [HXS.out, ← HU.out]
              exact sA_next kids k hlt h0
            clear h0
            go_wp2_with fail
            all_goals (try (exfalso; omega))
            refine hT.mono ?_
            rintro e w3 ⟨rfl, hb3⟩
            have HB3 : Hid (Below w.heap.size w w3) := HB2.out.trans (hb3.mono HB2.out.size)
            have HX4 : Hid (Blk w3 w.heap.size (.int .i64 6) (.int .i64 nn) (.string Y) (.slice S1 ks.length c0) (.slice (some ⟨b1, e1, none⟩) kids.length c1)) := (hb3.block _ HX3.out.lt).trans HX3.out
            clear hT hb3 u0 u1 u2 u3 u4 y0 HX2 HN2 HX3 HB2
            go_wp2
            all_goals (try (exfalso; omega))
            go_roundw
            case rel => exact ⟨k + 1, (X ++ ⟨#[44]⟩) ++ U, by omega, by go_num, rfl, HN, HB3, HX4⟩
            case measure => simp [intOf]; omega
        · obtain rfl : k = kids.length := by omega
          have HE : Hid ((⟨#[91]⟩ ++ X) ++ ⟨#[93]⟩ = (⟨(showT (.mk 6 nn tx ks kids)).toArray⟩ : ByteArray)) := by
            refine Lib.hid ?_
            rw [HXS.out]
            unfold sA
            rw [List.take_length]
            apply ByteArray.ext
            simp [showT, ByteArray.data_append]
          have y0 := HX.out.cell 0 (by omega)
          go_wp2
          all_goals (try (exfalso; omega))
          go_ret
          exact ⟨by rw [← HE.out]; rfl, HB.out⟩
    · -- an Object
      clear hY
      have HKL := Lib.hid (HL.out rfl)
      clear HL
      go_enter Tryz.func15, Tryz.ntmps15
      go_upto_region 1 with fail
      refine wp_gen (fun w1 => Hid (Below w.heap.size w w1) ∧ Hid (Blk w1 w.heap.size (.int .i64 7) (.int .i64 nn) (.string Y) (.slice S1 ks.length c0) (.slice S kids.length c1))) ⟨al0 w _, heap_alloc_new w _⟩ ?_
      intro w1 ⟨HB1, HX1⟩
      have x0 := HX1.out.cell 0 (by omega)
      have x4 := HX1.out.cell 4 (by omega)
      go_wp2
      clear x0 x4
      go_loopw [5, 6, 7, 8, 9, 35] (fun s _ _ _ _ i wr => ∃ (k : Nat) (X : ByteArray), k ≤ kids.length ∧ i = .int .i64 k ∧ s = .string X ∧ Hid (X = sO kids ks k) ∧ Hid (Below w.heap.size w wr) ∧ Hid (Blk wr w.heap.size (.int .i64 7) (.int .i64 nn) (.string Y) (.slice S1 ks.length c0) (.slice S kids.length c1))) (fun _ _ _ _ _ i _ => kids.length - (intOf i).toNat)
      case atStart => exact ⟨0, _, Nat.zero_le _, rfl, rfl, rfl, HB1, HX1⟩
      case round =>
        clear HB1 HX1
        obtain ⟨k, X, hkl, rfl, rfl, HXS, HB, HX⟩ := hrel
        have hXs : X.size ≤ 4400000 := by
          have := sO_size (ks := ks) HR.out k
          have h2 := HS.out
          rw [HXS.out]; omega
        by_cases hlt : k < kids.length
        · obtain ⟨b1, e1, rfl, hb1, kk, n3, t, S3, l3, m3, S4, l4, m4, f0, f1, f2, f3, f4, hN1⟩ := kid_at HK.out HB.out hlt
          have HN1 := Lib.hid hN1
          clear hN1
          have hks : k < ks.length := by have := HKL.out; omega
          obtain ⟨b2, o2, rfl, hb2, hkey⟩ : ∃ b2 o2, S1 = some ⟨b2, o2, none⟩ ∧ b2 < w.heap.size ∧ w.cell? ⟨b2, o2 + k, none⟩ = some (.string ⟨(ks.getD k []).toArray⟩) := by
            rcases HST.out with e | ⟨b2, o2, e, _, hbl, h2⟩
            · rw [e] at hks; simp at hks
            · exact ⟨b2, o2, e, hbl, h2 k hks⟩
          rw [List.getD_eq_getElem?_getD, List.getElem?_eq_getElem hks, Option.getD_some] at hkey
          obtain ⟨V, hV⟩ : ∃ V : ByteArray, (⟨ks[k].toArray⟩ : ByteArray) = V := ⟨_, rfl⟩
          rw [hV] at hkey
          have hVs : V.size ≤ 200000 := by
            have h1 := key_le2 (List.getElem_mem hks)
            have h2 := HS.out
            rw [← hV]
            show ks[k].toArray.size ≤ _
            rw [List.size_toArray]
            omega
          have hVv : vld V V.size 0 = true := by rw [← hV]; exact HKV.out _ (List.getElem_mem hks)
          have hQ0 := fun w => rquote_good V w hVs hVv
          have hVd : V.data.toList = ks[k] := by rw [← hV]
          rw [hVd] at hQ0
          simp only [rquoteV] at hQ0
          obtain ⟨Q, hQ⟩ : ∃ Q : ByteArray, (⟨(quoteL ks[k]).toArray⟩ : ByteArray) = Q := ⟨_, rfl⟩
          rw [hQ] at hQ0
          have hQs : Q.size ≤ 4400000 := by
            have h1 := quote_len22 ks[k]
            have h2 := key_le2 (List.getElem_mem hks)
            have h3 := HS.out
            rw [← hQ]
            show (quoteL ks[k]).toArray.size ≤ _
            rw [List.size_toArray]
            omega
          have HQ := Lib.hid hQ
          have HKEY := Lib.hid hkey
          clear hV hVd hQ hVv hkey
          go_upto_region 17 with fail
          refine wp_gen (fun w2 => Hid (Below w.heap.size w w2) ∧ Hid (Blk w2 wr.heap.size (.int .i64 kk) (.int .i64 n3) (.string ⟨t.toArray⟩) (.slice S3 l3 m3) (.slice S4 l4 m4)) ∧ Hid (NIs ok h w2 kids[k] (.agg #[.int .i64 kk, .int .i64 n3, .string ⟨t.toArray⟩, .slice S3 l3 m3, .slice S4 l4 m4])) ∧ Hid (Blk w2 w.heap.size (.int .i64 7) (.int .i64 nn) (.string Y) (.slice (some ⟨b2, o2, none⟩) ks.length c0) (.slice (some ⟨b1, e1, none⟩) kids.length c1))) ⟨HB.out.alloc HB.out.size _, heap_alloc_new wr _, HN1.out.below (al0 wr _), ?_⟩ ?_
          · exact (Below.heap_alloc _ _ _ HX.out.lt).trans HX.out
          rintro w2 ⟨HB2, HX2, HN2, HX3⟩
          clear f0 f1 f2 f3 f4 HN1 HB HX
          have u0 := HX2.out.cell 0 (by omega)
          have u1 := HX2.out.cell 1 (by omega)
          have u2 := HX2.out.cell 2 (by omega)
          have u3 := HX2.out.cell 3 (by omega)
          have u4 := HX2.out.cell 4 (by omega)
          have y0 := HX3.out.cell 0 (by omega)
          have y3 := HX3.out.cell 3 (by omega)
          have yk : w2.cell? ⟨b2, o2 + k, none⟩ = some (.string V) := (HB2.out.cell (p := ⟨b2, o2 + k, none⟩) hb2).trans HKEY.out
          have hT := fun w3 (hb : Below w2.heap.size w2 w3) => IH.out ok kids[k] _ (d + 1) w3 (HN2.out.below hb) (rgtL_mem.1 HR.out _ (List.getElem_mem hlt)) (by have := szL_mem (List.getElem_mem hlt); have h2 := HS.out; omega)
          obtain ⟨U, hU⟩ : ∃ U : ByteArray, (⟨(showT kids[k]).toArray⟩ : ByteArray) = U := ⟨_, rfl⟩
          have hUs : U.size ≤ 4400000 := by
            have h1 := show_len (d + 1) kids[k] (rgtL_mem.1 HR.out _ (List.getElem_mem hlt))
            have h2 := szL_mem (List.getElem_mem hlt)
            have h3 := HS.out
            rw [← hU]
            show (showT kids[k]).toArray.size ≤ _
            rw [List.size_toArray]
            omega
          rw [hU] at hT
          have HU := Lib.hid hU
          clear hU
          by_cases h0 : k = 0
          · have q : decide (0 < k) = false := decide_eq_false (by omega)
            have HN : Hid ((X ++ (Q ++ ⟨#[58]⟩)) ++ U = sO kids ks (k + 1)) := by
              refine Lib.hid ?_
              subst h0
              rw [HXS.out, ← HU.out, ← HQ.out]
              exact sO_first kids ks hlt hks
            clear h0
            go_wp2_with fail
            all_goals (try (exfalso; omega))
            refine (hQ0 _).mono ?_
            rintro e w2' ⟨rfl, hbq⟩
            have hlt2 := HX2.out.lt
            have v0 := (hbq.cell (p := ⟨wr.heap.size, 0, none⟩) hlt2).trans u0
            have v1 := (hbq.cell (p := ⟨wr.heap.size, 1, none⟩) hlt2).trans u1
            have v2 := (hbq.cell (p := ⟨wr.heap.size, 2, none⟩) hlt2).trans u2
            have v3 := (hbq.cell (p := ⟨wr.heap.size, 3, none⟩) hlt2).trans u3
            have v4 := (hbq.cell (p := ⟨wr.heap.size, 4, none⟩) hlt2).trans u4
            have hT2 := hT w2' hbq
            have HBQ := Lib.hid hbq
            clear hT hbq hQ0 u0 u1 u2 u3 u4 y0 y3 yk hlt2
            go_wp2_with fail
            all_goals (try (exfalso; omega))
            refine hT2.mono ?_
            rintro e w3 ⟨rfl, hb3'⟩
            have hb3 : Below w2.heap.size w2 w3 := HBQ.out.trans (hb3'.mono HBQ.out.size)
            have HB3 : Hid (Below w.heap.size w w3) := HB2.out.trans (hb3.mono HB2.out.size)
            have HX4 : Hid (Blk w3 w.heap.size (.int .i64 7) (.int .i64 nn) (.string Y) (.slice (some ⟨b2, o2, none⟩) ks.length c0) (.slice (some ⟨b1, e1, none⟩) kids.length c1)) := (hb3.block _ HX3.out.lt).trans HX3.out
            clear hT2 hb3 hb3' v0 v1 v2 v3 v4 HX2 HN2 HX3 HB2 HBQ
            go_wp2
            all_goals (try (exfalso; omega))
            go_roundw
            case rel => exact ⟨k + 1, (X ++ (Q ++ ⟨#[58]⟩)) ++ U, by omega, by go_num, rfl, HN, HB3, HX4⟩
            case measure => simp [intOf]; omega
          · have q : decide (0 < k) = true := decide_eq_true (by omega)
            have HN : Hid (((X ++ ⟨#[44]⟩) ++ (Q ++ ⟨#[58]⟩)) ++ U = sO kids ks (k + 1)) := by
              refine Lib.hid ?_
              rw [HXS.out, ← HU.out, ← HQ.out]
              exact sO_next kids ks k hlt hks HKL.out h0
            clear h0
            go_wp2_with fail
            all_goals (try (exfalso; omega))
            refine (hQ0 _).mono ?_
            rintro e w2' ⟨rfl, hbq⟩
            have hlt2 := HX2.out.lt
            have v0 := (hbq.cell (p := ⟨wr.heap.size, 0, none⟩) hlt2).trans u0
            have v1 := (hbq.cell (p := ⟨wr.heap.size, 1, none⟩) hlt2).trans u1
            have v2 := (hbq.cell (p := ⟨wr.heap.size, 2, none⟩) hlt2).trans u2
            have v3 := (hbq.cell (p := ⟨wr.heap.size, 3, none⟩) hlt2).trans u3
            have v4 := (hbq.cell (p := ⟨wr.heap.size, 4, none⟩) hlt2).trans u4
            have hT2 := hT w2' hbq
            have HBQ := Lib.hid hbq
            clear hT hbq hQ0 u0 u1 u2 u3 u4 y0 y3 yk hlt2
            go_wp2_with fail
            all_goals (try (exfalso; omega))
            refine hT2.mono ?_
            rintro e w3 ⟨rfl, hb3'⟩
            have hb3 : Below w2.heap.size w2 w3 := HBQ.out.trans (hb3'.mono HBQ.out.size)
            have HB3 : Hid (Below w.heap.size w w3) := HB2.out.trans (hb3.mono HB2.out.size)
            have HX4 : Hid (Blk w3 w.heap.size (.int .i64 7) (.int .i64 nn) (.string Y) (.slice (some ⟨b2, o2, none⟩) ks.length c0) (.slice (some ⟨b1, e1, none⟩) kids.length c1)) := (hb3.block _ HX3.out.lt).trans HX3.out
            clear hT2 hb3 hb3' v0 v1 v2 v3 v4 HX2 HN2 HX3 HB2 HBQ
            go_wp2
            all_goals (try (exfalso; omega))
            go_roundw
            case rel => exact ⟨k + 1, ((X ++ ⟨#[44]⟩) ++ (Q ++ ⟨#[58]⟩)) ++ U, by omega, by go_num, rfl, HN, HB3, HX4⟩
            case measure => simp [intOf]; omega
        · obtain rfl : k = kids.length := by omega
          have HE : Hid ((⟨#[123]⟩ ++ X) ++ ⟨#[125]⟩ = (⟨(showT (.mk 7 nn tx ks kids)).toArray⟩ : ByteArray)) := by
            refine Lib.hid ?_
            rw [HXS.out]
            unfold sO
            rw [← HKL.out, List.take_length, HKL.out, List.take_length]
            apply ByteArray.ext
            simp [showT, ByteArray.data_append]
          have y0 := HX.out.cell 0 (by omega)
          go_wp2
          all_goals (try (exfalso; omega))
          go_ret
          exact ⟨by rw [← HE.out]; rfl, HB.out⟩

end Go.Proofs.YtlaagdpanbineaaGreatDoor
