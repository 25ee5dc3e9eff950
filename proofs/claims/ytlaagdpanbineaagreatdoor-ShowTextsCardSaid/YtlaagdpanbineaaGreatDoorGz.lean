/- The program's reader of JSON: the passes at a key, behind a bracket, at a value. -/
import Derived.Test.YtlaagdpanbineaaGreatDoorGp
namespace Go.Proofs.YtlaagdpanbineaaGreatDoor
open Go.RowKit
open I2 (errVal errVal_some errVal_none)

theorem pI_obj_skip (ks : List (List UInt8)) (acc : List NT) (d c : Nat) (l : List UInt8) : pI (.obj ks acc) d c (skipB l) = pI (.obj ks acc) d c l := by rw [pI_obj, pI_obj, skipB_idem]
theorem pI_arr_skip (acc : List NT) (d c : Nat) (l : List UInt8) : pI (.arr acc) d c (skipB l) = pI (.arr acc) d c l := by rw [pI_arr, pI_arr, pI_skip]

theorem arrA_val {st : List Fr} {c : Nat} {l t : List UInt8} {x : UInt8} (h : skipB l = x :: t) (hc : c < 20000) (hx : x.toNat = 91) : after st (pI .val st.length c l) = arrA st (c + 1) t := by
  unfold arrA
  by_cases hd : 32 ≤ st.length
  · rw [if_pos hd, val_deep h hc (.inl hx) hd, after_bad]
  · rw [if_neg hd, val_arr h hc hx (by omega)]
    cases skipB t <;> rfl
theorem objA_val {st : List Fr} {c : Nat} {l t : List UInt8} {x : UInt8} (h : skipB l = x :: t) (hc : c < 20000) (hx : x.toNat = 123) : after st (pI .val st.length c l) = objA st (c + 1) t := by
  unfold objA
  by_cases hd : 32 ≤ st.length
  · rw [if_pos hd, val_deep h hc (.inr hx) hd, after_bad]
  · rw [if_neg hd, val_obj h hc hx (by omega)]
    cases skipB t <;> rfl
theorem arrA_deep {st : List Fr} {c : Nat} {l : List UInt8} (h : 32 ≤ st.length) : arrA st c l = .bad 2 := by unfold arrA; rw [if_pos h]
theorem objA_deep {st : List Fr} {c : Nat} {l : List UInt8} (h : 32 ≤ st.length) : objA st c l = .bad 2 := by unfold objA; rw [if_pos h]
theorem arrA_end {st : List Fr} {c : Nat} {l u : List UInt8} {y : UInt8} (h : st.length < 32) (hy : skipB l = y :: u) (hb : y.toNat = 93) : arrA st c l = after st (.ok (.mk 6 0 [] [] []) u c) := by
  unfold arrA
  rw [if_neg (by omega), hy]
  simp only []
  rw [if_pos hb]
theorem objA_end {st : List Fr} {c : Nat} {l u : List UInt8} {y : UInt8} (h : st.length < 32) (hy : skipB l = y :: u) (hb : y.toNat = 125) : objA st c l = after st (.ok (.mk 7 0 [] [] []) u c) := by
  unfold objA
  rw [if_neg (by omega), hy]
  simp only []
  rw [if_pos hb]
theorem arrA_go {st : List Fr} {c : Nat} {l : List UInt8} (h : st.length < 32) (hb : NoB l 93) : arrA st c l = after st (pI (.arr []) st.length c l) := by
  unfold arrA
  rw [if_neg (by omega)]
  cases hz : skipB l with
  | nil => rfl
  | cons y u =>
    simp only []
    rw [if_neg (hb y u hz)]
theorem objA_go {st : List Fr} {c : Nat} {l : List UInt8} (h : st.length < 32) (hb : NoB l 125) : objA st c l = after st (pI (.obj [] []) st.length c l) := by
  unfold objA
  rw [if_neg (by omega)]
  cases hz : skipB l with
  | nil => rfl
  | cons y u =>
    simp only []
    rw [if_neg (hb y u hz)]
theorem leafR_ok {l r : List UInt8} {c c' : Nat} {v : NT} (h : leafR l c = .ok v r c') : c' = c ∧ r.length < l.length := by
  have hp : ∀ {w : List UInt8} {n : Nat}, w.isPrefixOf l = true → w.length = n → 0 < n → (l.drop n).length < l.length := fun {w n} h1 h2 h3 => by
    have := (List.isPrefixOf_iff_prefix.1 h1).length_le
    rw [List.length_drop]; omega
  unfold leafR at h
  split at h
  · rename_i h1
    simp only [Res.ok.injEq] at h
    obtain ⟨_, rfl, rfl⟩ := h
    exact ⟨rfl, hp h1 rfl (by omega)⟩
  split at h
  · rename_i h1
    simp only [Res.ok.injEq] at h
    obtain ⟨_, rfl, rfl⟩ := h
    exact ⟨rfl, hp h1 rfl (by omega)⟩
  split at h
  · rename_i h1
    simp only [Res.ok.injEq] at h
    obtain ⟨_, rfl, rfl⟩ := h
    exact ⟨rfl, hp h1 rfl (by omega)⟩
  split at h
  · obtain ⟨h1, h2⟩ := strR_ok h; exact ⟨h2, h1⟩
  · obtain ⟨h1, h2⟩ := numR_ok h; exact ⟨h2, h1⟩
theorem leaf_nis (ok : Nat → Prop) (w : World) (h : Nat) (kd n : Int) (t : List UInt8) (hh : 0 < h) : NIs ok h w (.mk kd n t [] []) (LV.v ⟨.int .i64 kd, .int .i64 n, .string ⟨t.toArray⟩, .slice none 0 0, .slice none 0 0⟩) := by
  obtain ⟨h, rfl⟩ : ∃ x, h = x + 1 := ⟨h - 1, by omega⟩
  exact ⟨_, none, 0, rfl, ⟨none, 0, rfl, .inl rfl⟩, .inl rfl⟩

section
variable (R B : Nat) (s : ByteArray) (A : Nat → Addr) (w0 : World) (res : Ans)

set_option maxRecDepth 100000 in
set_option maxHeartbeats 2000000 in
theorem pass5 (hBR : B ≤ R) (hs : s.size ≤ 200000) {a : Act} {w : World} {m : Nat} (hF : FrameIs R a) (hJ : J5 R B s A w0 res w) (hm : mu R s 5 a w ≤ m) :
    Code.wp Tryz.prog (afterL 5) (jumps (JM R B s A w0 res m) (QQ R s A w0 res)) a w := by
  obtain ⟨k, c, hv, L, own, st, h, ks, acc, hC, hS, hko, hfr, hkl, hres⟩ := hJ.ex
  clear hJ
  have hak := after_obj (frs st) ks acc c (s.data.toList.drop k)
  rw [frs_len, ← hres] at hak
  have HRES := Lib.hid hak
  have HM := Lib.hid hm
  have hk := hC.hk
  have c20 := hC.c20
  have hkeys : h.fr.keys = ks := by rw [hfr]; rfl
  have hkids : h.fr.kids = acc := by rw [hfr]; rfl
  have hkind : h.fr.kind = 7 := by rw [hfr]; rfl
  obtain ⟨g, cap, rfl, _, _, _⟩ := own_pop hS.row
  obtain ⟨n, hn⟩ : ∃ n, st.length = n := ⟨_, rfl⟩
  have hct := hS.low.2.2.2.1
  rw [hn] at hS hC
  have HC := Lib.hid hC
  have HKO := Lib.hid hko
  have HN := Lib.hid hn
  have HKS := Lib.hid hkeys
  have HKI := Lib.hid hkids
  cases ht : takeL (skipB (s.data.toList.drop k)) with
  | none =>
    have hT := key_syn R B s k c _ L w A hC.rd hC.cond hBR hs hk ht
    rw [errVal_some] at hT
    have hr : res = .bad 1 := by rw [hak]; unfold keyR; rw [ht]
    have HR := Lib.hid hr
    clear hm hres hS hC hko hn hkeys hkids hkind hfr hak ht hr hct
    have hnn := fun (w : World) (x : Value) => @run_neq_iface_nil Tryz.prog w 28 (by kernel_rfl) 172 x
    obtain ⟨u1, u2, u3, u4, u5, u6, u7, u8, u9, u10, u11, u12, u13, u14, u15, u16, u17, u18, u19, u20, u21, u22, u23, u24, u25, u26, u27, u28, u29, u30, u31, u32, u33, u34, u35, u36, u37, u38, u39, u40, u41, u42, u43, u44, u45, u46, u47, u48, u49, u50, u51, u52, u53, u54, u55, u56, u57, u58, u59, u60, u61, u62, u63, rfl⟩ := hF
    change Code.wp _ (Code.seq _ _) _ _ _
    generalize hJM : jumps (JM R B s A w0 res m) (QQ R s A w0 res) = Q
    have HJM := Lib.hid hJM
    clear hJM
    go_wp2_with fail
    refine hT.mono ?_
    rintro x w1 ⟨rfl, hb1⟩
    have HB1 := Lib.hid hb1
    clear hT hb1
    go_wp2
    rw [← HJM.out]
    show QQ R s A w0 res Exit.ret _ _
    unfold QQ
    go_ret
    rw [HR.out]
    exact ⟨by omega, rfl, HC.out.below.trans HB1.out⟩
  | some p =>
    obtain ⟨x, q⟩ := p
    have hT := key_some R B s k c c L w A own st h n g cap x q hC.rd hS hn hC.cond hBR hs hk ht (by rw [hkeys]; rw [hkids] at hct; omega) hkind
    by_cases hin : x ∈ ks
    · have hr : res = .bad 5 := by rw [hak]; unfold keyR; rw [ht]; simp only []; rw [if_pos hin]
      have HR := Lib.hid hr
      have hT2 := hT.mono (fun e w1 hP => hP.1 (by rw [hkeys]; exact hin))
      rw [errVal_some] at hT2
      clear hm hres hS hC hko hn hkeys hkids hkind hfr hak ht hr hct hT hin
      have hnn := fun (w : World) (x : Value) => @run_neq_iface_nil Tryz.prog w 28 (by kernel_rfl) 172 x
      obtain ⟨u1, u2, u3, u4, u5, u6, u7, u8, u9, u10, u11, u12, u13, u14, u15, u16, u17, u18, u19, u20, u21, u22, u23, u24, u25, u26, u27, u28, u29, u30, u31, u32, u33, u34, u35, u36, u37, u38, u39, u40, u41, u42, u43, u44, u45, u46, u47, u48, u49, u50, u51, u52, u53, u54, u55, u56, u57, u58, u59, u60, u61, u62, u63, rfl⟩ := hF
      change Code.wp _ (Code.seq _ _) _ _ _
      generalize hJM : jumps (JM R B s A w0 res m) (QQ R s A w0 res) = Q
      have HJM := Lib.hid hJM
      clear hJM
      go_wp2_with fail
      refine hT2.mono ?_
      rintro x w1 ⟨rfl, hb1⟩
      have HB1 := Lib.hid hb1
      clear hT2 hb1
      go_wp2
      rw [← HJM.out]
      show QQ R s A w0 res Exit.ret _ _
      unfold QQ
      go_ret
      rw [HR.out]
      exact ⟨by omega, rfl, HC.out.below.trans HB1.out⟩
    · have hT2 := hT.mono (fun e w1 hP => hP.2 (by rw [hkeys]; exact hin))
      obtain ⟨rr, hrr⟩ : ∃ rr, (skipB (s.data.toList.drop k)).drop q = rr := ⟨_, rfl⟩
      rw [hrr] at hT2
      have hql := takeL_len ht
      have hrl : rr.length < (s.data.toList.drop k).length := by
        have := skipB_le (s.data.toList.drop k)
        rw [← hrr, List.length_drop]; omega
      rw [List.length_drop, size_list] at hrl
      have hkr : keyR ks (s.data.toList.drop k) = .ok x rr := by unfold keyR; rw [ht]; simp only []; rw [if_neg hin, hrr]
      rw [hkr] at hak
      have HRES := Lib.hid hak
      rcases next_cases rr 58 with ⟨y, u, hy, hb⟩ | hno
      · have HY := Lib.hid hy
        have HB := Lib.hid hb
        clear hm hres hS hC hko hn hkeys hkids hkind hfr hak ht hct hT hin hkr hrr hy hb
        have hnn := fun (w : World) => @run_neq_nil_nil_at Tryz.prog w 28 (by kernel_rfl)
        obtain ⟨u1, u2, u3, u4, u5, u6, u7, u8, u9, u10, u11, u12, u13, u14, u15, u16, u17, u18, u19, u20, u21, u22, u23, u24, u25, u26, u27, u28, u29, u30, u31, u32, u33, u34, u35, u36, u37, u38, u39, u40, u41, u42, u43, u44, u45, u46, u47, u48, u49, u50, u51, u52, u53, u54, u55, u56, u57, u58, u59, u60, u61, u62, u63, rfl⟩ := hF
        change Code.wp _ (Code.seq _ _) _ _ _
        generalize hJM : jumps (JM R B s A w0 res m) (QQ R s A w0 res) = Q
        have HJM := Lib.hid hJM
        clear hJM
        go_wp2_with fail
        refine hT2.mono ?_
        rintro e w1 ⟨rfl, z, hz, hd, own1, gg, cap1, hR1, hS1, hB1⟩
        have hzk : k < z := by
          have := congrArg List.length hd
          rw [List.length_drop, size_list] at this
          omega
        have hT3 := take_yes R s z c 58 _ L w1 hR1 hs hz (by rw [hd]; exact HY.out) HB.out
        have HR1 := Lib.hid hR1
        have HS1 := Lib.hid hS1
        have HB1 := Lib.hid hB1
        have HD1 := Lib.hid hd
        clear hT2 hR1 hS1 hB1 hd
        go_wp2_with fail
        refine hT3.mono ?_
        rintro e w2 ⟨rfl, k2, hR2, hk2, hd2, hg2⟩
        have hlt2 := skip_len (by rw [HD1.out]; exact HY.out) hk2 hd2
        have HR2 := Lib.hid hR2
        have HD2 := Lib.hid hd2
        have HG2 := Lib.hid hg2
        clear hT3 hR2 hd2 hg2
        go_wp2
        go_step3
        rw [← HJM.out]
        show JM R B s A w0 res m 0 _ _
        refine ⟨⟨(by unfold FrameIs; exact ⟨_, _, _, _, _, _, _, _, _, _, _, _, _, _, _, _, _, _, _, _, _, _, _, _, _, _, _, _, _, _, _, _, _, _, _, _, _, _, _, _, _, _, _, _, _, _, _, _, _, _, _, _, _, _, _, _, _, _, _, _, _, _, _, rfl⟩), ⟨?_⟩⟩, mu_lt R s HC.out.rd HR2.out HM.out (by simp only [rank]; omega)⟩
        refine ⟨k2, c, _, L, own1, _, HC.out.next R B s A w0 hBR HR2.out hk2 (HB1.out.trans (below_gb R s HR1.out HG2.out)) c20, HS1.out.row1 HG2.out, keysOk_snoc HKO.out ?_, ?_⟩
        · show (h.fr.keys ++ [x]).length ≤ h.fr.kids.length + 1
          rw [HKS.out, HKI.out, List.length_append]
          simp; omega
        · rw [HRES.out, frs_snoc, HD2.out, List.length_append, List.length_singleton]
          (try simp only [])
          rw [HY.out]
          simp only []
          rw [if_pos HB.out]
          show _ = after (.obj (h.fr.keys ++ [x]) h.fr.kids :: frs st) _
          rw [HKS.out, HKI.out]
      · have HNO := Lib.hid hno
        clear hm hres hS hC hko hn hkeys hkids hkind hfr hak ht hct hT hin hkr hrr hno
        have hnn := fun (w : World) => @run_neq_nil_nil_at Tryz.prog w 28 (by kernel_rfl)
        obtain ⟨u1, u2, u3, u4, u5, u6, u7, u8, u9, u10, u11, u12, u13, u14, u15, u16, u17, u18, u19, u20, u21, u22, u23, u24, u25, u26, u27, u28, u29, u30, u31, u32, u33, u34, u35, u36, u37, u38, u39, u40, u41, u42, u43, u44, u45, u46, u47, u48, u49, u50, u51, u52, u53, u54, u55, u56, u57, u58, u59, u60, u61, u62, u63, rfl⟩ := hF
        change Code.wp _ (Code.seq _ _) _ _ _
        generalize hJM : jumps (JM R B s A w0 res m) (QQ R s A w0 res) = Q
        have HJM := Lib.hid hJM
        clear hJM
        go_wp2_with fail
        refine hT2.mono ?_
        rintro e w1 ⟨rfl, z, hz, hd, own1, gg, cap1, hR1, hS1, hB1⟩
        have hT3 := take_no R s z c 58 _ L w1 hR1 hs hz (by rw [hd]; exact HNO.out)
        have HC1 := Lib.hid (HC.out.next R B s A w0 hBR hR1 hz hB1 c20)
        clear hT2 hR1 hS1 hB1 hd
        go_wp2_with fail
        refine hT3.mono ?_
        rintro e w2 ⟨rfl, k2, hR2, hk2, hd2, hg2⟩
        have HG2 := Lib.hid hg2
        have ce : w2.cell? ⟨1, 0, none⟩ = _ := (HC1.out.cond.row HG2.out hBR).err 0 (by omega)
        clear hT3 hR2 hd2 hg2
        go_wp2
        rw [← HJM.out]
        show QQ R s A w0 res Exit.ret _ _
        unfold QQ
        go_ret
        have hr : res = .bad 1 := by
          rw [HRES.out]
          (try simp only [])
          cases hz2 : skipB rr with
          | nil => rfl
          | cons y u =>
            simp only []
            rw [if_neg (HNO.out y u hz2)]
        rw [hr]
        exact ⟨by omega, rfl, HC1.out.below.trans (below_gb R s HC1.out.rd HG2.out)⟩

set_option maxRecDepth 100000 in
set_option maxHeartbeats 2000000 in
theorem pass1 (hBR : B ≤ R) (hs : s.size ≤ 200000) {a : Act} {w : World} {m : Nat} (hF : FrameIs R a) (hJ : J1 R B s A w0 res w) (hm : mu R s 1 a w ≤ m) :
    Code.wp Tryz.prog (afterL 1) (jumps (JM R B s A w0 res m) (QQ R s A w0 res)) a w := by
  obtain ⟨k, c, hv, L, own, st, hC, hS, hko, hres⟩ := hJ.ex
  clear hJ
  have HRES := Lib.hid hres
  have HM := Lib.hid hm
  have hk := hC.hk
  have c20 := hC.c20
  have HC := Lib.hid hC
  have HKO := Lib.hid hko
  by_cases hd : st.length < 32
  · have hT := enter_ok R s k (c + 1) c hv L w own st (.arr []) 6 rfl ⟨rfl, rfl⟩ hC.rd hS hd
    have HLT := Lib.hid hS.lt
    rcases next_cases (s.data.toList.drop k) 93 with ⟨y, u, hy, hb⟩ | hno
    · have HY := Lib.hid hy
      have HB := Lib.hid hb
      clear hm hres hS hC hko hy hb
      have hnn := fun (w : World) => @run_neq_nil_nil_at Tryz.prog w 28 (by kernel_rfl)
      obtain ⟨u1, u2, u3, u4, u5, u6, u7, u8, u9, u10, u11, u12, u13, u14, u15, u16, u17, u18, u19, u20, u21, u22, u23, u24, u25, u26, u27, u28, u29, u30, u31, u32, u33, u34, u35, u36, u37, u38, u39, u40, u41, u42, u43, u44, u45, u46, u47, u48, u49, u50, u51, u52, u53, u54, u55, u56, u57, u58, u59, u60, u61, u62, u63, rfl⟩ := hF
      change Code.wp _ (Code.seq _ _) _ _ _
      generalize hJM : jumps (JM R B s A w0 res m) (QQ R s A w0 res) = Q
      have HJM := Lib.hid hJM
      clear hJM
      go_wp2_with fail
      refine hT.mono ?_
      rintro e w1 ⟨rfl, hv1, own1, M, hR1, hS1, hB1⟩
      have hT2 := take_yes R s k (c + 1) 93 _ L w1 hR1 hs hk HY.out HB.out
      have HR1 := Lib.hid hR1
      have HS1 := Lib.hid hS1
      have HB1 := Lib.hid hB1
      clear hT hR1 hS1 hB1
      go_wp2_with fail
      refine hT2.mono ?_
      rintro e w2 ⟨rfl, k2, hR2, hk2, hd2, hg2⟩
      have hlt2 := skip_len HY.out hk2 hd2
      have HR2 := Lib.hid hR2
      have HD2 := Lib.hid hd2
      have HG2 := Lib.hid hg2
      clear hT2 hR2 hd2 hg2
      go_wp2
      go_step3
      rw [← HJM.out]
      show JM R B s A w0 res m 4 _ _
      refine ⟨⟨(by unfold FrameIs; exact ⟨_, _, _, _, _, _, _, _, _, _, _, _, _, _, _, _, _, _, _, _, _, _, _, _, _, _, _, _, _, _, _, _, _, _, _, _, _, _, _, _, _, _, _, _, _, _, _, _, _, _, _, _, _, _, _, _, _, _, _, _, _, _, _, rfl⟩), ⟨?_⟩⟩, mu_lt R s HC.out.rd HR2.out HM.out (by simp only [rank]; omega)⟩
      refine ⟨k2, c, _, L, own1, st, _, HC.out.next R B s A w0 hBR HR2.out hk2 (HB1.out.trans (below_gb R s HR1.out HG2.out)) c20, (HS1.out.row1 HG2.out).more (by omega), HLT.out, HKO.out, ?_⟩
      rw [HRES.out, arrA_end (by rw [frs_len]; exact hd) HY.out HB.out, HD2.out]
      rfl
    · have HNO := Lib.hid hno
      clear hm hres hS hC hko hno
      have hnn := fun (w : World) => @run_neq_nil_nil_at Tryz.prog w 28 (by kernel_rfl)
      obtain ⟨u1, u2, u3, u4, u5, u6, u7, u8, u9, u10, u11, u12, u13, u14, u15, u16, u17, u18, u19, u20, u21, u22, u23, u24, u25, u26, u27, u28, u29, u30, u31, u32, u33, u34, u35, u36, u37, u38, u39, u40, u41, u42, u43, u44, u45, u46, u47, u48, u49, u50, u51, u52, u53, u54, u55, u56, u57, u58, u59, u60, u61, u62, u63, rfl⟩ := hF
      change Code.wp _ (Code.seq _ _) _ _ _
      generalize hJM : jumps (JM R B s A w0 res m) (QQ R s A w0 res) = Q
      have HJM := Lib.hid hJM
      clear hJM
      go_wp2_with fail
      refine hT.mono ?_
      rintro e w1 ⟨rfl, hv1, own1, M, hR1, hS1, hB1⟩
      have hT2 := take_no R s k (c + 1) 93 _ L w1 hR1 hs hk HNO.out
      have HR1 := Lib.hid hR1
      have HS1 := Lib.hid hS1
      have HB1 := Lib.hid hB1
      clear hT hR1 hS1 hB1
      go_wp2_with fail
      refine hT2.mono ?_
      rintro e w2 ⟨rfl, k2, hR2, hk2, hd2, hg2⟩
      have hge := skip_ge hk hk2 hd2
      have HR2 := Lib.hid hR2
      have HD2 := Lib.hid hd2
      have HG2 := Lib.hid hg2
      clear hT2 hR2 hd2 hg2
      go_wp2
      go_step3
      rw [← HJM.out]
      show JM R B s A w0 res m 0 _ _
      refine ⟨⟨(by unfold FrameIs; exact ⟨_, _, _, _, _, _, _, _, _, _, _, _, _, _, _, _, _, _, _, _, _, _, _, _, _, _, _, _, _, _, _, _, _, _, _, _, _, _, _, _, _, _, _, _, _, _, _, _, _, _, _, _, _, _, _, _, _, _, _, _, _, _, _, rfl⟩), ⟨?_⟩⟩, mu_lt R s HC.out.rd HR2.out HM.out (by simp only [rank]; omega)⟩
      refine ⟨k2, c + 1, _, L, own1, _, HC.out.next R B s A w0 hBR HR2.out hk2 (HB1.out.trans (below_gb R s HR1.out HG2.out)) c20, (HS1.out.row1 HG2.out).more (by omega), keysOk_snoc HKO.out (by simp [Fr.keys]), ?_⟩
      rw [HRES.out, arrA_go (by rw [frs_len]; exact hd) HNO.out, after_arr, frs_snoc, HD2.out, pI_skip, frs_len, List.length_append, List.length_singleton]
  · have hn : st.length = 32 := by have := hS.deep; omega
    have hT := enter_deep R B s k (c + 1) c hv L w A own st 6 hC.rd hS hC.cond hBR hn
    rw [errVal_some] at hT
    have hr : res = .bad 2 := by rw [hres, arrA_deep (by rw [frs_len]; omega)]
    have HR := Lib.hid hr
    clear hm hres hS hC hko hn hr
    have hnn := fun (w : World) (x : Value) => @run_neq_iface_nil Tryz.prog w 28 (by kernel_rfl) 172 x
    obtain ⟨u1, u2, u3, u4, u5, u6, u7, u8, u9, u10, u11, u12, u13, u14, u15, u16, u17, u18, u19, u20, u21, u22, u23, u24, u25, u26, u27, u28, u29, u30, u31, u32, u33, u34, u35, u36, u37, u38, u39, u40, u41, u42, u43, u44, u45, u46, u47, u48, u49, u50, u51, u52, u53, u54, u55, u56, u57, u58, u59, u60, u61, u62, u63, rfl⟩ := hF
    change Code.wp _ (Code.seq _ _) _ _ _
    generalize hJM : jumps (JM R B s A w0 res m) (QQ R s A w0 res) = Q
    have HJM := Lib.hid hJM
    clear hJM
    go_wp2_with fail
    refine hT.mono ?_
    rintro x w1 ⟨rfl, rfl⟩
    clear hT
    go_wp2
    rw [← HJM.out]
    show QQ R s A w0 res Exit.ret _ _
    unfold QQ
    go_ret
    rw [HR.out]
    exact ⟨by omega, rfl, HC.out.below⟩

set_option maxRecDepth 100000 in
set_option maxHeartbeats 2000000 in
theorem pass2 (hBR : B ≤ R) (hs : s.size ≤ 200000) {a : Act} {w : World} {m : Nat} (hF : FrameIs R a) (hJ : J2 R B s A w0 res w) (hm : mu R s 2 a w ≤ m) :
    Code.wp Tryz.prog (afterL 2) (jumps (JM R B s A w0 res m) (QQ R s A w0 res)) a w := by
  obtain ⟨k, c, hv, L, own, st, hC, hS, hko, hres⟩ := hJ.ex
  clear hJ
  have HRES := Lib.hid hres
  have HM := Lib.hid hm
  have hk := hC.hk
  have c20 := hC.c20
  have HC := Lib.hid hC
  have HKO := Lib.hid hko
  by_cases hd : st.length < 32
  · have hT := enter_ok R s k (c + 1) c hv L w own st (.obj [] []) 7 rfl ⟨rfl, rfl⟩ hC.rd hS hd
    have HLT := Lib.hid hS.lt
    rcases next_cases (s.data.toList.drop k) 125 with ⟨y, u, hy, hb⟩ | hno
    · have HY := Lib.hid hy
      have HB := Lib.hid hb
      clear hm hres hS hC hko hy hb
      have hnn := fun (w : World) => @run_neq_nil_nil_at Tryz.prog w 28 (by kernel_rfl)
      obtain ⟨u1, u2, u3, u4, u5, u6, u7, u8, u9, u10, u11, u12, u13, u14, u15, u16, u17, u18, u19, u20, u21, u22, u23, u24, u25, u26, u27, u28, u29, u30, u31, u32, u33, u34, u35, u36, u37, u38, u39, u40, u41, u42, u43, u44, u45, u46, u47, u48, u49, u50, u51, u52, u53, u54, u55, u56, u57, u58, u59, u60, u61, u62, u63, rfl⟩ := hF
      change Code.wp _ (Code.seq _ _) _ _ _
      generalize hJM : jumps (JM R B s A w0 res m) (QQ R s A w0 res) = Q
      have HJM := Lib.hid hJM
      clear hJM
      go_wp2_with fail
      refine hT.mono ?_
      rintro e w1 ⟨rfl, hv1, own1, M, hR1, hS1, hB1⟩
      have hT2 := take_yes R s k (c + 1) 125 _ L w1 hR1 hs hk HY.out HB.out
      have HR1 := Lib.hid hR1
      have HS1 := Lib.hid hS1
      have HB1 := Lib.hid hB1
      clear hT hR1 hS1 hB1
      go_wp2_with fail
      refine hT2.mono ?_
      rintro e w2 ⟨rfl, k2, hR2, hk2, hd2, hg2⟩
      have hlt2 := skip_len HY.out hk2 hd2
      have HR2 := Lib.hid hR2
      have HD2 := Lib.hid hd2
      have HG2 := Lib.hid hg2
      clear hT2 hR2 hd2 hg2
      go_wp2
      go_step3
      rw [← HJM.out]
      show JM R B s A w0 res m 4 _ _
      refine ⟨⟨(by unfold FrameIs; exact ⟨_, _, _, _, _, _, _, _, _, _, _, _, _, _, _, _, _, _, _, _, _, _, _, _, _, _, _, _, _, _, _, _, _, _, _, _, _, _, _, _, _, _, _, _, _, _, _, _, _, _, _, _, _, _, _, _, _, _, _, _, _, _, _, rfl⟩), ⟨?_⟩⟩, mu_lt R s HC.out.rd HR2.out HM.out (by simp only [rank]; omega)⟩
      refine ⟨k2, c, _, L, own1, st, _, HC.out.next R B s A w0 hBR HR2.out hk2 (HB1.out.trans (below_gb R s HR1.out HG2.out)) c20, (HS1.out.row1 HG2.out).more (by omega), HLT.out, HKO.out, ?_⟩
      rw [HRES.out, objA_end (by rw [frs_len]; exact hd) HY.out HB.out, HD2.out]
      rfl
    · have HNO := Lib.hid hno
      clear hm hres hS hC hko hno
      have hnn := fun (w : World) => @run_neq_nil_nil_at Tryz.prog w 28 (by kernel_rfl)
      obtain ⟨u1, u2, u3, u4, u5, u6, u7, u8, u9, u10, u11, u12, u13, u14, u15, u16, u17, u18, u19, u20, u21, u22, u23, u24, u25, u26, u27, u28, u29, u30, u31, u32, u33, u34, u35, u36, u37, u38, u39, u40, u41, u42, u43, u44, u45, u46, u47, u48, u49, u50, u51, u52, u53, u54, u55, u56, u57, u58, u59, u60, u61, u62, u63, rfl⟩ := hF
      change Code.wp _ (Code.seq _ _) _ _ _
      generalize hJM : jumps (JM R B s A w0 res m) (QQ R s A w0 res) = Q
      have HJM := Lib.hid hJM
      clear hJM
      go_wp2_with fail
      refine hT.mono ?_
      rintro e w1 ⟨rfl, hv1, own1, M, hR1, hS1, hB1⟩
      have hT2 := take_no R s k (c + 1) 125 _ L w1 hR1 hs hk HNO.out
      have HR1 := Lib.hid hR1
      have HS1 := Lib.hid hS1
      have HB1 := Lib.hid hB1
      clear hT hR1 hS1 hB1
      go_wp2_with fail
      refine hT2.mono ?_
      rintro e w2 ⟨rfl, k2, hR2, hk2, hd2, hg2⟩
      have hge := skip_ge hk hk2 hd2
      have HR2 := Lib.hid hR2
      have HD2 := Lib.hid hd2
      have HG2 := Lib.hid hg2
      clear hT2 hR2 hd2 hg2
      go_wp2
      go_step3
      rename_i K hK
      have hQ := HJM.out
      subst hQ
      show K _ _
      refine hK _ _ ?_
      refine pass5 R B s A w0 res hBR hs (by unfold FrameIs; exact ⟨_, _, _, _, _, _, _, _, _, _, _, _, _, _, _, _, _, _, _, _, _, _, _, _, _, _, _, _, _, _, _, _, _, _, _, _, _, _, _, _, _, _, _, _, _, _, _, _, _, _, _, _, _, _, _, _, _, _, _, _, _, _, _, rfl⟩) ⟨?_⟩ (mu_le HC.out.rd HR2.out HM.out (by simp only [rank]; omega))
      refine ⟨k2, c + 1, _, L, own1, st, _, [], [], HC.out.next R B s A w0 hBR HR2.out hk2 (HB1.out.trans (below_gb R s HR1.out HG2.out)) c20, (HS1.out.row1 HG2.out).more (by omega), HKO.out, rfl, Nat.le_refl _, ?_⟩
      rw [HRES.out, objA_go (by rw [frs_len]; exact hd) HNO.out, HD2.out, pI_obj_skip, frs_len]
  · have hn : st.length = 32 := by have := hS.deep; omega
    have hT := enter_deep R B s k (c + 1) c hv L w A own st 7 hC.rd hS hC.cond hBR hn
    rw [errVal_some] at hT
    have hr : res = .bad 2 := by rw [hres, objA_deep (by rw [frs_len]; omega)]
    have HR := Lib.hid hr
    clear hm hres hS hC hko hn hr
    have hnn := fun (w : World) (x : Value) => @run_neq_iface_nil Tryz.prog w 28 (by kernel_rfl) 172 x
    obtain ⟨u1, u2, u3, u4, u5, u6, u7, u8, u9, u10, u11, u12, u13, u14, u15, u16, u17, u18, u19, u20, u21, u22, u23, u24, u25, u26, u27, u28, u29, u30, u31, u32, u33, u34, u35, u36, u37, u38, u39, u40, u41, u42, u43, u44, u45, u46, u47, u48, u49, u50, u51, u52, u53, u54, u55, u56, u57, u58, u59, u60, u61, u62, u63, rfl⟩ := hF
    change Code.wp _ (Code.seq _ _) _ _ _
    generalize hJM : jumps (JM R B s A w0 res m) (QQ R s A w0 res) = Q
    have HJM := Lib.hid hJM
    clear hJM
    go_wp2_with fail
    refine hT.mono ?_
    rintro x w1 ⟨rfl, rfl⟩
    clear hT
    go_wp2
    rw [← HJM.out]
    show QQ R s A w0 res Exit.ret _ _
    unfold QQ
    go_ret
    rw [HR.out]
    exact ⟨by omega, rfl, HC.out.below⟩

set_option maxRecDepth 100000 in
set_option maxHeartbeats 2000000 in
theorem pass0 (hBR : B ≤ R) (hs : s.size ≤ 200000) {a : Act} {w : World} {m : Nat} (hF : FrameIs R a) (hJ : J0 R B s A w0 res w) (hm : mu R s 0 a w ≤ m) :
    Code.wp Tryz.prog (afterL 0) (jumps (JM R B s A w0 res m) (QQ R s A w0 res)) a w := by
  obtain ⟨k, c, hv, L, own, st, hC, hS, hko, hres⟩ := hJ.ex
  clear hJ
  have HM := Lib.hid hm
  have hk := hC.hk
  have c20 := hC.c20
  have HC := Lib.hid hC
  have HKO := Lib.hid hko
  have HS := Lib.hid hS
  cases hz : skipB (s.data.toList.drop k) with
  | nil =>
    have hT := begin_end R B s k c hv L w A hC.rd hC.cond hBR hs hk hz
    rw [errVal_some] at hT
    have hr : res = .bad 1 := by rw [hres, val_end hz, after_bad]
    have HR := Lib.hid hr
    clear hm hres hS hC hko hz hr
    have hnn := fun (w : World) (x : Value) => @run_neq_iface_nil Tryz.prog w 28 (by kernel_rfl) 172 x
    obtain ⟨u1, u2, u3, u4, u5, u6, u7, u8, u9, u10, u11, u12, u13, u14, u15, u16, u17, u18, u19, u20, u21, u22, u23, u24, u25, u26, u27, u28, u29, u30, u31, u32, u33, u34, u35, u36, u37, u38, u39, u40, u41, u42, u43, u44, u45, u46, u47, u48, u49, u50, u51, u52, u53, u54, u55, u56, u57, u58, u59, u60, u61, u62, u63, rfl⟩ := hF
    change Code.wp _ (Code.seq _ _) _ _ _
    generalize hJM : jumps (JM R B s A w0 res m) (QQ R s A w0 res) = Q
    have HJM := Lib.hid hJM
    clear hJM
    go_wp2_with fail
    refine hT.mono ?_
    rintro x w1 ⟨rfl, hg1⟩
    have HG1 := Lib.hid hg1
    clear hT hg1
    go_wp2
    rw [← HJM.out]
    show QQ R s A w0 res Exit.ret _ _
    unfold QQ
    go_ret
    rw [HR.out]
    exact ⟨by omega, rfl, HC.out.below.trans (below_gb R s HC.out.rd HG1.out)⟩
  | cons x t =>
    by_cases hc : c = 20000
    · have hT := begin_many R B s k c hv L w A hC.rd hC.cond hBR hs hk hz hc
      rw [errVal_some] at hT
      have hr : res = .bad 3 := by rw [hres, val_many hz (by omega), after_bad]
      have HR := Lib.hid hr
      clear hm hres hS hC hko hz hr hc
      have hnn := fun (w : World) (x : Value) => @run_neq_iface_nil Tryz.prog w 28 (by kernel_rfl) 172 x
      obtain ⟨u1, u2, u3, u4, u5, u6, u7, u8, u9, u10, u11, u12, u13, u14, u15, u16, u17, u18, u19, u20, u21, u22, u23, u24, u25, u26, u27, u28, u29, u30, u31, u32, u33, u34, u35, u36, u37, u38, u39, u40, u41, u42, u43, u44, u45, u46, u47, u48, u49, u50, u51, u52, u53, u54, u55, u56, u57, u58, u59, u60, u61, u62, u63, rfl⟩ := hF
      change Code.wp _ (Code.seq _ _) _ _ _
      generalize hJM : jumps (JM R B s A w0 res m) (QQ R s A w0 res) = Q
      have HJM := Lib.hid hJM
      clear hJM
      go_wp2_with fail
      refine hT.mono ?_
      rintro x w1 ⟨rfl, hg1⟩
      have HG1 := Lib.hid hg1
      clear hT hg1
      go_wp2
      rw [← HJM.out]
      show QQ R s A w0 res Exit.ret _ _
      unfold QQ
      go_ret
      rw [HR.out]
      exact ⟨by omega, rfl, HC.out.below.trans (below_gb R s HC.out.rd HG1.out)⟩
    have hc20 : c < 20000 := by omega
    have hT := begin_ok R s k c hv L w hC.rd hs hk hz hc20
    have HZ := Lib.hid hz
    by_cases h91 : x.toNat = 91
    · have hr : res = arrA (frs st) (c + 1) t := by rw [hres, ← frs_len st, arrA_val hz hc20 h91]
      have HR := Lib.hid hr
      have HX := Lib.hid h91
      clear hm hres hS hC hko hz hr h91
      have hnn := fun (w : World) => @run_neq_nil_nil_at Tryz.prog w 28 (by kernel_rfl)
      obtain ⟨u1, u2, u3, u4, u5, u6, u7, u8, u9, u10, u11, u12, u13, u14, u15, u16, u17, u18, u19, u20, u21, u22, u23, u24, u25, u26, u27, u28, u29, u30, u31, u32, u33, u34, u35, u36, u37, u38, u39, u40, u41, u42, u43, u44, u45, u46, u47, u48, u49, u50, u51, u52, u53, u54, u55, u56, u57, u58, u59, u60, u61, u62, u63, rfl⟩ := hF
      change Code.wp _ (Code.seq _ _) _ _ _
      generalize hJM : jumps (JM R B s A w0 res m) (QQ R s A w0 res) = Q
      have HJM := Lib.hid hJM
      clear hJM
      go_wp2_with fail
      refine hT.mono ?_
      rintro e w1 ⟨rfl, k1, hR1, hk1, hd1, hg1⟩
      have hge := skip_ge hk (by omega) hd1
      have hT2 := take_yes R s k1 (c + 1) 91 hv L w1 hR1 hs (by omega) (by rw [hd1, skipB_idem]; exact HZ.out) HX.out
      have HD1 := Lib.hid hd1
      have HG1 := Lib.hid hg1
      clear hT hR1 hg1 hd1
      go_wp2_with fail
      refine hT2.mono ?_
      rintro e w2 ⟨rfl, k2, hR2, hk2, hd2, hg2⟩
      have hlt2 := skip_len (by rw [HD1.out, skipB_idem]; exact HZ.out) hk2 hd2
      have HR2 := Lib.hid hR2
      have HD2 := Lib.hid hd2
      have HG2 := Lib.hid (gb_trans HG1.out hg2)
      clear hT2 hR2 hd2 hg2
      go_wp2
      go_step3
      rw [← HJM.out]
      show JM R B s A w0 res m 1 _ _
      refine ⟨⟨(by unfold FrameIs; exact ⟨_, _, _, _, _, _, _, _, _, _, _, _, _, _, _, _, _, _, _, _, _, _, _, _, _, _, _, _, _, _, _, _, _, _, _, _, _, _, _, _, _, _, _, _, _, _, _, _, _, _, _, _, _, _, _, _, _, _, _, _, _, _, _, rfl⟩), ⟨?_⟩⟩, mu_lt R s HC.out.rd HR2.out HM.out (by simp only [rank]; omega)⟩
      exact ⟨k2, c, hv, L, own, st, HC.out.next R B s A w0 hBR HR2.out hk2 (below_gb R s HC.out.rd HG2.out) (by omega), HS.out.row1 HG2.out, HKO.out, by rw [HR.out, HD2.out]⟩
    have HN91 : Hid (NoB (s.data.toList.drop k) 91) := by
      show NoB _ _
      intro y u hy
      rw [hz] at hy
      injection hy with e1 e2
      rw [← e1]; exact h91
    by_cases h123 : x.toNat = 123
    · have hr : res = objA (frs st) (c + 1) t := by rw [hres, ← frs_len st, objA_val hz hc20 h123]
      have HR := Lib.hid hr
      have HX := Lib.hid h123
      clear hm hres hS hC hko hz hr h91 h123
      have hnn := fun (w : World) => @run_neq_nil_nil_at Tryz.prog w 28 (by kernel_rfl)
      obtain ⟨u1, u2, u3, u4, u5, u6, u7, u8, u9, u10, u11, u12, u13, u14, u15, u16, u17, u18, u19, u20, u21, u22, u23, u24, u25, u26, u27, u28, u29, u30, u31, u32, u33, u34, u35, u36, u37, u38, u39, u40, u41, u42, u43, u44, u45, u46, u47, u48, u49, u50, u51, u52, u53, u54, u55, u56, u57, u58, u59, u60, u61, u62, u63, rfl⟩ := hF
      change Code.wp _ (Code.seq _ _) _ _ _
      generalize hJM : jumps (JM R B s A w0 res m) (QQ R s A w0 res) = Q
      have HJM := Lib.hid hJM
      clear hJM
      go_wp2_with fail
      refine hT.mono ?_
      rintro e w1 ⟨rfl, k1, hR1, hk1, hd1, hg1⟩
      have hge := skip_ge hk (by omega) hd1
      have hT2 := take_no R s k1 (c + 1) 91 hv L w1 hR1 hs (by omega) (HN91.out.skip hd1)
      have HD1 := Lib.hid hd1
      have HG1 := Lib.hid hg1
      clear hT hR1 hg1 hd1
      go_wp2_with fail
      refine hT2.mono ?_
      rintro e w2 ⟨rfl, k2, hR2, hk2, hd2, hg2⟩
      have hge2 := skip_ge (by omega) hk2 hd2
      have hT3 := take_yes R s k2 (c + 1) 123 hv L w2 hR2 hs hk2 (by rw [hd2, HD1.out, skipB_idem, skipB_idem]; exact HZ.out) HX.out
      have HD2 := Lib.hid hd2
      have HG2 := Lib.hid (gb_trans HG1.out hg2)
      clear hT2 hR2 hd2 hg2
      go_wp2_with fail
      refine hT3.mono ?_
      rintro e w3 ⟨rfl, k3, hR3, hk3, hd3, hg3⟩
      have hlt2 := skip_len (by rw [HD2.out, HD1.out, skipB_idem, skipB_idem]; exact HZ.out) hk3 hd3
      have HR3 := Lib.hid hR3
      have HD3 := Lib.hid hd3
      have HG3 := Lib.hid (gb_trans HG2.out hg3)
      clear hT3 hR3 hd3 hg3
      go_wp2
      go_step3
      rw [← HJM.out]
      show JM R B s A w0 res m 2 _ _
      refine ⟨⟨(by unfold FrameIs; exact ⟨_, _, _, _, _, _, _, _, _, _, _, _, _, _, _, _, _, _, _, _, _, _, _, _, _, _, _, _, _, _, _, _, _, _, _, _, _, _, _, _, _, _, _, _, _, _, _, _, _, _, _, _, _, _, _, _, _, _, _, _, _, _, _, rfl⟩), ⟨?_⟩⟩, mu_lt R s HC.out.rd HR3.out HM.out (by simp only [rank]; omega)⟩
      exact ⟨k3, c, hv, L, own, st, HC.out.next R B s A w0 hBR HR3.out hk3 (below_gb R s HC.out.rd HG3.out) (by omega), HS.out.row1 HG3.out, HKO.out, by rw [HR.out, HD3.out]⟩
    have HN123 : Hid (NoB (s.data.toList.drop k) 123) := by
      show NoB _ _
      intro y u hy
      rw [hz] at hy
      injection hy with e1 e2
      rw [← e1]; exact h123
    rw [val_leaf hz hc20 h91 h123] at hres
    have hst := hS.deep
    cases hlr : leafR (x :: t) (c + 1) with
    | bad e0 =>
      have hr : res = .bad e0 := by rw [hres, hlr, after_bad]
      have HR := Lib.hid hr
      have HLR := Lib.hid hlr
      clear hm hres hS hC hko hz hr h91 h123 hlr
      have hnn := fun (w : World) (x : Value) => @run_neq_iface_nil Tryz.prog w 28 (by kernel_rfl) 172 x
      obtain ⟨u1, u2, u3, u4, u5, u6, u7, u8, u9, u10, u11, u12, u13, u14, u15, u16, u17, u18, u19, u20, u21, u22, u23, u24, u25, u26, u27, u28, u29, u30, u31, u32, u33, u34, u35, u36, u37, u38, u39, u40, u41, u42, u43, u44, u45, u46, u47, u48, u49, u50, u51, u52, u53, u54, u55, u56, u57, u58, u59, u60, u61, u62, u63, rfl⟩ := hF
      change Code.wp _ (Code.seq _ _) _ _ _
      generalize hJM : jumps (JM R B s A w0 res m) (QQ R s A w0 res) = Q
      have hnl := fun (w : World) => @run_neq_nil_nil_at Tryz.prog w 28 (by kernel_rfl)
      have HJM := Lib.hid hJM
      clear hJM
      go_wp2_with fail
      refine hT.mono ?_
      rintro e w1 ⟨rfl, k1, hR1, hk1, hd1, hg1⟩
      have hge := skip_ge hk (by omega) hd1
      have hT2 := take_no R s k1 (c + 1) 91 hv L w1 hR1 hs (by omega) (HN91.out.skip hd1)
      have HD1 := Lib.hid hd1
      have HG1 := Lib.hid hg1
      clear hT hR1 hg1 hd1
      go_wp2_with fail
      refine hT2.mono ?_
      rintro e w2 ⟨rfl, k2, hR2, hk2, hd2, hg2⟩
      have hd2' : s.data.toList.drop k2 = skipB (s.data.toList.drop k) := by rw [hd2, HD1.out, skipB_idem]
      have hT3 := take_no R s k2 (c + 1) 123 hv L w2 hR2 hs hk2 (HN123.out.skip hd2')
      have HD2 := Lib.hid hd2'
      have HG2 := Lib.hid (gb_trans HG1.out hg2)
      clear hT2 hR2 hd2 hg2 hd2'
      go_wp2_with fail
      refine hT3.mono ?_
      rintro e w3 ⟨rfl, k3, hR3, hk3, hd3, hg3⟩
      have hd3' : s.data.toList.drop k3 = x :: t := by rw [hd3, HD2.out, skipB_idem, HZ.out]
      have hG3 := gb_trans HG2.out hg3
      have hT4 := leaf_any R B s k3 (c + 1) (c + 1) hv L w3 A hR3 (HC.out.cond.row hG3 hBR) hBR hs (drop_cons hd3').1
      rw [hd3', HLR.out] at hT4
      have HG3 := Lib.hid hG3
      clear hT3 hR3 hd3 hg3 hG3 hd3'
      go_wp2_with fail
      refine hT4.mono ?_
      rintro e w4 ⟨hpos, rfl, hg4⟩
      rw [errVal_some]
      have HG4 := Lib.hid (gb_trans HG3.out hg4)
      clear hT4 hg4
      go_wp2
      rw [← HJM.out]
      show QQ R s A w0 res Exit.ret _ _
      unfold QQ
      go_ret
      rw [HR.out]
      exact ⟨hpos, rfl, HC.out.below.trans (below_gb R s HC.out.rd HG4.out)⟩
    | ok v r c' =>
      obtain ⟨rfl, hrl⟩ := leafR_ok hlr
      have hr : res = after (frs st) (.ok v r (c + 1)) := by rw [hres, hlr]
      have HR := Lib.hid hr
      have HLR := Lib.hid hlr
      have hxt := skipB_le (s.data.toList.drop k)
      rw [hz, List.length_drop, size_list] at hxt
      clear hm hres hS hC hko hz hr h91 h123 hlr
      have hnn := fun (w : World) => @run_neq_nil_nil_at Tryz.prog w 28 (by kernel_rfl)
      obtain ⟨u1, u2, u3, u4, u5, u6, u7, u8, u9, u10, u11, u12, u13, u14, u15, u16, u17, u18, u19, u20, u21, u22, u23, u24, u25, u26, u27, u28, u29, u30, u31, u32, u33, u34, u35, u36, u37, u38, u39, u40, u41, u42, u43, u44, u45, u46, u47, u48, u49, u50, u51, u52, u53, u54, u55, u56, u57, u58, u59, u60, u61, u62, u63, rfl⟩ := hF
      change Code.wp _ (Code.seq _ _) _ _ _
      generalize hJM : jumps (JM R B s A w0 res m) (QQ R s A w0 res) = Q
      have HJM := Lib.hid hJM
      clear hJM
      go_wp2_with fail
      refine hT.mono ?_
      rintro e w1 ⟨rfl, k1, hR1, hk1, hd1, hg1⟩
      have hge := skip_ge hk (by omega) hd1
      have hT2 := take_no R s k1 (c + 1) 91 hv L w1 hR1 hs (by omega) (HN91.out.skip hd1)
      have HD1 := Lib.hid hd1
      have HG1 := Lib.hid hg1
      clear hT hR1 hg1 hd1
      go_wp2_with fail
      refine hT2.mono ?_
      rintro e w2 ⟨rfl, k2, hR2, hk2, hd2, hg2⟩
      have hd2' : s.data.toList.drop k2 = skipB (s.data.toList.drop k) := by rw [hd2, HD1.out, skipB_idem]
      have hT3 := take_no R s k2 (c + 1) 123 hv L w2 hR2 hs hk2 (HN123.out.skip hd2')
      have HD2 := Lib.hid hd2'
      have HG2 := Lib.hid (gb_trans HG1.out hg2)
      clear hT2 hR2 hd2 hg2 hd2'
      go_wp2_with fail
      refine hT3.mono ?_
      rintro e w3 ⟨rfl, k3, hR3, hk3, hd3, hg3⟩
      have hd3' : s.data.toList.drop k3 = x :: t := by rw [hd3, HD2.out, skipB_idem, HZ.out]
      have hG3 := gb_trans HG2.out hg3
      have hT4 := leaf_any R B s k3 (c + 1) (c + 1) hv L w3 A hR3 (HC.out.cond.row hG3 hBR) hBR hs (drop_cons hd3').1
      rw [hd3', HLR.out] at hT4
      have HG3 := Lib.hid hG3
      clear hT3 hR3 hd3 hg3 hG3 hd3'
      go_wp2_with fail
      refine hT4.mono ?_
      rintro e w4 ⟨rfl, z, hzs, hdz, kd, nn, tt, hv4, hR4, hg4⟩
      have HR4 := Lib.hid hR4
      have HD4 := Lib.hid hdz
      have HV4 := Lib.hid hv4
      have HG4 := Lib.hid (gb_trans HG3.out hg4)
      clear hT4 hg4 hR4 hdz hv4
      go_wp2
      go_step3
      rw [← HJM.out]
      show JM R B s A w0 res m 3 _ _
      have hzl := congrArg List.length HD4.out
      rw [List.length_drop, size_list] at hzl
      refine ⟨⟨(by unfold FrameIs; exact ⟨_, _, _, _, _, _, _, _, _, _, _, _, _, _, _, _, _, _, _, _, _, _, _, _, _, _, _, _, _, _, _, _, _, _, _, _, _, _, _, _, _, _, _, _, _, _, _, _, _, _, _, _, _, _, _, _, _, _, _, _, _, _, _, rfl⟩), ⟨?_⟩⟩, mu_lt R s HC.out.rd HR4.out HM.out (by simp only [rank]; omega)⟩
      refine ⟨z, c, hv, _, own, st, v, HC.out.next R B s A w0 hBR HR4.out hzs (below_gb R s HC.out.rd HG4.out) (by omega), HS.out.row1 HG4.out, HKO.out, ?_, by rw [HR.out, HD4.out]⟩
      rw [HV4.out]
      exact leaf_nis _ _ _ _ _ _ (by omega)
end

end Go.Proofs.YtlaagdpanbineaaGreatDoor

