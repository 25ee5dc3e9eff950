/- The program's reader of JSON: the passes behind a value, and at the end of an Array or Object. -/
import Derived.Test.YtlaagdpanbineaaGreatDoorGt
namespace Go.Proofs.YtlaagdpanbineaaGreatDoor
open Go.RowKit
open I2 (errVal errVal_some errVal_none)

theorem after_kid (st : List Fr) (acc : List NT) (v : NT) (c : Nat) (l : List UInt8) : after (.arr acc :: st) (.ok v l c) = kidA st (acc ++ [v]) c l := rfl
theorem after_mem (st : List Fr) (ks : List (List UInt8)) (acc : List NT) (v : NT) (c : Nat) (l : List UInt8) : after (.obj ks acc :: st) (.ok v l c) = memA st ks (acc ++ [v]) c l := rfl
theorem mu_le {R : Nat} {s : ByteArray} {m : Nat} {a a' : Act} {w w' : World} {k k' c c' l l' : Nat} {hv hv' : Value} {L L' : LV} (h : RdP w R s k c hv L) (h' : RdP w' R s k' c' hv' L') (hm : mu R s l a w ≤ m) (hle : 16 * (s.size - k') + rank l' ≤ 16 * (s.size - k) + rank l) : mu R s l' a' w' ≤ m := by
  unfold mu at hm ⊢
  rw [h.at] at hm
  rw [h'.at]
  omega
theorem Stk.less {w : World} {N c : Nat} {own : Nat → Nat} {hv : Value} {hs : List HRec} (h : Stk w N own hv hs (c + 1)) (hl : ltAll hs (c + 1)) : Stk w N own hv hs c :=
  ⟨h.row, h.rowT, h.each, fun i hi => by have := hl hs[i] (List.getElem_mem hi); omega, h.deep⟩
theorem Stk.lt {w : World} {N c : Nat} {own : Nat → Nat} {hv : Value} {hs : List HRec} (h : Stk w N own hv hs c) : ltAll hs (c + 1) := fun x hx => by
  obtain ⟨i, hi, rfl⟩ := List.mem_iff_getElem.1 hx
  have := h.cnt i hi; omega
theorem ltAll_of {hs : List HRec} {h : HRec} {c : Nat} (hl : ltAll (hs ++ [h]) c) : ltAll hs c ∧ h.fr.kids.length < c := ⟨fun x hx => hl x (List.mem_append_left _ hx), hl h (by simp)⟩

section
variable (R B : Nat) (s : ByteArray) (A : Nat → Addr) (w0 : World) (res : Ans)

set_option maxRecDepth 100000 in
set_option maxHeartbeats 2000000 in
theorem pass3 (hBR : B ≤ R) (hs : s.size ≤ 200000) {a : Act} {w : World} {m : Nat} (hF : FrameIs R a) (hJ : J3 R B s A w0 res w) (hm : mu R s 3 a w ≤ m) :
    Code.wp Tryz.prog (afterL 3) (jumps (JM R B s A w0 res m) (QQ R s A w0 res)) a w := by
  obtain ⟨k, c, hv, L, own, hst, v, hC, hS, hko, hN, hres⟩ := hJ.ex
  clear hJ
  have HRES := Lib.hid hres
  have HM := Lib.hid hm
  have HC := Lib.hid hC
  have hk := hC.hk
  have c20 := hC.c20
  rcases List.eq_nil_or_concat hst with rfl | ⟨st, h, rfl⟩
  · have hT := keep_none R s k (c + 1) c hv L w own hC.rd hS
    have HN := Lib.hid hN
    cases hz : skipB (s.data.toList.drop k) with
    | nil =>
      have hE := end_yes R s k (c + 1) hv L w hC.rd hs hC.hk hz
      have HZ := Lib.hid hz
      clear hm hres hS hC hko hN hz
      obtain ⟨u1, u2, u3, u4, u5, u6, u7, u8, u9, u10, u11, u12, u13, u14, u15, u16, u17, u18, u19, u20, u21, u22, u23, u24, u25, u26, u27, u28, u29, u30, u31, u32, u33, u34, u35, u36, u37, u38, u39, u40, u41, u42, u43, u44, u45, u46, u47, u48, u49, u50, u51, u52, u53, u54, u55, u56, u57, u58, u59, u60, u61, u62, u63, rfl⟩ := hF
      change Code.wp _ (Code.seq _ _) _ _ _
      generalize hJM : jumps (JM R B s A w0 res m) (QQ R s A w0 res) = Q
      have HJM := Lib.hid hJM
      clear hJM
      go_wp2_with fail
      refine hT.mono ?_
      rintro x w1 ⟨rfl, rfl⟩
      clear hT
      go_wp2_with fail
      refine hE.mono ?_
      rintro x w2 ⟨rfl, k2, hR2, hg2⟩
      have HR2 := Lib.hid hR2
      have HG2 := Lib.hid hg2
      clear hE hR2 hg2
      go_wp2
      rw [← HJM.out]
      show QQ R s A w0 res Exit.ret _ _
      unfold QQ
      go_ret
      have hr : res = .ok v := by
        rw [HRES.out]
        show (if skipB (s.data.toList.drop k) = [] then Ans.ok v else .bad 1) = _
        rw [if_pos HZ.out]
      rw [hr]
      refine ⟨rfl, HC.out.below.trans (below_gb R s HC.out.rd HG2.out), k2, c + 1, hv, L, HR2.out, HN.out.kept HG2.out.size (fun b hb hlt => ⟨hb.1, HG2.out.block b hlt (by simp; omega)⟩)⟩
    | cons y u =>
      have hE := end_no R B s k (c + 1) hv L w A hC.rd hC.cond hBR hs hC.hk hz
      have HZ := Lib.hid hz
      clear hm hres hS hC hko hN hz
      obtain ⟨u1, u2, u3, u4, u5, u6, u7, u8, u9, u10, u11, u12, u13, u14, u15, u16, u17, u18, u19, u20, u21, u22, u23, u24, u25, u26, u27, u28, u29, u30, u31, u32, u33, u34, u35, u36, u37, u38, u39, u40, u41, u42, u43, u44, u45, u46, u47, u48, u49, u50, u51, u52, u53, u54, u55, u56, u57, u58, u59, u60, u61, u62, u63, rfl⟩ := hF
      change Code.wp _ (Code.seq _ _) _ _ _
      generalize hJM : jumps (JM R B s A w0 res m) (QQ R s A w0 res) = Q
      have HJM := Lib.hid hJM
      clear hJM
      go_wp2_with fail
      refine hT.mono ?_
      rintro x w1 ⟨rfl, rfl⟩
      clear hT
      go_wp2_with fail
      refine hE.mono ?_
      rintro x w2 ⟨rfl, hg2⟩
      have HG2 := Lib.hid hg2
      clear hE hg2
      go_wp2
      rw [← HJM.out]
      show QQ R s A w0 res Exit.ret _ _
      unfold QQ
      go_ret
      have hr : res = .bad 1 := by
        rw [HRES.out]
        show (if skipB (s.data.toList.drop k) = [] then Ans.ok v else .bad 1) = _
        rw [if_neg (by rw [HZ.out]; simp)]
      rw [hr]
      exact ⟨by omega, rfl, HC.out.below.trans (below_gb R s HC.out.rd HG2.out)⟩
  · rw [List.concat_eq_append] at *
    obtain ⟨g, cap, rfl, _, _, _⟩ := own_pop hS.row
    obtain ⟨n, hn⟩ : ∃ n, st.length = n := ⟨_, rfl⟩
    have hl := ltAll_of hS.lt
    have hk2 := keysOk_of hko
    rw [List.length_append, List.length_singleton, show 33 - (st.length + 1) = 32 - n by omega] at hN
    rw [hn] at hS hC HC
    have hT := keep_some R s k (c + 1) (c + 1) L w own st h n g cap v hC.rd (hS.more (by omega)) hn hN hl.2 hC.c20
    have HKO := Lib.hid hk2
    have HLT := Lib.hid hl
    have HN := Lib.hid hn
    cases hfr : h.fr with
    | arr acc =>
      have hkind : h.fr.kind = 6 := by rw [hfr]; rfl
      rw [hkind] at hT
      have HFR := Lib.hid hfr
      clear hm hres hS hC hko hN hk2 hl hn hfr hkind
      obtain ⟨u1, u2, u3, u4, u5, u6, u7, u8, u9, u10, u11, u12, u13, u14, u15, u16, u17, u18, u19, u20, u21, u22, u23, u24, u25, u26, u27, u28, u29, u30, u31, u32, u33, u34, u35, u36, u37, u38, u39, u40, u41, u42, u43, u44, u45, u46, u47, u48, u49, u50, u51, u52, u53, u54, u55, u56, u57, u58, u59, u60, u61, u62, u63, rfl⟩ := hF
      change Code.wp _ (Code.seq _ _) _ _ _
      generalize hJM : jumps (JM R B s A w0 res m) (QQ R s A w0 res) = Q
      have HJM := Lib.hid hJM
      clear hJM
      go_wp2_with fail
      refine hT.mono ?_
      rintro x w1 ⟨rfl, hK⟩
      have HK := Lib.hid hK
      clear hT hK
      go_wp2
      go_step3
      rw [← HJM.out]
      show JM R B s A w0 res m 6 _ _
      obtain ⟨own', gg, cap', hR1, hS1, hB1⟩ := HK.out
      refine ⟨⟨(by unfold FrameIs; exact ⟨_, _, _, _, _, _, _, _, _, _, _, _, _, _, _, _, _, _, _, _, _, _, _, _, _, _, _, _, _, _, _, _, _, _, _, _, _, _, _, _, _, _, _, _, _, _, _, _, _, _, _, _, _, _, _, _, _, _, _, _, _, _, _, rfl⟩), ⟨?_⟩⟩, mu_lt R s HC.out.rd hR1 HM.out (by simp only [rank]; omega)⟩
      refine ⟨k, c, _, L, own', st, _, acc ++ [v], HC.out.next R B s A w0 hBR hR1 hk hB1 c20, hS1, HLT.out.1, HKO.out.1, ?_, ?_⟩
      · show h.fr.push v = _
        rw [HFR.out]; rfl
      · rw [HRES.out, frs_snoc, HFR.out, after_kid]
    | obj ks acc =>
      have hkind : h.fr.kind = 7 := by rw [hfr]; rfl
      rw [hkind] at hT
      have HFR := Lib.hid hfr
      clear hm hres hS hC hko hN hk2 hl hn hfr hkind
      obtain ⟨u1, u2, u3, u4, u5, u6, u7, u8, u9, u10, u11, u12, u13, u14, u15, u16, u17, u18, u19, u20, u21, u22, u23, u24, u25, u26, u27, u28, u29, u30, u31, u32, u33, u34, u35, u36, u37, u38, u39, u40, u41, u42, u43, u44, u45, u46, u47, u48, u49, u50, u51, u52, u53, u54, u55, u56, u57, u58, u59, u60, u61, u62, u63, rfl⟩ := hF
      change Code.wp _ (Code.seq _ _) _ _ _
      generalize hJM : jumps (JM R B s A w0 res m) (QQ R s A w0 res) = Q
      have HJM := Lib.hid hJM
      clear hJM
      go_wp2_with fail
      refine hT.mono ?_
      rintro x w1 ⟨rfl, hK⟩
      have HK := Lib.hid hK
      clear hT hK
      go_wp2
      go_step3
      rw [← HJM.out]
      show JM R B s A w0 res m 7 _ _
      obtain ⟨own', gg, cap', hR1, hS1, hB1⟩ := HK.out
      refine ⟨⟨(by unfold FrameIs; exact ⟨_, _, _, _, _, _, _, _, _, _, _, _, _, _, _, _, _, _, _, _, _, _, _, _, _, _, _, _, _, _, _, _, _, _, _, _, _, _, _, _, _, _, _, _, _, _, _, _, _, _, _, _, _, _, _, _, _, _, _, _, _, _, _, rfl⟩), ⟨?_⟩⟩, mu_lt R s HC.out.rd hR1 HM.out (by simp only [rank]; omega)⟩
      refine ⟨k, c, _, L, own', st, _, ks, acc ++ [v], HC.out.next R B s A w0 hBR hR1 hk hB1 c20, hS1, HLT.out.1, HKO.out.1, ?_, ?_, ?_⟩
      · show h.fr.push v = _
        rw [HFR.out]; rfl
      · have := HKO.out.2
        rw [HFR.out] at this
        rw [List.length_append]
        exact this
      · rw [HRES.out, frs_snoc, HFR.out, after_mem]

set_option maxRecDepth 100000 in
set_option maxHeartbeats 2000000 in
theorem pass4 (hBR : B ≤ R) (hs : s.size ≤ 200000) {a : Act} {w : World} {m : Nat} (hF : FrameIs R a) (hJ : J4 R B s A w0 res w) (hm : mu R s 4 a w ≤ m) :
    Code.wp Tryz.prog (afterL 4) (jumps (JM R B s A w0 res m) (QQ R s A w0 res)) a w := by
  obtain ⟨k, c, hv, L, own, st, h, hC, hS, hlt, hko, hres⟩ := hJ.ex
  clear hJ
  have HRES := Lib.hid hres
  have HM := Lib.hid hm
  obtain ⟨g, cap, rfl, _, _, _⟩ := own_pop hS.row
  obtain ⟨n, hn⟩ : ∃ n, st.length = n := ⟨_, rfl⟩
  obtain ⟨own', hS', hN'⟩ := leave_stk hS
  rw [hn] at hS hC hS' hN'
  have HC := Lib.hid hC
  have hk := hC.hk
  have c20 := hC.c20
  have hT := leave_any R s k (c + 1) (c + 1) L w own st h n g cap hC.rd hS hn
  have HS := Lib.hid (hS'.less hlt)
  have HN' := Lib.hid hN'
  have HN := Lib.hid hn
  have HKO := Lib.hid hko
  clear hm hres hS hC hlt hko hS' hN' hn
  obtain ⟨u1, u2, u3, u4, u5, u6, u7, u8, u9, u10, u11, u12, u13, u14, u15, u16, u17, u18, u19, u20, u21, u22, u23, u24, u25, u26, u27, u28, u29, u30, u31, u32, u33, u34, u35, u36, u37, u38, u39, u40, u41, u42, u43, u44, u45, u46, u47, u48, u49, u50, u51, u52, u53, u54, u55, u56, u57, u58, u59, u60, u61, u62, u63, rfl⟩ := hF
  change Code.wp _ (Code.seq _ _) _ _ _
  generalize hJM : jumps (JM R B s A w0 res m) (QQ R s A w0 res) = Q
  have HJM := Lib.hid hJM
  clear hJM
  go_wp2_with fail
  refine hT.mono ?_
  rintro x w1 ⟨rfl, hR1, hg1⟩
  have HR1 := Lib.hid hR1
  have HG1 := Lib.hid hg1
  clear hT hR1 hg1
  go_wp2
  go_step3
  rename_i K hK
  have hQ := HJM.out
  subst hQ
  show K _ _
  refine hK _ _ ?_
  refine pass3 R B s A w0 res hBR hs (by unfold FrameIs; exact ⟨_, _, _, _, _, _, _, _, _, _, _, _, _, _, _, _, _, _, _, _, _, _, _, _, _, _, _, _, _, _, _, _, _, _, _, _, _, _, _, _, _, _, _, _, _, _, _, _, _, _, _, _, _, _, _, _, _, _, _, _, _, _, _, rfl⟩) ⟨?_⟩ (mu_le HC.out.rd HR1.out HM.out (by simp only [rank]; omega))
  refine ⟨k, c, _, _, own', st, _, HC.out.next R B s A w0 hBR HR1.out hk (below_gb R s HC.out.rd HG1.out) c20, HS.out.row1 HG1.out, HKO.out, ?_, HRES.out⟩
  rw [HN.out]
  exact HN'.out.kept HG1.out.size (fun b hb hlt => ⟨hb, HG1.out.block b hlt (by simp; omega)⟩)
end

end Go.Proofs.YtlaagdpanbineaaGreatDoor

