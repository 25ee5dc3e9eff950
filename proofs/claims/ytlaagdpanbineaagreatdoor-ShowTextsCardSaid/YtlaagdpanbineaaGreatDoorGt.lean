/- The program's reader of JSON: the passes behind a kid, behind a member. -/
import Derived.Test.YtlaagdpanbineaaGreatDoorGf
namespace Go.Proofs.YtlaagdpanbineaaGreatDoor
open Go.RowKit
open I2 (errVal errVal_some errVal_none)

theorem keysOk_snoc {hs : List HRec} {h : HRec} (hk : keysOk hs) (h1 : h.fr.keys.length ≤ h.fr.kids.length + 1) : keysOk (hs ++ [h]) := by
  intro x hx
  rcases List.mem_append.1 hx with e | e
  · exact hk x e
  · simp at e; rw [e]; exact h1
theorem keysOk_of {hs : List HRec} {h : HRec} (hk : keysOk (hs ++ [h])) : keysOk hs ∧ h.fr.keys.length ≤ h.fr.kids.length + 1 :=
  ⟨fun x hx => hk x (List.mem_append_left _ hx), hk h (by simp)⟩

section
variable (R B : Nat) (s : ByteArray) (A : Nat → Addr) (w0 : World) (res : Ans)

set_option maxRecDepth 100000 in
set_option maxHeartbeats 2000000 in
theorem pass6 (hBR : B ≤ R) (hs : s.size ≤ 200000) {a : Act} {w : World} {m : Nat} (hF : FrameIs R a) (hJ : J6 R B s A w0 res w) (hm : mu R s 6 a w ≤ m) :
    Code.wp Tryz.prog (afterL 6) (jumps (JM R B s A w0 res m) (QQ R s A w0 res)) a w := by
  obtain ⟨k, c, hv, L, own, st, h, acc, hC, hS, hlt, hko, hfr, hres⟩ := hJ.ex
  clear hJ
  obtain ⟨u1x, hu1x⟩ : ∃ u, res = u := ⟨_, rfl⟩
  have HRES := Lib.hid hres
  have HM := Lib.hid hm
  have HFR := Lib.hid hfr
  have HS := Lib.hid hS
  have HC := Lib.hid hC
  have HL := Lib.hid hlt
  have HKO := Lib.hid hko
  have hk := hC.hk
  clear hu1x u1x
  rcases next_cases (s.data.toList.drop k) 44 with ⟨y, u, hy, hb⟩ | hno
  · have hT := take_yes R s k (c + 1) 44 hv L w hC.rd hs hC.hk hy hb
    have HY := Lib.hid hy
    have HB := Lib.hid hb
    clear hm hres hfr hS hC hlt hko hy hb
    obtain ⟨u1, u2, u3, u4, u5, u6, u7, u8, u9, u10, u11, u12, u13, u14, u15, u16, u17, u18, u19, u20, u21, u22, u23, u24, u25, u26, u27, u28, u29, u30, u31, u32, u33, u34, u35, u36, u37, u38, u39, u40, u41, u42, u43, u44, u45, u46, u47, u48, u49, u50, u51, u52, u53, u54, u55, u56, u57, u58, u59, u60, u61, u62, u63, rfl⟩ := hF
    change Code.wp _ (Code.seq _ _) _ _ _
    generalize hJM : jumps (JM R B s A w0 res m) (QQ R s A w0 res) = Q
    have HJM := Lib.hid hJM
    clear hJM
    go_wp2_with fail
    refine hT.mono ?_
    rintro x w1 ⟨rfl, k1, hR1, hk1, hd1, hg1⟩
    have hlt2 := skip_len HY.out hk1 hd1
    have HR1 := Lib.hid hR1
    have HD1 := Lib.hid hd1
    have HG1 := Lib.hid hg1
    clear hT hR1 hd1 hg1
    go_wp2
    go_step3
    rw [← HJM.out]
    show JM R B s A w0 res m 0 _ _
    refine ⟨⟨(by unfold FrameIs; exact ⟨_, _, _, _, _, _, _, _, _, _, _, _, _, _, _, _, _, _, _, _, _, _, _, _, _, _, _, _, _, _, _, _, _, _, _, _, _, _, _, _, _, _, _, _, _, _, _, _, _, _, _, _, _, _, _, _, _, _, _, _, _, _, _, rfl⟩), ⟨?_⟩⟩, mu_lt R s HC.out.rd HR1.out HM.out (by simp only [rank]; omega)⟩
    refine ⟨k1, c + 1, hv, L, own, st ++ [h], HC.out.next R B s A w0 hBR HR1.out hk1 (below_gb R s HC.out.rd HG1.out) HC.out.c20, HS.out.row1 HG1.out, keysOk_snoc HKO.out (by rw [HFR.out]; simp [Fr.keys]), ?_⟩
    rw [HRES.out, frs_snoc, HFR.out, HD1.out, List.length_append, List.length_singleton]
    have ha := after_arr (frs st) acc (c + 1) u
    rw [frs_len] at ha
    rw [← ha]
    unfold kidA
    rw [HY.out]
    simp only []
    rw [if_neg (by have := HB.out; omega), if_pos HB.out, frs_len]
  · have hT := take_no R s k (c + 1) 44 hv L w hC.rd hs hC.hk hno
    have HNO := Lib.hid hno
    rcases next_cases (s.data.toList.drop k) 93 with ⟨y, u, hy, hb⟩ | hno2
    · have HY := Lib.hid hy
      have HB := Lib.hid hb
      clear hm hres hfr hS hC hlt hko hno hy hb
      obtain ⟨u1, u2, u3, u4, u5, u6, u7, u8, u9, u10, u11, u12, u13, u14, u15, u16, u17, u18, u19, u20, u21, u22, u23, u24, u25, u26, u27, u28, u29, u30, u31, u32, u33, u34, u35, u36, u37, u38, u39, u40, u41, u42, u43, u44, u45, u46, u47, u48, u49, u50, u51, u52, u53, u54, u55, u56, u57, u58, u59, u60, u61, u62, u63, rfl⟩ := hF
      change Code.wp _ (Code.seq _ _) _ _ _
      generalize hJM : jumps (JM R B s A w0 res m) (QQ R s A w0 res) = Q
      have HJM := Lib.hid hJM
      clear hJM
      go_wp2_with fail
      refine hT.mono ?_
      rintro x w1 ⟨rfl, k1, hR1, hk1, hd1, hg1⟩
      have hge := skip_ge hk hk1 hd1
      have hT2 := take_yes R s k1 (c + 1) 93 hv L w1 hR1 hs hk1 (by rw [hd1, skipB_idem]; exact HY.out) HB.out
      have HR1 := Lib.hid hR1
      have HD1 := Lib.hid hd1
      have HG1 := Lib.hid hg1
      clear hT hR1 hd1 hg1
      go_wp2_with fail
      refine hT2.mono ?_
      rintro x w2 ⟨rfl, k2, hR2, hk2, hd2, hg2⟩
      have hlt2 := skip_len (by rw [HD1.out, skipB_idem]; exact HY.out) hk2 hd2
      have HR2 := Lib.hid hR2
      have HD2 := Lib.hid hd2
      have HG2 := Lib.hid (gb_trans HG1.out hg2)
      clear hT2 hR2 hd2 hg2
      go_wp2
      go_step3
      rw [← HJM.out]
      show JM R B s A w0 res m 4 _ _
      refine ⟨⟨(by unfold FrameIs; exact ⟨_, _, _, _, _, _, _, _, _, _, _, _, _, _, _, _, _, _, _, _, _, _, _, _, _, _, _, _, _, _, _, _, _, _, _, _, _, _, _, _, _, _, _, _, _, _, _, _, _, _, _, _, _, _, _, _, _, _, _, _, _, _, _, rfl⟩), ⟨?_⟩⟩, mu_lt R s HC.out.rd HR2.out HM.out (by simp only [rank]; omega)⟩
      refine ⟨k2, c, hv, L, own, st, h, HC.out.next R B s A w0 hBR HR2.out hk2 (below_gb R s HC.out.rd HG2.out) HC.out.c20, HS.out.row1 HG2.out, HL.out, HKO.out, ?_⟩
      rw [HRES.out, HFR.out, HD2.out]
      unfold kidA
      rw [HY.out]
      simp only []
      rw [if_pos HB.out]
      rfl
    · have HN2 := Lib.hid hno2
      clear hm hres hfr hS hC hlt hko hno hno2
      obtain ⟨u1, u2, u3, u4, u5, u6, u7, u8, u9, u10, u11, u12, u13, u14, u15, u16, u17, u18, u19, u20, u21, u22, u23, u24, u25, u26, u27, u28, u29, u30, u31, u32, u33, u34, u35, u36, u37, u38, u39, u40, u41, u42, u43, u44, u45, u46, u47, u48, u49, u50, u51, u52, u53, u54, u55, u56, u57, u58, u59, u60, u61, u62, u63, rfl⟩ := hF
      change Code.wp _ (Code.seq _ _) _ _ _
      generalize hJM : jumps (JM R B s A w0 res m) (QQ R s A w0 res) = Q
      have HJM := Lib.hid hJM
      clear hJM
      go_wp2_with fail
      refine hT.mono ?_
      rintro x w1 ⟨rfl, k1, hR1, hk1, hd1, hg1⟩
      have hT2 := take_no R s k1 (c + 1) 93 hv L w1 hR1 hs hk1 (HN2.out.skip hd1)
      have HG1 := Lib.hid hg1
      clear hT hR1 hd1 hg1
      go_wp2_with fail
      refine hT2.mono ?_
      rintro x w2 ⟨rfl, k2, hR2, hk2, hd2, hg2⟩
      have HG2 := Lib.hid (gb_trans HG1.out hg2)
      have ce : w2.cell? ⟨1, 0, none⟩ = _ := (HC.out.cond.row HG2.out hBR).err 0 (by omega)
      clear hT2 hR2 hd2 hg2
      go_wp2
      rw [← HJM.out]
      show QQ R s A w0 res Exit.ret _ _
      unfold QQ
      go_ret
      have hr : res = .bad 1 := by
        rw [HRES.out]
        unfold kidA
        cases hz : skipB (s.data.toList.drop k) with
        | nil => rfl
        | cons y u =>
          simp only []
          rw [if_neg (HN2.out y u hz), if_neg (HNO.out y u hz)]
      rw [hr]
      exact ⟨by omega, rfl, HC.out.below.trans (below_gb R s HC.out.rd HG2.out)⟩

set_option maxRecDepth 100000 in
set_option maxHeartbeats 2000000 in
theorem pass7 (hBR : B ≤ R) (hs : s.size ≤ 200000) {a : Act} {w : World} {m : Nat} (hF : FrameIs R a) (hJ : J7 R B s A w0 res w) (hm : mu R s 7 a w ≤ m) :
    Code.wp Tryz.prog (afterL 7) (jumps (JM R B s A w0 res m) (QQ R s A w0 res)) a w := by
  obtain ⟨k, c, hv, L, own, st, h, ks, acc, hC, hS, hlt, hko, hfr, hkl, hres⟩ := hJ.ex
  clear hJ
  obtain ⟨u1x, hu1x⟩ : ∃ u, res = u := ⟨_, rfl⟩
  have HRES := Lib.hid hres
  have HM := Lib.hid hm
  have HFR := Lib.hid hfr
  have HS := Lib.hid hS
  have HC := Lib.hid hC
  have HL := Lib.hid hlt
  have HKO := Lib.hid hko
  have hk := hC.hk
  clear hu1x u1x
  rcases next_cases (s.data.toList.drop k) 44 with ⟨y, u, hy, hb⟩ | hno
  · have hT := take_yes R s k (c + 1) 44 hv L w hC.rd hs hC.hk hy hb
    have HY := Lib.hid hy
    have HB := Lib.hid hb
    clear hm hres hfr hS hC hlt hko hy hb
    obtain ⟨u1, u2, u3, u4, u5, u6, u7, u8, u9, u10, u11, u12, u13, u14, u15, u16, u17, u18, u19, u20, u21, u22, u23, u24, u25, u26, u27, u28, u29, u30, u31, u32, u33, u34, u35, u36, u37, u38, u39, u40, u41, u42, u43, u44, u45, u46, u47, u48, u49, u50, u51, u52, u53, u54, u55, u56, u57, u58, u59, u60, u61, u62, u63, rfl⟩ := hF
    change Code.wp _ (Code.seq _ _) _ _ _
    generalize hJM : jumps (JM R B s A w0 res m) (QQ R s A w0 res) = Q
    have HJM := Lib.hid hJM
    clear hJM
    go_wp2_with fail
    refine hT.mono ?_
    rintro x w1 ⟨rfl, k1, hR1, hk1, hd1, hg1⟩
    have hlt2 := skip_len HY.out hk1 hd1
    have HR1 := Lib.hid hR1
    have HD1 := Lib.hid hd1
    have HG1 := Lib.hid hg1
    clear hT hR1 hd1 hg1
    go_wp2
    go_step3
    rw [← HJM.out]
    show JM R B s A w0 res m 5 _ _
    refine ⟨⟨(by unfold FrameIs; exact ⟨_, _, _, _, _, _, _, _, _, _, _, _, _, _, _, _, _, _, _, _, _, _, _, _, _, _, _, _, _, _, _, _, _, _, _, _, _, _, _, _, _, _, _, _, _, _, _, _, _, _, _, _, _, _, _, _, _, _, _, _, _, _, _, rfl⟩), ⟨?_⟩⟩, mu_lt R s HC.out.rd HR1.out HM.out (by simp only [rank]; omega)⟩
    refine ⟨k1, c + 1, hv, L, own, st, h, ks, acc, HC.out.next R B s A w0 hBR HR1.out hk1 (below_gb R s HC.out.rd HG1.out) HC.out.c20, HS.out.row1 HG1.out, HKO.out, HFR.out, hkl, ?_⟩
    rw [HRES.out, HD1.out]
    unfold memA
    rw [HY.out]
    simp only []
    rw [if_neg (by have := HB.out; omega), if_pos HB.out, frs_len]
  · have hT := take_no R s k (c + 1) 44 hv L w hC.rd hs hC.hk hno
    have HNO := Lib.hid hno
    rcases next_cases (s.data.toList.drop k) 125 with ⟨y, u, hy, hb⟩ | hno2
    · have HY := Lib.hid hy
      have HB := Lib.hid hb
      clear hm hres hfr hS hC hlt hko hno hy hb
      obtain ⟨u1, u2, u3, u4, u5, u6, u7, u8, u9, u10, u11, u12, u13, u14, u15, u16, u17, u18, u19, u20, u21, u22, u23, u24, u25, u26, u27, u28, u29, u30, u31, u32, u33, u34, u35, u36, u37, u38, u39, u40, u41, u42, u43, u44, u45, u46, u47, u48, u49, u50, u51, u52, u53, u54, u55, u56, u57, u58, u59, u60, u61, u62, u63, rfl⟩ := hF
      change Code.wp _ (Code.seq _ _) _ _ _
      generalize hJM : jumps (JM R B s A w0 res m) (QQ R s A w0 res) = Q
      have HJM := Lib.hid hJM
      clear hJM
      go_wp2_with fail
      refine hT.mono ?_
      rintro x w1 ⟨rfl, k1, hR1, hk1, hd1, hg1⟩
      have hge := skip_ge hk hk1 hd1
      have hT2 := take_yes R s k1 (c + 1) 125 hv L w1 hR1 hs hk1 (by rw [hd1, skipB_idem]; exact HY.out) HB.out
      have HR1 := Lib.hid hR1
      have HD1 := Lib.hid hd1
      have HG1 := Lib.hid hg1
      clear hT hR1 hd1 hg1
      go_wp2_with fail
      refine hT2.mono ?_
      rintro x w2 ⟨rfl, k2, hR2, hk2, hd2, hg2⟩
      have hlt2 := skip_len (by rw [HD1.out, skipB_idem]; exact HY.out) hk2 hd2
      have HR2 := Lib.hid hR2
      have HD2 := Lib.hid hd2
      have HG2 := Lib.hid (gb_trans HG1.out hg2)
      clear hT2 hR2 hd2 hg2
      go_wp2
      go_step3
      rw [← HJM.out]
      show JM R B s A w0 res m 4 _ _
      refine ⟨⟨(by unfold FrameIs; exact ⟨_, _, _, _, _, _, _, _, _, _, _, _, _, _, _, _, _, _, _, _, _, _, _, _, _, _, _, _, _, _, _, _, _, _, _, _, _, _, _, _, _, _, _, _, _, _, _, _, _, _, _, _, _, _, _, _, _, _, _, _, _, _, _, rfl⟩), ⟨?_⟩⟩, mu_lt R s HC.out.rd HR2.out HM.out (by simp only [rank]; omega)⟩
      refine ⟨k2, c, hv, L, own, st, h, HC.out.next R B s A w0 hBR HR2.out hk2 (below_gb R s HC.out.rd HG2.out) HC.out.c20, HS.out.row1 HG2.out, HL.out, HKO.out, ?_⟩
      rw [HRES.out, HFR.out, HD2.out]
      unfold memA
      rw [HY.out]
      simp only []
      rw [if_pos HB.out]
      rfl
    · have HN2 := Lib.hid hno2
      clear hm hres hfr hS hC hlt hko hno hno2
      obtain ⟨u1, u2, u3, u4, u5, u6, u7, u8, u9, u10, u11, u12, u13, u14, u15, u16, u17, u18, u19, u20, u21, u22, u23, u24, u25, u26, u27, u28, u29, u30, u31, u32, u33, u34, u35, u36, u37, u38, u39, u40, u41, u42, u43, u44, u45, u46, u47, u48, u49, u50, u51, u52, u53, u54, u55, u56, u57, u58, u59, u60, u61, u62, u63, rfl⟩ := hF
      change Code.wp _ (Code.seq _ _) _ _ _
      generalize hJM : jumps (JM R B s A w0 res m) (QQ R s A w0 res) = Q
      have HJM := Lib.hid hJM
      clear hJM
      go_wp2_with fail
      refine hT.mono ?_
      rintro x w1 ⟨rfl, k1, hR1, hk1, hd1, hg1⟩
      have hT2 := take_no R s k1 (c + 1) 125 hv L w1 hR1 hs hk1 (HN2.out.skip hd1)
      have HG1 := Lib.hid hg1
      clear hT hR1 hd1 hg1
      go_wp2_with fail
      refine hT2.mono ?_
      rintro x w2 ⟨rfl, k2, hR2, hk2, hd2, hg2⟩
      have HG2 := Lib.hid (gb_trans HG1.out hg2)
      have ce : w2.cell? ⟨1, 0, none⟩ = _ := (HC.out.cond.row HG2.out hBR).err 0 (by omega)
      clear hT2 hR2 hd2 hg2
      go_wp2
      rw [← HJM.out]
      show QQ R s A w0 res Exit.ret _ _
      unfold QQ
      go_ret
      have hr : res = .bad 1 := by
        rw [HRES.out]
        unfold memA
        cases hz : skipB (s.data.toList.drop k) with
        | nil => rfl
        | cons y u =>
          simp only []
          rw [if_neg (HN2.out y u hz), if_neg (HNO.out y u hz)]
      rw [hr]
      exact ⟨by omega, rfl, HC.out.below.trans (below_gb R s HC.out.rd HG2.out)⟩
end

end Go.Proofs.YtlaagdpanbineaaGreatDoor

