/- The program's reader of JSON: key. -/
import Derived.Test.YtlaagdpanbineaaGreatDoorGk
import Derived.StillTailTactics
import Derived.Maps.OwnOps
namespace Go.Proofs.YtlaagdpanbineaaGreatDoor
open Go.RowKit Go.Maps
open I2 (errVal)

theorem keyLaw : Keyed Tryz.prog 9 := string_keyed Tryz.underlying9
theorem zeroInt (w : World) : (zeroValue 3).run Tryz.prog w = .ok (.int .i64 0) w := by kernel_rfl
theorem keyStr (x : List UInt8) (h : x.length ≤ 200000) : keyOf Tryz.prog 9 (.string ⟨x.toArray⟩) = some (.string x) := by
  have := WideMaps.keyOf_string_mk (P := Tryz.prog) (k := 9) Tryz.underlying9 (s := ⟨x.toArray⟩) (by show x.toArray.size ≤ maxLen; unfold maxLen; simp; omega)
  rw [this]
theorem strInfo : (Tryz.prog.info? 9).map (fun i => (i.zero, i.size, i.bytes)) = some (some (.string ⟨#[]⟩), 1, 16) := by kernel_rfl
theorem news_str (X : ByteArray) : ∀ u ∈ [Value.string X], u.oneCell' = true := by
  intro u hu
  simp only [List.mem_cons, List.not_mem_nil, or_false] at hu
  rw [hu]; rfl
theorem takeL_len {l x : List UInt8} {n : Nat} (h : takeL l = some (x, n)) : x.length + 2 ≤ n ∧ n ≤ l.length := by
  obtain ⟨b, t, ps, hl, hB, hx, hn⟩ := takeL_of h
  have := hB.le
  rw [hl, hx]
  simp
  omega

section
variable (R B : Nat) (s : ByteArray) (k c c0 : Nat) (hv : Value) (L : LV) (w : World) (A : Nat → Addr) (own : Nat → Nat) (hs : List HRec) (h : HRec) (n g cap : Nat)

set_option maxRecDepth 100000 in
set_option maxHeartbeats 2000000 in
theorem key_syn (hR : RdP w R s k c hv L) (hC : CondB B w A) (hBR : B ≤ R) (hz : s.size ≤ 200000) (hk : k ≤ s.size) (hT : takeL (skipB (s.data.toList.drop k)) = none) :
    Calls Tryz.prog 32 #[.pointer (some ⟨R, 0, none⟩)] w fun x w' => x = .returned (errVal A (some 0)) ∧ Below R w w' := by
  have hB := blanks_hd R s k c hv L w hR hz hk
  have hRl := hR.lt
  have HT := Lib.hid hT
  have HC := Lib.hid hC
  clear hR hT hC
  go_enter Tryz.func32, Tryz.ntmps32
  go_wp2_with fail
  refine hB.mono ?_
  rintro x w1 ⟨rfl, k1, HR, hk1, HD, HG⟩
  clear hB
  have hC1 := HC.out.row HG.out hBR
  have hQ := fun W (hb : Below w1.heap.size w1 W) => take_any s ((k1 : Nat) : Int) W (A 0) (hC1.cond.s.below hb) hz (o := none) (by rw [restQ_in, HD.out]; exact HT.out)
  simp only [takeV, synV] at hQ
  have c0 := HR.out.c0
  have c1 := HR.out.c1
  have hnn := fun (w : World) (x : Value) => @run_neq_iface_nil Tryz.prog w 28 (by kernel_rfl) 172 x
  clear hC1
  go_upto_region 2 with fail
  go_cut [3, 4, 5] (fun v u e wx => v = .string ⟨#[]⟩ ∧ u = .int .i64 0 ∧ e = .iface 172 (.pointer (some (A 0))) ∧ Hid (Below w1.heap.size w1 wx))
  case first =>
    go_region_with (go_at_call 53; refine (hQ w1.drew ⟨rfl, rfl, rfl, Nat.le_refl _, fun _ _ => rfl⟩).mono ?_; rintro y w2 ⟨rfl, hb2⟩)
    all_goals
      go_wp2_with fail
      go_meet
      exact ⟨rfl, rfl, rfl, ⟨hb2.os, hb2.tape, hb2.output, hb2.size, hb2.block⟩⟩
  case rest =>
    obtain ⟨rfl, rfl, rfl, HB2⟩ := hcut
    go_wp2
    go_ret
    refine ⟨rfl, ?_⟩
    have hs1 := HG.out.size
    exact (below_of_gb HG.out (by omega) (fun g e => by injection e with e; omega)).trans (below_lower HB2.out (by omega))

/-- what is known ahead of the lookup -/
structure KeyA (z : Nat) (w w3 : World) : Prop where
  rd : RdP w3 R s z c (.slice (some ⟨g, 0, none⟩) (n + 1) cap) L
  stk : Stk w3 (R + 1) own (.slice (some ⟨g, 0, none⟩) (n + 1) cap) (hs ++ [h]) c0
  below : Below R w w3
  cond : CondB B w3 A

def KeyOk (x : List UInt8) (z : Nat) (w w' : World) : Prop := ∃ own' gg cap', RdP w' R s z c (.slice (some ⟨g, 0, none⟩) (n + 1) cap) L ∧ Stk w' (R + 1) own' (.slice (some ⟨g, 0, none⟩) (n + 1) cap) (hs ++ [h.keyed x (.slice (some ⟨gg, 0, none⟩) (h.fr.keys.length + 1) cap')]) c0 ∧ Below R w w'
def KeyPost (x : List UInt8) (r : List UInt8) (w : World) (e : Ending) (w' : World) : Prop :=
  (x ∈ h.fr.keys → e = .returned (errVal A (some 4)) ∧ Below R w w') ∧
  (x ∉ h.fr.keys → e = .returned .nilIface ∧ ∃ z, z ≤ s.size ∧ s.data.toList.drop z = r ∧ KeyOk R s c c0 L hs h n g cap x z w w')

theorem key_ne {own : Nat → Nat} {g gg n z t : Nat} {kv : Value} (hg : own g = t) (hgl : g < z) (ht : t ≠ 3 * n + 2) (hT : ∀ b, kv.ownBlock = some b → own b = 3 * n + 2) (hat : kv.ownBlock = some gg ∨ gg = z + 1) : gg ≠ g := by
  intro e
  subst e
  rcases hat with h | h
  · have := hT gg h
    omega
  · omega

theorem key_fin (x : List UInt8) {z m0 d gg cap9 : Nat} {w0 w4 w9 : World} {D0 dd : DataW Unit} {o : Obj} (HA : KeyA R B s c c0 L A own hs h n g cap z w0 w) (hn : hs.length = n) (ho : h.fr.kind = 7)
    (hgrow4 : (w.drewN d).grownBy w4 (some h.M)) (hown4 : w4.ownsMap Tryz.prog 9 (plainElem Tryz.prog 3) h.M (m0 + 1) (D0.put (.string x) dd)) (hm0 : m0 ≤ h.fr.keys.length) (hD0 : IsMap D0) (hhas : ∀ k, has D0 (.string k) = decide (k ∈ h.fr.keys))
    (hgrow9 : (w4.alloc o).grownBy w9 h.kv.ownBlock) (hat9 : h.kv.ownBlock = some gg ∨ gg = w4.heap.size + 1)
    (hown9 : w9.ownsRow (R + 1) 9 1 (.slice (some ⟨gg, 0, none⟩) (h.fr.keys.length + 1) cap9) (h.fr.keys.length + 1) (h.fr.keys.map strV ++ [strV x])) :
    KeyOk R s c c0 L hs h n g cap x z w0 (w9.setCell ⟨g, n * 6 + 3, none⟩ (.slice (some ⟨gg, 0, none⟩) (h.fr.keys.length + 1) cap9)) := by
  obtain ⟨hR, hS, hB, _⟩ := HA
  subst hn
  have hz4 := hgrow4.size
  have hz9 := hgrow9.size
  have ha : (w4.alloc o).heap.size = w4.heap.size + 1 := by simp
  have hd : (w.drewN d).heap.size = w.heap.size := rfl
  have hgl := hS.row.lt g rfl
  have hgT : own g = 1 := hS.rowT g rfl
  obtain ⟨_, top, _, _, _⟩ := hS.low
  have hkl := fun b e => top.keys.lt b e
  have hkT := top.keysT
  have hMT := top.mapT
  have hMN := top.mapN
  have hMl : h.M < w.heap.size := by obtain ⟨_, _, hm, _⟩ := top.map; exact hm.lt
  have hgM : g ≠ h.M := fun e => by rw [← e] at hMT; omega
  have hne : gg ≠ g := key_ne hgT (by omega) (by omega) hkT hat9
  have hneM : some h.M ≠ h.kv.ownBlock := fun e => by have := hkT _ e.symm; omega
  have hneg : some g ≠ h.kv.ownBlock := fun e => by have := hkT _ e.symm; omega
  have hblk : ∀ b, b < w.heap.size → some b ≠ h.kv.ownBlock → b ≠ g → b ≠ h.M → (w9.setCell ⟨g, hs.length * 6 + 3, none⟩ (.slice (some ⟨gg, 0, none⟩) (h.fr.keys.length + 1) cap9)).heap[b]? = w.heap[b]? := fun b h1 h2 h3 h4 =>
    (setc_other h3).trans ((hgrow9.block b (by omega) h2).trans ((Below.heap_alloc _ _ _ (by omega)).trans (hgrow4.block b (by omega) (by simp; exact h4))))
  have hrow := hS.row
  rw [List.length_append, List.length_singleton] at hrow
  have hrow9 : w9.ownsRow (R + 1) 97 6 (.slice (some ⟨g, 0, none⟩) (hs.length + 1) cap) (hs.length + 1) ((hs ++ [h]).flatMap HRec.cells) :=
    own_of_block hrow (fun b hb => by
      obtain rfl : g = b := by injection hb
      exact (hgrow9.block g (by omega) hneg).trans ((Below.heap_alloc _ _ _ (by omega)).trans (hgrow4.block g (by omega) (by simp; exact hgM))))
  obtain ⟨own', hS'⟩ := key_stk (w' := w9.setCell ⟨g, hs.length * 6 + 3, none⟩ (.slice (some ⟨gg, 0, none⟩) (h.fr.keys.length + 1) cap9)) (gg := gg) (cap := cap9) (k := x) (n := m0 + 1) (D := D0.put (.string x) dd) hS
    (by rw [setc_size]; omega) (by rcases hat9 with e | e; exact .inl e; exact .inr (by omega)) (row_far hown9 hne _)
    (map_of_block hown4 ((setc_other (fun e => hgM e.symm)).trans ((hgrow9.block _ (by omega) hneM).trans (Below.heap_alloc _ _ _ (by omega))))) (by omega) (hD0.put _ _)
    (fun k' => by
      by_cases e : k' = x
      · subst e
        rw [has_put_same hD0 (by trivial)]
        simp
      · rw [has_put_other (by simp; exact e), hhas]
        simp [e])
    (row_top hrow9 rfl (by simp only [HRec.cells, HRec.keyed, ho]; rfl) (by omega))
    (fun b h1 _ h3 h4 h5 => hblk b h1 h3 h4 h5)
  have hRl := hR.lt
  refine ⟨own', gg, cap9, ?_, hS', hB.trans ⟨hgrow9.os.trans hgrow4.os, hgrow9.tape.trans hgrow4.tape, hgrow9.output.trans hgrow4.output, by rw [setc_size]; omega, fun b hb1 => hblk b (by omega) (fun e => by have := (hkl b e.symm).1; omega) (by omega) (by omega)⟩⟩
  exact (hblk R hRl (fun e => by have := (hkl R e.symm).1; omega) (by omega) (by omega)).trans hR

set_option maxRecDepth 100000 in
set_option maxHeartbeats 4000000 in
theorem key_some (x : List UInt8) (m : Nat) (hR : RdP w R s k c (.slice (some ⟨g, 0, none⟩) (n + 1) cap) L) (hS : Stk w (R + 1) own (.slice (some ⟨g, 0, none⟩) (n + 1) cap) (hs ++ [h]) c0) (hn : hs.length = n) (hC : CondB B w A) (hBR : B ≤ R) (hz : s.size ≤ 200000) (hk : k ≤ s.size) (hT : takeL (skipB (s.data.toList.drop k)) = some (x, m)) (hkl : h.fr.keys.length ≤ 20000) (ho : h.fr.kind = 7) :
    Calls Tryz.prog 32 #[.pointer (some ⟨R, 0, none⟩)] w (KeyPost R s c c0 L A hs h n g cap x ((skipB (s.data.toList.drop k)).drop m) w) := by
  have hB := blanks_hd R s k c _ L w hR hz hk
  have hRl := hR.lt
  have hnl : n < 32 := by have := hS.deep; simp at this; omega
  have hgl := hS.row.lt g rfl
  have hRg : R < g := hgl.1
  have hxm := takeL_len hT
  have hsk := skipB_le (s.data.toList.drop k)
  rw [List.length_drop, size_list] at hsk
  have hw1 : IntKind.i64.wrap (((n + 1 : Nat) : Int) - 1) = n := by rw [IntKind.wrap_i64]; omega
  have hc : ((n + 1 : Nat) : Int) = (n : Int) + 1 := by omega
  rw [hc] at hw1
  have HS := Lib.hid hS
  have HT := Lib.hid hT
  have HC := Lib.hid hC
  have HN := Lib.hid hn
  obtain ⟨RR, hRR⟩ : ∃ RR, (skipB (s.data.toList.drop k)).drop m = RR := ⟨_, rfl⟩
  rw [hRR]
  have HRR := Lib.hid hRR
  obtain ⟨X, hX⟩ : ∃ X : ByteArray, (⟨x.toArray⟩ : ByteArray) = X := ⟨_, rfl⟩
  have HX := Lib.hid hX
  clear hR hT hC hS hn hc hRR hX
  go_enter Tryz.func32, Tryz.ntmps32
  go_wp2_with fail
  refine hB.mono ?_
  rintro y w1 ⟨rfl, k1, HR, hk1, HD, HG⟩
  clear hB
  have hC1 := HC.out.row HG.out hBR
  have hQ := fun W (hb : Below w1.heap.size w1 W) => take_any s ((k1 : Nat) : Int) W (A 0) (hC1.cond.s.below hb) hz (o := some (x, m)) (by rw [restQ_in, HD.out]; exact HT.out)
  simp only [takeV] at hQ
  rw [HX.out] at hQ
  have c0' := HR.out.c0
  have c1 := HR.out.c1
  have hnn := fun (w : World) => @run_neq_nil_nil_at Tryz.prog w 28 (by kernel_rfl)
  have HC1 := Lib.hid hC1
  clear hC1
  have hk2 : k1 + m ≤ s.size := by
    have h1 := congrArg List.length HD.out
    rw [List.length_drop, size_list] at h1
    omega
  go_upto_region 2 with fail
  go_cut [3, 4, 5] (fun v u e wx => v = .string X ∧ u = .int .i64 m ∧ e = .nilIface ∧ Hid (Below w1.heap.size w1 wx))
  case first =>
    go_region_with (go_at_call 53; refine (hQ w1.drew ⟨rfl, rfl, rfl, Nat.le_refl _, fun _ _ => rfl⟩).mono ?_; rintro y w2 ⟨rfl, hb2⟩)
    all_goals
      go_wp2_with fail
      go_meet
      exact ⟨rfl, rfl, rfl, ⟨hb2.os, hb2.tape, hb2.output, hb2.size, hb2.block⟩⟩
  case rest =>
  obtain ⟨rfl, rfl, rfl, HB2⟩ := hcut
  have hR2 := HR.out.below HB2.out
  have hS2 := (HS.out.row1 HG.out).below HB2.out
  have c1 := hR2.c1
  have f1 := hR2.fz 1
  have hs3 := hR2.set1 (k1 + m)
  have hc : ((k1 + m : Nat) : Int) = (k1 : Int) + m := by omega
  rw [hc] at hs3
  have HS2 := Lib.hid hS2
  have HS3 := Lib.hid hs3
  clear hR2 hS2 hs3 hc
  go_upto_region 6 with fail
  refine wp_gen (fun w3 => Hid (KeyA R B s c c0 L A own hs h n g cap (k1 + m) w w3)) ?_ ?_
  · refine ⟨HS3.out, HS2.out.row1 (gb_set (gb_refl _ _) _), ?_, ?_⟩
    · have hs1 := HG.out.size
      have hs2 := HB2.out.size
      exact ((below_of_gb HG.out (by omega) (fun g e => by injection e with e; omega)).trans (below_lower HB2.out (by omega))).trans (below_of_gb (gb_set (gb_refl _ (some R)) _) (by omega) (fun g e => by injection e with e; omega))
    · exact (HC1.out.below HB2.out).row (gb_set (gb_refl _ (some R)) _) hBR
  intro w3 HA
  clear c1 f1 HS3 HS2 HB2 HG HC1 HR c0' hQ hnn
  have hrow := HA.out.stk.row
  rw [List.length_append, List.length_singleton, HN.out] at hrow
  obtain ⟨m0, D0, hmap, hm0, hD0, hhas⟩ := HA.out.stk.low.2.1.map
  have t5 : w3.cell? ⟨g, n * 6 + 5, none⟩ = some (.map (some h.M)) := top_cell HN.out hrow 5 (by omega)
  have c3 := HA.out.rd.c3
  have ce : w3.cell? ⟨4, 0, none⟩ = _ := HA.out.cond.err 4 (by omega)
  have hkey := keyStr x (by omega)
  rw [HX.out] at hkey
  have hxs := hhas x
  have HROW := Lib.hid hrow
  have HMAP := Lib.hid hmap
  have HHAS := Lib.hid hhas
  have HD0 := Lib.hid hD0
  clear hrow hmap hhas hD0
  go_quiet (fail)
  by_cases hin : x ∈ h.fr.keys
  · rw [decide_eq_true hin] at hxs
    have HIN := Lib.hid hin
    clear hin
    go_wp2_with (at_lookup; refine wpList_lookup_own_ok_int _ rfl _ _ 95 rfl 9 3 .i64 keyLaw Tryz.underlying95 Tryz.underlying3 (zeroInt _) h.M m0 D0 rfl HMAP.out _ _ rfl hkey ?_; intro c hat hwc)
    go_ret
    exact ⟨fun _ => ⟨rfl, below_drewN HA.out.below _⟩, fun e => absurd HIN.out e⟩
  · rw [decide_eq_false hin] at hxs
    have HIN := Lib.hid hin
    have ownk := HA.out.stk.low.2.1.keys
    obtain ⟨A1, q1, e1⟩ := own_form ownk
    have t3 : w3.cell? ⟨g, n * 6 + 3, none⟩ = some h.kv := top_cell HN.out HROW.out 3 (by omega)
    rw [e1] at t3
    have HE := Lib.hid e1
    have HOK := Lib.hid ownk
    have hwf : (Lit.int .i64 (h.fr.keys.length : Int)).wf = true := by
      simp only [Lit.wf, Bool.and_eq_true, decide_eq_true_eq]
      constructor
      · show (-9223372036854775808 : Int) ≤ _; omega
      · show _ ≤ (9223372036854775807 : Int); omega
    clear hin e1 ownk
    go_wp2_with (at_lookup; refine wpList_lookup_own_ok_int _ rfl _ _ 95 rfl 9 3 .i64 keyLaw Tryz.underlying95 Tryz.underlying3 (zeroInt _) h.M m0 D0 rfl HMAP.out _ _ rfl hkey ?_; intro c9 hat hwc)
    obtain ⟨w4, hrun, hown4, hgrow4⟩ := World.ownsMap.update (w := w3.drewN (nq + 1)) (t := 95) (key := .string X) (val := .int .i64 h.fr.keys.length) HMAP.out keyLaw Tryz.underlying95 (by unfold maxLen; omega) hkey (plainElem_int Tryz.underlying3 hwf)
    go_region
    obtain ⟨i0, hi, hz0, hz1, hz2⟩ := info_parts strInfo
    have hgT : own g = 1 := HA.out.stk.rowT g rfl
    have hgl3 := HA.out.stk.row.lt g rfl
    have hkT := HA.out.stk.low.2.1.keysT
    have hMT := HA.out.stk.low.2.1.mapT
    have hkl3 := fun b e => HOK.out.lt b e
    have hs4 := hgrow4.size
    have hz3 : (w3.drewN (nq + 1)).heap.size = w3.heap.size := rfl
    have hrow4 : w4.ownsRow (R + 1) 97 6 (.slice (some ⟨g, 0, none⟩) (n + 1) cap) (n + 1) ((hs ++ [h]).flatMap HRec.cells) := own_of_block HROW.out (fun b hb => by
      obtain rfl : g = b := by injection hb
      exact hgrow4.block g (by omega) (by simp; intro e; rw [← e] at hMT; omega))
    have hok4 : w4.ownsRow (R + 1) 9 1 h.kv h.fr.keys.length (h.fr.keys.map strV) := own_of_block HOK.out (fun b hb => hgrow4.block b (by have := (hkl3 b hb).2; omega) (by have := hkT b hb; simp; intro e; rw [← e] at hMT; omega))
    have t3 : w4.cell? ⟨g, n * 6 + 3, none⟩ = some h.kv := top_cell HN.out hrow4 3 (by omega)
    rw [HE.out] at t3
    have own1 := hok4.alloc (.cells #[.string X] 9)
    rw [HE.out] at own1
    have OWN1 := Lib.hid own1
    clear own1
    have HROW4 := Lib.hid hrow4
    have HOK4 := Lib.hid hok4
    have hR4 : R + 1 ≤ w4.heap.size := by omega
    have HK := Lib.hid hkT
    have HG4 := Lib.hid hgrow4
    have HO4 := Lib.hid hown4
    have HGT := Lib.hid hgT
    rw [HN.out] at HK
    clear hrun hrow4 hok4 hkT hMT hkl3 hgrow4 hown4 hgT hz3
    go_wp2_with (refine wpList_append_lies _ (by rfl) (.tmp 73) (.tmp 75) 23 (by rfl) (R + 1) 9 i0 _ 1 16 Tryz.underlying23 hi hz0 hz1 hz2 (by rfl) (by decide) (.slice A1 h.fr.keys.length q1) h.fr.keys.length (h.fr.keys.map strV) (by rfl) OWN1.out ⟨w4.heap.size, 0, none⟩ 1 1 [.string X] (by rfl) rfl (World.news_of_block (heap_alloc_new w4 _)) (news_str X) (by decide) (by unfold maxLen; omega) (by omega) (by simp; omega) (w4.heap.size + 1) (by simp) ?_; intro gg cap9 w9 hown9 hgrow9 hat9 hlt9; have row9 := Lib.hid (keep_row9 HROW4.out (by rfl) hgrow9 (fun e => by rw [← HE.out] at e; have := HK.out _ e.symm; have := HGT.out; omega)); have k9 : w9.cell? ⟨g, n * 6 + 3, none⟩ = some h.kv := top_cell HN.out row9.out 3 (by omega); have kf := row9.out.frozenAt)
    go_ret
    rw [← HE.out] at hgrow9 hat9
    rw [← HX.out] at hown9
    exact ⟨fun e => absurd e HIN.out, fun _ => ⟨rfl, k1 + m, hk2, by rw [← HRR.out, ← HD.out, List.drop_drop], key_fin R B s c c0 L w3 A own hs h n g cap x HA.out HN.out ho HG4.out HO4.out hm0 HD0.out HHAS.out hgrow9 hat9 hown9⟩⟩
end

end Go.Proofs.YtlaagdpanbineaaGreatDoor

