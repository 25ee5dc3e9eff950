/- json.right, json.Right: which values are right. -/
import Derived.Test.YtlaagdpanbineaaDoorRgb
namespace Go.Proofs.YtlaagdpanbineaaDoor
open Go.RowKit

theorem rgt_of {d : Nat} {k n : Int} {tx : List UInt8} {ks : List (List UInt8)} {kids : List NT} (h : fmP k n tx ks kids) (h0 : -9223372036854775808 ≤ n) (h1 : n ≤ 9223372036854775807) (hd : 6 ≤ k → d < 32) (hL : rgtL (d + 1) kids) : rgt d (.mk k n tx ks kids) := by
  obtain ⟨a1, a2, a3, a4, a5, a6, a7, a8, a9⟩ := h
  have hky : (∀ x ∈ ks, VdL x) ∧ ks.Nodup := by
    rcases a3 with e | e
    · have := a9 e
      unfold kyB at this
      exact of_decide_eq_true this
    · rw [e]; exact ⟨by simp, by simp⟩
  have hvd : VdL tx := by
    rcases a2 with e | e
    · exact a7 e
    · rw [e]; exact vdL_nil
  unfold rgt
  exact ⟨a1, a2, a3, a4, a5, a6, h0, h1, hvd, hd, a8, hky.1, hky.2, hL⟩
theorem rgt_fm {d : Nat} {k n : Int} {tx : List UInt8} {ks : List (List UInt8)} {kids : List NT} (h : rgt d (.mk k n tx ks kids)) : fmP k n tx ks kids ∧ (6 ≤ k → d < 32) ∧ rgtL (d + 1) kids := by
  unfold rgt at h
  obtain ⟨a1, a2, a3, a4, a5, a6, a7, a8, a9, a10, a11, a12, a13, a14⟩ := h
  exact ⟨⟨a1, a2, a3, a4, a5, a6, fun _ => a9, a11, fun _ => decide_eq_true ⟨a12, a13⟩⟩, a10, a14⟩

mutual
/-- every number in it is one of the machine's -/
def okInt : NT → Prop
  | .mk _ n _ _ kids => -9223372036854775808 ≤ n ∧ n ≤ 9223372036854775807 ∧ okIntL kids
def okIntL : List NT → Prop
  | [] => True
  | t :: ts => okInt t ∧ okIntL ts
end
theorem okIntL_mem : ∀ {l : List NT}, okIntL l → ∀ t ∈ l, okInt t
  | [], _, t, h => by simp at h
  | a :: l, h, t, ht => by
    rcases List.mem_cons.1 ht with e | e
    · rw [e]; exact h.1
    · exact okIntL_mem h.2 t e
theorem szL_mem : ∀ {l : List NT} {t : NT}, t ∈ l → szT t ≤ szL l
  | a :: l, t, h => by
    unfold szL
    rcases List.mem_cons.1 h with e | e
    · rw [e]; omega
    · have := szL_mem e; omega
theorem len_szL : ∀ l : List NT, l.length ≤ szL l
  | [] => by simp
  | a :: l => by
    have := len_szL l
    obtain ⟨_, _, _, _, _⟩ := a
    simp only [List.length_cons, szL, szT]; omega
theorem cnt_pos : ∀ t : NT, 1 ≤ cnt t
  | .mk _ _ _ _ kids => by unfold cnt; omega

def TabB (X : Nat) (w : World) : Prop := ∃ w0, Lib.Utf8Tabs 15 16 w0 ∧ w0.heap.size ≤ X ∧ w0.heap.size ≤ w.heap.size ∧ Below w0.heap.size w0 w
theorem TabB.tabs {X : Nat} {w : World} (h : TabB X w) : Lib.Utf8Tabs 15 16 w := by obtain ⟨w0, h1, _, _, h2⟩ := h; exact Utf8Tabs_below h1 h2
theorem TabB.grown {X : Nat} {w w' : World} (h : TabB X w) (hg : w.grownBy w' (some X)) : TabB X w' := by
  obtain ⟨w0, h1, h2, h3, h4⟩ := h
  have := hg.size
  exact ⟨w0, h1, h2, by omega, h4.trans (below_of_gb hg h3 (fun g e => by injection e with e; omega))⟩
def LeftAt (w : World) (X : Nat) (L : Int) : Prop := w.heap[X]? = some (.cells #[.int .i64 L] 3 (0, 0))
theorem LeftAt.lt {w : World} {X : Nat} {L : Int} (h : LeftAt w X L) : X < w.heap.size := (Array.getElem?_eq_some_iff.1 h).1
theorem LeftAt.cell {w : World} {X : Nat} {L : Int} (h : LeftAt w X L) : w.cell? ⟨X, 0, none⟩ = some (.int .i64 L) := by
  unfold LeftAt at h
  simp [World.cell?, h]
theorem LeftAt.fz {w : World} {X : Nat} {L : Int} (h : LeftAt w X L) : w.frozen? ⟨X, 0, none⟩ = false := by
  unfold LeftAt at h
  simp [World.frozen?, h]
theorem LeftAt.set {w : World} {X : Nat} {L : Int} (h : LeftAt w X L) (L' : Int) : LeftAt (w.setCell ⟨X, 0, none⟩ (.int .i64 L')) X L' := by
  unfold LeftAt at h ⊢
  simp [World.setCell, Array.getElem?_modify, h]
theorem LeftAt.below {w w' : World} {X : Nat} {L : Int} (h : LeftAt w X L) (hb : Below w.heap.size w w') : LeftAt w' X L := (hb.block X h.lt).trans h

def RightPost (X : Nat) (d : Nat) (t : NT) (L : Int) (w : World) (e : Ending) (w' : World) : Prop :=
  ∃ (b : Bool) (L' : Int), e = .returned (.bool b) ∧ (b = true ↔ (rgt d t ∧ (cnt t : Int) ≤ L)) ∧ (b = true → L' = L - cnt t) ∧ LeftAt w' X L' ∧ w.grownBy w' (some X)
theorem RightPost.no {X d : Nat} {t : NT} {L L' : Int} {w w' : World} (h : ¬ (rgt d t ∧ (cnt t : Int) ≤ L)) (hl : LeftAt w' X L') (hg : w.grownBy w' (some X)) : RightPost X d t L w (.returned (.bool false)) w' :=
  ⟨false, L', rfl, iff_of_false (by decide) h, (fun e => by cases e), hl, hg⟩
def RightC (h : Nat) : Prop := ∀ (ok : Nat → Prop) (t : NT) (v : Value) (w : World) (d X : Nat) (L : Int), NIs ok h w t v → (∀ b, ok b → b ≠ X) → szT t ≤ 1000000 → okInt t → TabB X w → LeftAt w X L → 0 ≤ L → L ≤ 20000 → d ≤ 32 →
  Calls Tryd.prog 45 #[v, .int .i64 d, .pointer (some ⟨X, 0, none⟩)] w (RightPost X d t L w)

theorem gb_of_below {w w' : World} (h : Below w.heap.size w w') (r : Option Nat) : w.grownBy w' r := ⟨h.os, h.tape, h.output, h.size, fun k hk _ => h.block k hk⟩
/-- what is known at a turn of the loop over the kids -/
structure RgL (X d : Nat) (L : Int) (kids : List NT) (k : Nat) (w wr : World) : Prop where
  left : LeftAt wr X (L - 1 - cntL (kids.take k))
  gb : w.grownBy wr (some X)
  rg : rgtL (d + 1) (kids.take k)
  le : 1 + (cntL (kids.take k) : Int) ≤ L

set_option maxRecDepth 100000 in
set_option maxHeartbeats 4000000 in
theorem right_any : ∀ h : Nat, RightC h
  | 0 => fun _ _ _ _ _ _ _ hN => hN.elim
  | h + 1 => by
    intro ok t v w d X L hN hX hs hi hT hl hL0 hL1 hd
    have IH := Lib.hid (right_any h)
    obtain ⟨kd, nn, tx, ks, kids⟩ := t
    have hF := fun w' (hb : Below w.heap.size w w') => formed_any ok (h + 1) _ v w' (hN.below hb) hs (Utf8Tabs_below hT.tabs hb)
    obtain ⟨kv, S, c1, rfl, ⟨S1, c0, rfl, _⟩, hk⟩ := hN
    unfold okInt at hi
    unfold szT at hs
    have hlen := len_szL kids
    have hlen2 : kids.length ≤ 1000000 := by omega
    clear hlen
    have HF := Lib.hid hF
    have HX := Lib.hid hX
    have HK := Lib.hid hk
    have HI := Lib.hid hi
    have HT := Lib.hid hT
    have HL := Lib.hid hl
    have HS := Lib.hid hs
    have hcn : cnt (.mk kd nn tx ks kids) = 1 + cntL kids := rfl
    have HCN := Lib.hid hcn
    have hxl := hl.lt
    obtain ⟨Y, hY⟩ : ∃ Y, (⟨tx.toArray⟩ : ByteArray) = Y := ⟨_, rfl⟩
    have HY := Lib.hid hY
    show Calls _ _ #[.agg #[.int .i64 kd, .int .i64 nn, .string ⟨tx.toArray⟩, .slice S1 ks.length c0, .slice S kids.length c1], _, _] w _
    rw [hY]
    clear hF hX hk hi hT hs hcn hY
    -- the count is used up
    by_cases hz : L = 0
    · subst hz
      have l0 : ∀ o, (w.alloc o).cell? ⟨X, 0, none⟩ = some (.int .i64 0) := fun o => (HL.out.below (al0 w o)).cell
      clear hl
      go_enter Tryd.func45, Tryd.ntmps45
      go_wp2
      go_ret
      refine RightPost.no (fun e => ?_) (HL.out.below (al0 w _)) (gb_of_below (al0 w _) _)
      have h1 := e.2
      rw [HCN.out] at h1
      omega
    have qz : (L == 0) = false := by simpa using hz
    have l0 : ∀ o, (w.alloc o).cell? ⟨X, 0, none⟩ = some (.int .i64 L) := fun o => (HL.out.below (al0 w o)).cell
    have hF1 := HF.out _ (al0 w (.cells #[.int .i64 kd, .int .i64 nn, .string Y, .slice S1 ks.length c0, .slice S kids.length c1] 25))
    simp only [litV] at hF1
    rw [HY.out] at hF1
    have hLw : IntKind.i64.wrap (L - 1) = L - 1 := by rw [IntKind.wrap_i64]; omega
    clear hl HF
    go_enter Tryd.func45, Tryd.ntmps45
    go_wp2_with fail
    refine hF1.mono ?_
    rintro e w2 ⟨⟨b, rfl, hb⟩, hb2⟩
    have HB2 : Hid (Below w.heap.size w w2) := (al0 w _).trans (hb2.mono (by simp))
    have HBX : Hid (Blk w2 w.heap.size (.int .i64 kd) (.int .i64 nn) (.string Y) (.slice S1 ks.length c0) (.slice S kids.length c1)) := (hb2.block _ (by simp)).trans (heap_alloc_new w _)
    have HL2 : Hid (LeftAt w2 X L) := HL.out.below HB2.out
    clear hF1 hb2 l0
    cases b with
    | false =>
      go_wp2
      go_ret
      exact RightPost.no (fun e => by have := hb.2 (rgt_fm e.1).1; cases this) HL2.out (gb_of_below HB2.out _)
    | true =>
    have HFM : Hid (fmP kd nn tx ks kids) := hb.1 rfl
    clear hb
    have l2 := HL2.out.cell
    have f2 := HL2.out.fz
    have hne : X ≠ w.heap.size := by omega
    go_upto_region 4 with fail
    refine wp_gen (fun w3 => Hid (LeftAt w3 X (L - 1)) ∧ Hid (w.grownBy w3 (some X)) ∧ Hid (Blk w3 w.heap.size (.int .i64 kd) (.int .i64 nn) (.string Y) (.slice S1 ks.length c0) (.slice S kids.length c1))) ⟨?_, ?_, ?_⟩ ?_
    · exact HL2.out.set _
    · exact gb_set (gb_of_below HB2.out _) _
    · exact HBX.out.other hne _
    rintro w3 ⟨HL3, HG3, HX3⟩
    clear l2 f2 HL2 HBX HB2
    have x0 := HX3.out.cell 0 (by omega)
    have x4 := HX3.out.cell 4 (by omega)
    by_cases hdk : d = 32 ∧ (kd = 6 ∨ kd = 7)
    · obtain ⟨rfl, hkk⟩ := hdk
      rcases hkk with rfl | rfl
      all_goals
        go_wp2
        go_ret
        exact RightPost.no (fun e => by have := (rgt_fm e.1).2.1 (by decide); omega) HL3.out HG3.out
    have hd6 : 6 ≤ kd → d < 32 := fun h6 => by
      have := HFM.out.2.2.2.2.2.1
      omega
    have HD6 := Lib.hid hd6
    go_cut [34] (fun b wx => b = .bool false ∧ wx = w3)
    case first =>
      by_cases hd32 : d = 32
      · subst hd32
        have q6 : (kd == 6) = false := by simp; omega
        have q7 : (kd == 7) = false := by simp; omega
        go_wp2
        go_meet
        exact ⟨rfl, rfl⟩
      · have q : ((d : Int) == 32) = false := by simp; omega
        go_wp2
        go_meet
        exact ⟨rfl, rfl⟩
    case rest =>
    obtain ⟨rfl, hw⟩ := hcut
    subst hw
    clear hd6
    go_wp2
    go_loopw [38] (fun i wr => ∃ k : Nat, k ≤ kids.length ∧ i = .int .i64 k ∧ Hid (RgL X d L kids k w wr)) (fun i _ => kids.length - (intOf i).toNat)
    case atStart =>
      refine ⟨0, Nat.zero_le _, rfl, ⟨?_, HG3.out, by rw [List.take_zero]; trivial, by rw [List.take_zero]; simp [cntL]; omega⟩⟩
      rw [List.take_zero]
      simpa [cntL] using HL3.out
    case round =>
      obtain ⟨k, hkl, rfl, HR⟩ := hrel
      by_cases hlt : k < kids.length
      · obtain ⟨b, off, rfl, hokb, hbl, hc⟩ : ∃ b off, S = some ⟨b, off, none⟩ ∧ ok b ∧ b < w.heap.size ∧ ∀ j (hj : j < kids.length), ∃ c0 c1 c2 c3 c4,
            w.cell? ⟨b, off + 5 * j, none⟩ = some c0 ∧ w.cell? ⟨b, off + 5 * j + 1, none⟩ = some c1 ∧ w.cell? ⟨b, off + 5 * j + 2, none⟩ = some c2 ∧ w.cell? ⟨b, off + 5 * j + 3, none⟩ = some c3 ∧ w.cell? ⟨b, off + 5 * j + 4, none⟩ = some c4 ∧
            NIs ok h w kids[j] (.agg #[c0, c1, c2, c3, c4]) := by
          rcases HK.out with e | e
          · rw [e] at hlt; simp at hlt
          · exact e
        obtain ⟨g0, g1, g2, g3, g4, e0, e1, e2, e3, e4, hNk⟩ := hc k hlt
        clear hc
        obtain ⟨kk, kn, kt, kA, kl, kc, kB, km, kdd, hv⟩ := hNk.nd
        simp only [Value.agg.injEq, Array.mk.injEq, List.cons.injEq, and_true] at hv
        obtain ⟨rfl, rfl, rfl, rfl, rfl⟩ := hv
        have hbX := HX.out b hokb
        have hblk : wr.heap[b]? = w.heap[b]? := HR.out.gb.block b hbl (fun e => hbX (by injection e))
        have k0 := (cell_kept (j := off + 5 * k) hblk).trans e0
        have k1 := (cell_kept (j := off + 5 * k + 1) hblk).trans e1
        have k2 := (cell_kept (j := off + 5 * k + 2) hblk).trans e2
        have k3 := (cell_kept (j := off + 5 * k + 3) hblk).trans e3
        have k4 := (cell_kept (j := off + 5 * k + 4) hblk).trans e4
        rw [Nat.mul_comm 5 k] at k0 k1 k2 k3 k4
        have hNr := hNk.grown HR.out.gb HX.out
        have htr := HT.out.grown HR.out.gb
        have hmem : kids[k] ∈ kids := List.getElem_mem hlt
        have hsk := szL_mem hmem
        have hik := okIntL_mem HI.out.2.2 _ hmem
        have hss := HS.out
        have hkne : kids ≠ [] := fun e => by rw [e] at hlt; simp at hlt
        have hd1 : d + 1 ≤ 32 := by
          have h6 : 6 ≤ kd := by
            rcases HFM.out.2.2.2.1 with e | e | e
            · omega
            · omega
            · exact absurd e hkne
          have := HD6.out h6
          omega
        have hc1 : ((d + 1 : Nat) : Int) = (d : Int) + 1 := by omega
        have hdw : IntKind.i64.wrap ((d : Int) + 1) = (d : Int) + 1 := by rw [IntKind.wrap_i64]; omega
        have hle := HR.out.le
        have hcall := fun o => IH.out ok kids[k] _ (wr.alloc o) (d + 1) X (L - 1 - cntL (kids.take k)) (hNr.below (al0 wr o)) HX.out (by omega) hik (htr.grown (gb_of_below (al0 wr o) _)) (HR.out.left.below (al0 wr o)) (by omega) (by omega) hd1
        rw [hc1] at hcall
        have hct := cntL_take kids k hlt
        have HCT := Lib.hid hct
        have hin : rgt d (.mk kd nn tx ks kids) → rgt (d + 1) kids[k] := fun e => rgtL_mem.1 (rgt_fm e).2.2 _ hmem
        have hsp : cntL (kids.take (k + 1)) ≤ cntL kids := cntL_le kids (k + 1)
        have HIN := Lib.hid hin
        have HSP := Lib.hid hsp
        have HMEM := Lib.hid hmem
        clear hNk hNr htr hsk hik hss hkne hc1 hct hin hsp hblk e0 e1 e2 e3 e4 hmem
        go_wp2_with fail
        refine (hcall _).mono ?_
        rintro e w5 ⟨b5, L5, rfl, hb5, hL5, hl5, hg5⟩
        have HG5 : Hid (w.grownBy w5 (some X)) := gb_trans HR.out.gb (gb_trans (gb_of_below (al0 wr _) _) hg5)
        have HL5 := Lib.hid hl5
        clear hcall hl5 hg5 k0 k1 k2 k3 k4
        cases b5 with
        | false =>
          go_wp2
          go_ret
          refine RightPost.no (fun e => ?_) HL5.out HG5.out
          have h1 := HIN.out e.1
          have h2 := e.2
          rw [HCN.out] at h2
          have h3 := HCT.out
          have h4 := HSP.out
          have := hb5.2 ⟨h1, by omega⟩
          cases this
        | true =>
          have h1 := hb5.1 rfl
          have HR2 : Hid (RgL X d L kids (k + 1) w w5) := by
            refine ⟨?_, HG5.out, ?_, ?_⟩
            · rw [HCT.out]
              have e1 : L - 1 - ((cntL (kids.take k) + cnt kids[k] : Nat) : Int) = L5 := by rw [hL5 rfl]; omega
              rw [e1]; exact HL5.out
            · rw [List.take_succ_eq_append_getElem hlt]
              exact (rgtL_append _ _ _).2 ⟨HR.out.rg, h1.1, trivial⟩
            · rw [HCT.out]; have := h1.2; omega
          clear hb5 hL5 h1
          go_wp2
          go_roundw
          case rel => exact ⟨k + 1, by omega, by go_num, HR2⟩
          case measure => simp [intOf]; omega
      · obtain rfl : k = kids.length := by omega
        have hr1 := HR.out.rg
        have hr2 := HR.out.left
        have hr3 := HR.out.le
        rw [List.take_length] at hr1 hr2 hr3
        have H1 := Lib.hid hr1
        have H2 := Lib.hid hr2
        have H3 := Lib.hid hr3
        clear hr1 hr2 hr3
        go_wp2
        go_ret
        refine ⟨true, L - 1 - cntL kids, rfl, iff_of_true rfl ⟨rgt_of HFM.out HI.out.1 HI.out.2.1 HD6.out H1.out, ?_⟩, fun _ => ?_, H2.out, HR.out.gb⟩
        · rw [HCN.out]; have := H3.out; omega
        · rw [HCN.out]; omega

set_option maxRecDepth 100000 in
set_option maxHeartbeats 1000000 in
theorem Right_any (h : Nat) (ok : Nat → Prop) (t : NT) (v : Value) (w : World) (hN : NIs ok h w t v) (hs : szT t ≤ 1000000) (hi : okInt t) (hT : Lib.Utf8Tabs 15 16 w) :
    Calls Tryd.prog 29 #[v] w fun e w' => (∃ b, e = .returned (.bool b) ∧ (b = true ↔ (rgt 0 t ∧ cnt t ≤ 20000))) ∧ Below w.heap.size w w' := by
  have hR := fun W (hb : Below w.heap.size w W) (hl : LeftAt W (w.heap.size + 1) 20000) => right_any h (fun b => b < w.heap.size) t v W 0 (w.heap.size + 1) 20000
    (hN.kept hb.size (fun b hb' hlt => ⟨hlt, hb.block b hlt⟩)) (fun b hb' => by omega) hs hi ⟨w, hT, by omega, hb.size, hb⟩ hl (by omega) (by omega) (by omega)
  have HR := Lib.hid hR
  obtain ⟨k1, n1, x1, A1, l1, c1, B1, m1, d1, rfl⟩ := hN.nd
  obtain ⟨Y, hY⟩ : ∃ Y, (⟨x1.toArray⟩ : ByteArray) = Y := ⟨_, rfl⟩
  have HY := Lib.hid hY
  rw [hY]
  clear hR hN hT hY
  go_enter Tryd.func29, Tryd.ntmps29
  go_upto_region 2 with fail
  refine wp_gen (fun w3 => Hid (LeftAt w3 (w.heap.size + 1) 20000) ∧ Hid (Below w.heap.size w w3) ∧ Hid (Blk w3 w.heap.size (.int .i64 k1) (.int .i64 n1) (.string Y) (.slice A1 l1 c1) (.slice B1 m1 d1))) ⟨heap_alloc_new2 w _ _, (al0 w _).alloc (by simp) _, (Below.heap_alloc _ _ _ (by simp)).trans (heap_alloc_new w _)⟩ ?_
  rintro w3 ⟨HL3, HB3, HX3⟩
  have x0 := HX3.out.cell 0 (by omega)
  have x1' := HX3.out.cell 1 (by omega)
  have x2 := HX3.out.cell 2 (by omega)
  have x3 := HX3.out.cell 3 (by omega)
  have x4 := HX3.out.cell 4 (by omega)
  have hc := HR.out w3 HB3.out HL3.out
  rw [HY.out] at hc
  have e0 : ((0 : Nat) : Int) = 0 := rfl
  rw [e0] at hc
  go_wp2_with fail
  refine hc.mono ?_
  rintro e w4 ⟨b, L', rfl, hb, _, _, hg⟩
  go_wp2
  go_ret
  refine ⟨⟨b, rfl, hb.trans ⟨fun h => ⟨h.1, by have := h.2; omega⟩, fun h => ⟨h.1, by have := h.2; omega⟩⟩⟩, HB3.out.trans (below_of_gb hg HB3.out.size (fun g e => by injection e with e; omega))⟩

end Go.Proofs.YtlaagdpanbineaaDoor

