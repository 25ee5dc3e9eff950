/- show: own: a copy that shares no list, however deep. -/
import Derived.Test.YtlaagdpanbineaaDoorOb
import Derived.Test.YtlaagdpanbineaaDoorRgc
import Derived.Deep.RegionWith
import Derived.Deep.DeepCutAuto
namespace Go.Proofs.YtlaagdpanbineaaDoor
open Go.RowKit

theorem Blk.set3 {w : World} {X : Nat} {c0 c1 c2 c3 c4 : Value} (h : Blk w X c0 c1 c2 c3 c4) (v : Value) : Blk (w.setCell ⟨X, 3, none⟩ v) X c0 c1 c2 v c4 := by
  unfold Blk at h ⊢
  simp [World.setCell, Array.getElem?_modify, h]
theorem Blk.at {w w' : World} {X : Nat} {c0 c1 c2 c3 c4 : Value} (h : Blk w X c0 c1 c2 c3 c4) (hb : Below w.heap.size w w') : Blk w' X c0 c1 c2 c3 c4 := (hb.block X h.lt).trans h
theorem keys_le2 (ks : List (List UInt8)) : ks.length ≤ (ks.map fun k => k.length + 1).sum := by
  induction ks with
  | nil => simp
  | cons a l ih => simp only [List.length_cons, List.map_cons, List.sum_cons]; omega
theorem set_below {B X j : Nat} {w w' : World} (h : Below B w w') (hX : B ≤ X) (v : Value) : Below B w (w'.setCell ⟨X, j, none⟩ v) :=
  ⟨h.os, h.tape, h.output, by simp [World.setCell]; exact h.size, fun k hk => by
    rw [← h.block k hk]
    simp only [World.setCell]
    rw [Array.getElem?_modify, if_neg (by omega)]⟩

/-- what own gives: the value, all of it in blocks of the call's own -/
def OwnP (h : Nat) (t : NT) (w : World) (e : Ending) (w' : World) : Prop := (∃ v, e = .returned v ∧ NIs (fun b => w.heap.size ≤ b) h w' t v) ∧ Below w.heap.size w w'
def OwnC (h : Nat) : Prop := ∀ (ok : Nat → Prop) (t : NT) (v : Value) (w : World), NIs ok h w t v → szT t ≤ 200000 → Calls Tryd.prog 27 #[v] w (OwnP h t w)

/-- the kids, k of them copied already -/
def OwnR (ok : Nat → Prop) (h : Nat) (kids : List NT) (w : World) (M : Nat) (wr : World) (S : Option Addr) (k : Nat) : Prop :=
  kids = [] ∨ ∃ g f, S = some ⟨g, 0, none⟩ ∧ ORow wr M g kids.length f ∧ (∀ j (hj : j < kids.length), j < k → NIs (fun b => M ≤ b ∧ b ≠ g) h wr kids[j] (nodeAt f j)) ∧ ∀ j (hj : j < kids.length), k ≤ j → NIs ok h w kids[j] (nodeAt f j)
def set5 (w : World) (g k : Nat) (d0 d1 d2 d3 d4 : Value) : World := ((((w.setCell ⟨g, k * 5, none⟩ d0).setCell ⟨g, k * 5 + 1, none⟩ d1).setCell ⟨g, k * 5 + 2, none⟩ d2).setCell ⟨g, k * 5 + 3, none⟩ d3).setCell ⟨g, k * 5 + 4, none⟩ d4
theorem OwnR.step {ok : Nat → Prop} {h : Nat} {kids : List NT} {w : World} {M : Nat} {wr w2 : World} {g k : Nat} {f : Nat → Value} {d0 d1 d2 d3 d4 : Value} (hlt : k < kids.length) (hR : ORow wr M g kids.length f)
    (h1 : ∀ j (hj : j < kids.length), j < k → NIs (fun b => M ≤ b ∧ b ≠ g) h wr kids[j] (nodeAt f j)) (h2 : ∀ j (hj : j < kids.length), k ≤ j → NIs ok h w kids[j] (nodeAt f j)) (hb : Below wr.heap.size wr w2)
    (hN : NIs (fun b => wr.heap.size ≤ b) h w2 kids[k] (.agg #[d0, d1, d2, d3, d4])) : OwnR ok h kids w M (set5 w2 g k d0 d1 d2 d3 d4) (some ⟨g, 0, none⟩) (k + 1) := by
  have hlo := hR.lo
  have hgl := hR.lt
  refine .inr ⟨g, put5 f k d0 d1 d2 d3 d4, rfl, (hR.kept (hb.block g hR.lt)).store5 k d0 d1 d2 d3 d4, fun j hj hjk => ?_, fun j hj hkj => ?_⟩
  · by_cases e : j = k
    · subst e
      rw [nodeAt_same]
      exact hN.kept (set5_gb d0 d1 d2 d3 d4).size (fun b hb1 hb2 => ⟨⟨by omega, by omega⟩, (set5_gb d0 d1 d2 d3 d4).block b hb2 (by simp; omega)⟩)
    · rw [nodeAt_other _ _ _ e]
      exact ((h1 j hj (by omega)).below hb).grown (set5_gb d0 d1 d2 d3 d4) (fun b hb => hb.2)
  · rw [nodeAt_other _ _ _ (by omega)]
    exact h2 j hj (by omega)
theorem own_fin {ok : Nat → Prop} {h : Nat} {kids : List NT} {w wr : World} {M : Nat} {S : Option Addr} {kd nn : Int} {tx : List UInt8} {ks : List (List UInt8)} {kv : Value} {c : Nat} (hM : w.heap.size + 2 ≤ M)
    (hk : StrAt (fun b => w.heap.size + 2 ≤ b ∧ b < M) wr kv ks) (hO : OwnR ok h kids w M wr S kids.length) : NIs (fun b => w.heap.size + 2 ≤ b) (h + 1) wr (.mk kd nn tx ks kids) (litV kd nn tx kv (.slice S kids.length c)) := by
  refine ⟨kv, S, c, rfl, hk.kept (Nat.le_refl _) (fun b hb _ => ⟨hb.1, rfl⟩), ?_⟩
  rcases hO with e | ⟨g, f, rfl, hR, h1, _⟩
  · exact .inl e
  · refine .inr ⟨g, 0, rfl, Nat.le_trans hM hR.lo, hR.lt, fun j hj => ?_⟩
    have hc : ∀ i, i < 5 → wr.cell? ⟨g, 0 + 5 * j + i, none⟩ = some (f (j * 5 + i)) := fun i hi => by
      rw [show 0 + 5 * j + i = j * 5 + i by omega]
      exact hR.cell _ (by omega)
    refine ⟨_, _, _, _, _, hc 0 (by omega), hc 1 (by omega), hc 2 (by omega), hc 3 (by omega), hc 4 (by omega), ?_⟩
    exact (h1 j hj hj).kept (Nat.le_refl _) (fun b hb _ => ⟨Nat.le_trans hM hb.1, rfl⟩)

set_option maxRecDepth 100000 in
set_option maxHeartbeats 4000000 in
theorem own_any : ∀ h : Nat, OwnC h
  | 0 => fun _ _ _ _ hN _ => hN.elim
  | h + 1 => by
    rintro ok ⟨kd, nn, tx, ks, kids⟩ v w hN hs
    have IH := Lib.hid (own_any h)
    obtain ⟨kv, S, c1, rfl, ⟨S1, c0, rfl, hst⟩, hk⟩ := hN
    have hstA : StrAt ok w (.slice S1 ks.length c0) ks := ⟨S1, c0, rfl, hst⟩
    unfold szT at hs
    have hlen := len_szL kids
    have hlen2 : kids.length ≤ 1000000 := by omega
    have hks2 : ks.length ≤ 1000000 := by have := keys_le2 ks; omega
    clear hlen
    have HS := Lib.hid hs
    have HK : Hid (KidsAt ok h w S kids) := hk
    have HSA := Lib.hid hstA
    obtain ⟨Y, hY⟩ : ∃ Y, (⟨tx.toArray⟩ : ByteArray) = Y := ⟨_, rfl⟩
    show Calls _ _ #[.agg #[.int .i64 kd, .int .i64 nn, .string ⟨tx.toArray⟩, .slice S1 ks.length c0, .slice S kids.length c1]] w _
    rw [hY]
    have HYY := Lib.hid hY
    clear hk hs hst hstA hY
    go_enter Tryd.func27, Tryd.ntmps27
    go_upto_region 1 with fail
    refine wp_gen (fun w1 => Hid (Below w.heap.size w w1) ∧ Hid (Blk w1 w.heap.size (.int .i64 kd) (.int .i64 nn) (.string Y) (.slice S1 ks.length c0) (.slice S kids.length c1)) ∧ Hid (zeroBlk w1 (w.heap.size + 1)) ∧ Hid (w1.heap.size = w.heap.size + 2))
      ⟨al2 w _ _, (Below.heap_alloc (w.alloc _) _ w.heap.size (by simp)).trans (heap_alloc_new w _), heap_alloc_new2 w _ _, by simp [Hid]⟩ ?_
    intro w1 ⟨HB1, HX1, HZ1, HS1⟩
    have x3 := HX1.out.cell 3 (by omega)
    have hk1 := cloneK_any ok S1 ks c0 w1 (HSA.out.belowS HB1.out) hks2
    go_wp2_with fail
    refine hk1.mono ?_
    rintro e w2 ⟨A1, d0, rfl, hb2, hsk⟩
    have HX2 := Lib.hid (HX1.out.at hb2.out)
    have HZ2 := Lib.hid (HZ1.out.at hb2.out)
    have y3 := HX2.out.cell 3 (by omega)
    have f2 := HX2.out.fz
    clear x3 hk1
    go_upto_region 2 with fail
    refine wp_gen (fun w3 => Hid (Below w.heap.size w w3) ∧ Hid (Blk w3 w.heap.size (.int .i64 kd) (.int .i64 nn) (.string Y) (.slice A1 ks.length d0) (.slice S kids.length c1)) ∧ Hid (zeroBlk w3 (w.heap.size + 1)) ∧ Hid (w.heap.size + 2 ≤ w3.heap.size) ∧ Hid (StrAt (fun b => w.heap.size + 2 ≤ b ∧ b < w3.heap.size) w3 (.slice A1 ks.length d0) ks))
      ⟨set_below (HB1.out.trans (hb2.out.mono HB1.out.size)) (Nat.le_refl _) _, HX2.out.set3 _, HZ2.out.other (by omega) _, by have h1 := HS1.out; have h2 := hb2.out.size; simp [Hid, World.setCell]; omega, ?_⟩ ?_
    · have h1 := HS1.out
      have e : (w2.setCell ⟨w.heap.size, 3, none⟩ (.slice A1 ks.length d0)).heap.size = w2.heap.size := by simp [World.setCell]
      exact hsk.out.kept (Nat.le_of_eq e.symm) (fun b hb hb2 => ⟨⟨by omega, by omega⟩, by simp only [World.setCell]; rw [Array.getElem?_modify, if_neg (by omega)]⟩)
    intro w3 ⟨HB3, HX3, HZ3, HM3, HK3⟩
    clear f2 y3 HX2 HZ2 hb2 hsk HX1 HZ1 HS1 HB1
    have x4 := HX3.out.cell 4 (by omega)
    have hk2 := cloneN_any ok h S kids c1 w w3 HK.out HB3.out hlen2
    go_wp2_with fail
    refine hk2.mono ?_
    rintro e w4 ⟨S2, d1, rfl, hb4, hrow⟩
    have HX4 := Lib.hid (HX3.out.at hb4.out)
    have HZ4 := Lib.hid (HZ3.out.at hb4.out)
    have y4 := HX4.out.cell 4 (by omega)
    have f4 := HX4.out.fz
    clear x4 hk2
    go_upto_region 3 with fail
    refine wp_gen (fun w5 => Hid (Below w.heap.size w w5) ∧ Hid (Blk w5 w.heap.size (.int .i64 kd) (.int .i64 nn) (.string Y) (.slice A1 ks.length d0) (.slice S2 kids.length d1)) ∧ Hid (zeroBlk w5 (w.heap.size + 1)) ∧ Hid (OwnR ok h kids w w3.heap.size w5 S2 0) ∧ Hid (StrAt (fun b => w.heap.size + 2 ≤ b ∧ b < w3.heap.size) w5 (.slice A1 ks.length d0) ks))
      ⟨set_below (HB3.out.trans (hb4.out.mono HB3.out.size)) (Nat.le_refl _) _, HX4.out.set4 _, HZ4.out.other (by omega) _, ?_, ?_⟩ ?_
    · have h1 := HM3.out
      rcases hrow.out with e | ⟨g, f, rfl, hR, hN⟩
      · exact .inl e
      · refine .inr ⟨g, f, rfl, hR.kept ?_, fun j hj hj2 => absurd hj2 (Nat.not_lt_zero _), fun j hj _ => hN j hj⟩
        have := hR.lo
        simp only [World.setCell]
        rw [Array.getElem?_modify, if_neg (by omega)]
    · have h1 := HM3.out
      have e : (w4.setCell ⟨w.heap.size, 4, none⟩ (.slice S2 kids.length d1)).heap.size = w4.heap.size := by simp [World.setCell]
      exact (HK3.out.belowS hb4.out).kept (Nat.le_of_eq e.symm) (fun b hb hb2 => ⟨hb, by simp only [World.setCell]; rw [Array.getElem?_modify, if_neg (by omega)]⟩)
    intro w5 ⟨HB5, HX5, HZ5, HO5, HK5⟩
    clear f4 y4 HX4 HZ4 hb4 hrow HX3 HZ3 HK3 HB3
    have x4 := HX5.out.cell 4 (by omega)
    obtain ⟨M, hMe⟩ : ∃ M, w3.heap.size = M := ⟨_, rfl⟩
    rw [hMe] at HO5 HK5 HM3
    clear hMe
    go_wp2
    clear x4
    go_loopw [3, 4, 16] (fun _ _ i wr => ∃ k : Nat, k ≤ kids.length ∧ i = .int .i64 k ∧ Hid (Below w.heap.size w wr) ∧ Hid (Blk wr w.heap.size (.int .i64 kd) (.int .i64 nn) (.string Y) (.slice A1 ks.length d0) (.slice S2 kids.length d1)) ∧ Hid (zeroBlk wr (w.heap.size + 1)) ∧ Hid (OwnR ok h kids w M wr S2 k) ∧ Hid (StrAt (fun b => w.heap.size + 2 ≤ b ∧ b < M) wr (.slice A1 ks.length d0) ks)) (fun _ _ i _ => kids.length - (intOf i).toNat)
    case atStart => exact ⟨0, Nat.zero_le _, rfl, HB5, HX5, HZ5, HO5, HK5⟩
    case round =>
      clear HB5 HX5 HZ5 HO5 HK5
      obtain ⟨k, hkl, rfl, HB, HX, HZ, HO, HKs⟩ := hrel
      by_cases hlt : k < kids.length
      · obtain ⟨g, f, rfl, hR, h1, h2⟩ : ∃ g f, S2 = some ⟨g, 0, none⟩ ∧ ORow wr M g kids.length f ∧ (∀ j (hj : j < kids.length), j < k → NIs (fun b => M ≤ b ∧ b ≠ g) h wr kids[j] (nodeAt f j)) ∧ ∀ j (hj : j < kids.length), k ≤ j → NIs ok h w kids[j] (nodeAt f j) := by
          rcases HO.out with e | h0
          · rw [e] at hlt; simp at hlt
          · exact h0
        have hNk := h2 k hlt (Nat.le_refl _)
        obtain ⟨kk, n2, t2, S3, l3, m3, S4, l4, m4, hv⟩ := hNk.nd
        simp only [nodeAt, Value.agg.injEq, Array.mk.injEq, List.cons.injEq, and_true] at hv
        obtain ⟨v0, v1, v2, v3, v4⟩ := hv
        have c0 := hR.cell (k * 5) (by omega)
        have c1 := hR.cell (k * 5 + 1) (by omega)
        have c2 := hR.cell (k * 5 + 2) (by omega)
        have c3 := hR.cell (k * 5 + 3) (by omega)
        have c4 := hR.cell (k * 5 + 4) (by omega)
        rw [v0] at c0
        rw [v1] at c1
        rw [v2] at c2
        rw [v3] at c3
        rw [v4] at c4
        unfold nodeAt at hNk
        rw [v0, v1, v2, v3, v4] at hNk
        have HR := Lib.hid hR
        have H1 := Lib.hid h1
        have H2 := Lib.hid h2
        have HNk := Lib.hid hNk
        clear hR h1 h2 hNk v0 v1 v2 v3 v4 HO
        go_upto_region 6 with fail
        refine wp_gen (fun w6 => Hid (Below w.heap.size w w6) ∧ Hid (Below wr.heap.size wr w6) ∧ Hid (Blk w6 w.heap.size (.int .i64 kd) (.int .i64 nn) (.string Y) (.slice A1 ks.length d0) (.slice (some ⟨g, 0, none⟩) kids.length d1)) ∧ Hid (zeroBlk w6 (w.heap.size + 1)) ∧ Hid (Blk w6 wr.heap.size (.int .i64 kk) (.int .i64 n2) (.string ⟨t2.toArray⟩) (.slice S3 l3 m3) (.slice S4 l4 m4)) ∧ Hid (ORow w6 M g kids.length f) ∧ Hid (StrAt (fun b => w.heap.size + 2 ≤ b ∧ b < M) w6 (.slice A1 ks.length d0) ks))
          ⟨HB.out.alloc HB.out.size _, al0 wr _, HX.out.at (al0 wr _), HZ.out.at (al0 wr _), heap_alloc_new wr _, HR.out.kept ((al0 wr _).block g HR.out.lt), HKs.out.belowS (al0 wr _)⟩ ?_
        intro w6 ⟨HB6, HBr6, HX6, HZ6, HP6, HR6, HK6⟩
        have hsz : szT kids[k] ≤ 200000 := by
          have h1 := szL_mem (List.getElem_mem hlt)
          have h2 := HS.out
          omega
        have hQ := fun W (hb : Below w6.heap.size w6 W) => IH.out ok kids[k] _ W (HNk.out.below (HB6.out.trans (hb.mono HB6.out.size))) hsz
        have b0 := HP6.out.cell 0 (by omega)
        have b1 := HP6.out.cell 1 (by omega)
        have b2 := HP6.out.cell 2 (by omega)
        have b3 := HP6.out.cell 3 (by omega)
        have b4 := HP6.out.cell 4 (by omega)
        have x4 := HX6.out.cell 4 (by omega)
        have hg5 : k * 5 + 4 < 5 * kids.length := by omega
        clear c0 c1 c2 c3 c4 HKs HX HZ
        go_region_with (go_at_call 27; refine (hQ w6.drew ⟨rfl, rfl, rfl, Nat.le_refl _, fun _ _ => rfl⟩).mono ?_; rintro y w7 ⟨⟨v7, rfl, hN7⟩, hb7⟩; have hb8 : Below w6.heap.size w6 w7 := ⟨hb7.os, hb7.tape, hb7.output, hb7.size, hb7.block⟩; obtain ⟨e0, e1, e2, E3, q3, r3, E4, q4, r4, rfl⟩ := hN7.nd; have x47 := (HX6.out.at hb8).cell 4 (by omega); have hR7 := HR6.out.kept (hb8.block g HR6.out.lt); have fg := hR7.free; have g0 := hR7.cell (k * 5) (by omega); have g1 := hR7.cell (k * 5 + 1) (by omega); have g2 := hR7.cell (k * 5 + 2) (by omega); have g3 := hR7.cell (k * 5 + 3) (by omega); have g4 := hR7.cell (k * 5 + 4) (by omega))
        all_goals
          have hM := HM3.out
          have hgM := hR7.lo
          have HBn : Hid (Below w.heap.size w (set5 w7 g k (.int .i64 e0) (.int .i64 e1) (.string ⟨e2.toArray⟩) (.slice E3 q3 r3) (.slice E4 q4 r4))) :=
            set_below (set_below (set_below (set_below (set_below (HB6.out.trans (hb8.mono HB6.out.size)) (by omega) _) (by omega) _) (by omega) _) (by omega) _) (by omega) _
          have HXn : Hid (Blk (set5 w7 g k (.int .i64 e0) (.int .i64 e1) (.string ⟨e2.toArray⟩) (.slice E3 q3 r3) (.slice E4 q4 r4)) w.heap.size (.int .i64 kd) (.int .i64 nn) (.string Y) (.slice A1 ks.length d0) (.slice (some ⟨g, 0, none⟩) kids.length d1)) := (HX6.out.at hb8).grown (set5_gb _ _ _ _ _) (by simp; omega)
          have HZn : Hid (zeroBlk (set5 w7 g k (.int .i64 e0) (.int .i64 e1) (.string ⟨e2.toArray⟩) (.slice E3 q3 r3) (.slice E4 q4 r4)) (w.heap.size + 1)) := (HZ6.out.at hb8).grown (set5_gb _ _ _ _ _) (by simp; omega)
          have HOn := Lib.hid (OwnR.step hlt HR.out H1.out H2.out (HBr6.out.trans (hb8.mono HBr6.out.size)) (hN7.kept (Nat.le_refl _) (fun b hb _ => ⟨Nat.le_trans HBr6.out.size hb, rfl⟩)))
          have HKn : Hid (StrAt (fun b => w.heap.size + 2 ≤ b ∧ b < M) (set5 w7 g k (.int .i64 e0) (.int .i64 e1) (.string ⟨e2.toArray⟩) (.slice E3 q3 r3) (.slice E4 q4 r4)) (.slice A1 ks.length d0) ks) :=
            (HK6.out.belowS hb8).kept (set5_gb _ _ _ _ _).size (fun b hb hb2 => ⟨hb, (set5_gb _ _ _ _ _).block b hb2 (by simp; omega)⟩)
          clear hN7 hb7 hb8 x47 hR7 fg g0 g1 g2 g3 g4 b0 b1 b2 b3 b4 x4 hQ HR H1 H2 HNk HB6 HBr6 HX6 HZ6 HP6 HR6 HK6 HB
          go_wp2
          go_roundw
          case rel => exact ⟨k + 1, by omega, by go_num, HBn, HXn, HZn, HOn, HKn⟩
          case measure => simp [intOf]; omega
      · obtain rfl : k = kids.length := by omega
        have HF := Lib.hid (own_fin (kd := kd) (nn := nn) (tx := tx) (c := d1) HM3.out HKs.out HO.out)
        have x0 := HX.out.cell 0 (by omega)
        have x1 := HX.out.cell 1 (by omega)
        have x2 := HX.out.cell 2 (by omega)
        have x3 := HX.out.cell 3 (by omega)
        have x4 := HX.out.cell 4 (by omega)
        have z0 := HZ.out.cell 0 (by omega)
        have z1 := HZ.out.cell 1 (by omega)
        have z2 := HZ.out.cell 2 (by omega)
        have z3 := HZ.out.cell 3 (by omega)
        have z4 := HZ.out.cell 4 (by omega)
        have f0 := HZ.out.fz
        clear HO
        go_wp2
        refine bp_gen (fun w9 => Hid (Blk w9 (w.heap.size + 1) (.int .i64 kd) (.int .i64 nn) (.string Y) (.slice A1 ks.length d0) (.slice S2 kids.length d1)) ∧ Hid (Below w.heap.size w w9) ∧ Hid (NIs (fun b => w.heap.size ≤ b) (h + 1) w9 (.mk kd nn tx ks kids) (litV kd nn tx (.slice A1 ks.length d0) (.slice S2 kids.length d1))))
          ⟨HZ.out.store _ _ _ _ _, set_below (set_below (set_below (set_below (set_below HB.out (by omega) _) (by omega) _) (by omega) _) (by omega) _) (by omega) _,
            (HF.out.grown (gb_set (gb_set (gb_set (gb_set (gb_set (gb_refl _ _) _) _) _) _) _) (fun b hb => by omega)).kept (Nat.le_refl _) (fun b hb _ => ⟨by omega, rfl⟩)⟩ ?_
        intro w9 ⟨HX9, HB9, HN9⟩
        have y0 := HX9.out.cell 0 (by omega)
        have y1 := HX9.out.cell 1 (by omega)
        have y2 := HX9.out.cell 2 (by omega)
        have y3 := HX9.out.cell 3 (by omega)
        have y4 := HX9.out.cell 4 (by omega)
        (try simp only [Exit.inBlock, Exit.then])
        refine bodyPost_ret (v := .agg #[.int .i64 kd, .int .i64 nn, .string Y, .slice A1 ks.length d0, .slice S2 kids.length d1]) ?_ rfl ?_
        · simp [results, Tryd.results27, go_sem, y0, y1, y2, y3, y4]
        · rw [← HYY.out]
          exact ⟨⟨_, rfl, HN9.out⟩, HB9.out⟩

end Go.Proofs.YtlaagdpanbineaaDoor
