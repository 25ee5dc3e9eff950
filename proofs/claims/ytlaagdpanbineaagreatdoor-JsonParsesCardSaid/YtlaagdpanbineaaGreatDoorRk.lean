/- The document's reader of JSON: array, out of value. -/
import Derived.Test.YtlaagdpanbineaaGreatDoorRj
import Derived.Test.YtlaagdpanbineaaGreatDoorSm
import Derived.Deep.RegionLaw
namespace Go.Proofs.YtlaagdpanbineaaGreatDoor
open Go.RowKit

/-- what a reading leaves -/
def VPost (R : Nat) (s : ByteArray) (f : Nat) (w : World) (res : Res) (y : Ending) (w' : World) : Prop := match res with
  | .bad e => ∃ v, y = .returned v ∧ NdV v ∧ w.grownBy w' (some R) ∧ 0 < e ∧ ∃ k' c', RdA w' R s k' e c'
  | .ok t rest c' => ∃ v, y = .returned v ∧ NIs (fun b => w.heap.size ≤ b) f w' t v ∧ w.grownBy w' (some R) ∧ ∃ k', RdA w' R s k' 0 c' ∧ k' ≤ s.size ∧ s.data.toList.drop k' = rest

def ValC (f : Nat) : Prop := ∀ (R : Nat) (s : ByteArray) (d k c : Nat) (w : World), s.size ≤ 200000 → d ≤ 40 → RdA w R s k 0 c → k ≤ s.size → 2 * (s.size - k) + 2 ≤ f → c ≤ 20000 →
  Calls Tryz.prog 17 #[.pointer (some ⟨R, 0, none⟩), .int .i64 d] w fun y w' => VPost R s f w (pJ f .val d c (s.data.toList.drop k)) y w'

/-- the loop of array: what is known at its head -/
structure ArG (R : Nat) (s : ByteArray) (w : World) (d : Nat) (res : Res) (wr : World) (G g k c : Nat) (kids : List NT) (cv : Value) (xs : List Value) : Prop where
  rd : RdA wr R s k 0 c
  hk : k ≤ s.size
  out : Blk wr (w.heap.size + 1) (.int .i64 6) (.int .i64 0) (.string ⟨#[]⟩) (.slice none 0 0) cv
  own : wr.ownsRow (w.heap.size + 2) 26 5 cv kids.length xs
  cis : CIs (fun b => w.heap.size + 2 ≤ b ∧ cv.ownBlock ≠ some b) G wr kids xs
  eq : res = pJ g (.arr kids) d c (s.data.toList.drop k)
  fuel : 2 * (s.size - k) + 3 ≤ g
  len : kids.length ≤ k
  gb : w.grownBy wr (some R)
structure ArB (R : Nat) (s : ByteArray) (w : World) (res : Res) (wr : World) (e k c : Nat) (A : Option Addr) (l l2 : Nat) : Prop where
  rd : RdA wr R s k e c
  out : Blk wr (w.heap.size + 1) (.int .i64 6) (.int .i64 0) (.string ⟨#[]⟩) (.slice none 0 0) (.slice A l l2)
  pos : 0 < e
  eq : res = .bad e
  gb : w.grownBy wr (some R)

def errOf (w : World) (R : Nat) : Nat := match w.cell? ⟨R, 2, none⟩ with
  | some (.int _ n) => n.toNat
  | _ => 0
def leftOf (w : World) (R : Nat) (s : ByteArray) : Nat := if errOf w R = 0 then s.size - atOf w R + 1 else 0

theorem left_good {w : World} {R : Nat} {s : ByteArray} {k c : Nat} (h : RdA w R s k 0 c) : leftOf w R s = s.size - k + 1 := by
  unfold leftOf errOf
  rw [h.c2, h.at]
  rfl
theorem left_bad {w : World} {R : Nat} {s : ByteArray} {k e c : Nat} (h : RdA w R s k e c) (he : 0 < e) : leftOf w R s = 0 := by
  unfold leftOf errOf
  rw [h.c2]
  simp
  omega

theorem pJ_skip_val (g d c : Nat) (l : List UInt8) : pJ g .val d c (skipB l) = pJ g .val d c l := by
  cases g with
  | zero => rfl
  | succ g => unfold pJ; rw [skipB_idem]
theorem pJ_skip_arr (g d c : Nat) (acc : List NT) (l : List UInt8) : pJ g (.arr acc) d c (skipB l) = pJ g (.arr acc) d c l := by
  cases g with
  | zero => rfl
  | succ g => unfold pJ; rw [pJ_skip_val]
theorem drop_le {s : ByteArray} {k k1 : Nat} (_hk1 : k1 ≤ s.size) (h : s.data.toList.drop k1 = skipB (s.data.toList.drop k)) : s.size - k1 ≤ s.size - k := by
  have h1 := congrArg List.length h
  have h2 := skipB_le (s.data.toList.drop k)
  rw [List.length_drop, size_list] at h1
  rw [List.length_drop, size_list] at h2
  omega
def arrR (g d c : Nat) (l : List UInt8) : Res := match skipB l with
  | [] => pJ g (.arr []) d c l
  | y :: u => if y.toNat = 93 then .ok (.mk 6 0 [] [] []) u c else pJ g (.arr []) d c l

set_option maxRecDepth 100000 in
set_option maxHeartbeats 4000000 in
theorem arr_any (g : Nat) (ih : ∀ g', g' < g → ValC g') (R : Nat) (s : ByteArray) (d k c : Nat) (w : World) (hs : s.size ≤ 200000) (hd : d ≤ 39) (h : RdA w R s k 0 c) (hk : k ≤ s.size) (hf : 2 * (s.size - k) + 3 ≤ g) (hc20 : c ≤ 20000) :
    Calls Tryz.prog 38 #[.pointer (some ⟨R, 0, none⟩), .int .i64 d] w fun y w' => VPost R s (g + 1) w (arrR g d c (s.data.toList.drop k)) y w' := by
  have HR := Lib.hid h
  have IH := Lib.hid ih
  have hRX : R < w.heap.size := h.lt
  obtain ⟨res, hres⟩ : ∃ res, arrR g d c (s.data.toList.drop k) = res := ⟨_, rfl⟩
  rw [hres]
  have HRS := Lib.hid hres
  clear h ih hres
  go_enter Tryz.func38, Tryz.ntmps38
  go_upto_region 2 with fail
  refine wp_gen (fun w2 => Hid (zeroBlk w2 w.heap.size) ∧ Hid (Blk w2 (w.heap.size + 1) (.int .i64 6) (.int .i64 0) (.string ⟨#[]⟩) (.slice none 0 0) (.slice none 0 0)) ∧ Hid (RdA w2 R s k 0 c) ∧ Hid (w.grownBy w2 (some R)) ∧ w2.heap.size = w.heap.size + 2)
    ⟨(Below.heap_alloc _ _ _ (by simp)).trans (heap_alloc_new w _), heap_alloc_new2 w _ _, (HR.out.alloc _).alloc _, gb_alloc (gb_alloc (gb_refl w _) _) _, by simp⟩ ?_
  intro w2 ⟨HZ2, HX2, HR2, HG2, hz2⟩
  obtain ⟨m, hm⟩ : ∃ m, headB (skipB (s.data.toList.drop k)) = m := ⟨_, rfl⟩
  have hN := next_hd R s k 0 c w2 HR2.out hs hk hm
  by_cases h93 : m = 93
  · subst h93
    obtain ⟨y, u, hyu, hy⟩ : ∃ y u, skipB (s.data.toList.drop k) = y :: u ∧ y.toNat = 93 := by
      cases hz : skipB (s.data.toList.drop k) with
      | nil => rw [hz] at hm; simp [headB] at hm
      | cons y u => rw [hz] at hm; exact ⟨y, u, rfl, hm⟩
    have HRes : Hid (res = .ok (.mk 6 0 [] [] []) u c) := by
      show res = _
      rw [← HRS.out]
      unfold arrR
      rw [hyu]
      simp only []
      rw [if_pos hy]
    have HYU := Lib.hid hyu
    clear hm hyu hy
    go_wp2_with fail
    refine hN.mono ?_
    rintro e w3 ⟨rfl, k1, hR3, hk1, hd3, hg3⟩
    clear hN
    obtain ⟨hlt, hu⟩ := drop_cons (hd3.trans HYU.out)
    have HU := Lib.hid hu
    have HR3 := Lib.hid hR3
    have HG3 := Lib.hid (gb_trans HG2.out hg3)
    have HZ3 : Hid (zeroBlk w3 w.heap.size) := (hg3.block _ HZ2.out.lt (by simp; omega)).trans HZ2.out
    have HX3 : Hid (Blk w3 (w.heap.size + 1) (.int .i64 6) (.int .i64 0) (.string ⟨#[]⟩) (.slice none 0 0) (.slice none 0 0)) := (hg3.block _ HX2.out.lt (by simp; omega)).trans HX2.out
    have c1 := HR3.out.c1
    have f1 := HR3.out.fz 1 (by omega)
    have hs3 := HR3.out.set1 (k1 + 1)
    have hc : ((k1 + 1 : Nat) : Int) = (k1 : Int) + 1 := by omega
    rw [hc] at hs3
    have HS3 := Lib.hid hs3
    clear hR3 hd3 hg3 hs3 hc hu
    go_upto_region 4 with fail
    refine wp_gen (fun w4 => Hid (zeroBlk w4 w.heap.size) ∧ Hid (Blk w4 (w.heap.size + 1) (.int .i64 6) (.int .i64 0) (.string ⟨#[]⟩) (.slice none 0 0) (.slice none 0 0)) ∧ Hid (RdA w4 R s (k1 + 1) 0 c) ∧ Hid (w.grownBy w4 (some R)))
      ⟨HZ3.out.other (by omega) _, HX3.out.other (by omega) _, HS3.out, gb_set HG3.out _⟩ ?_
    intro w4 ⟨HZ, HX, HR4, HG4⟩
    have z0 := HZ.out.cell 0 (by omega)
    have z1 := HZ.out.cell 1 (by omega)
    have z2 := HZ.out.cell 2 (by omega)
    have z3 := HZ.out.cell 3 (by omega)
    have z4 := HZ.out.cell 4 (by omega)
    have f0 := HZ.out.fz
    have x0 := HX.out.cell 0 (by omega)
    have x1 := HX.out.cell 1 (by omega)
    have x2 := HX.out.cell 2 (by omega)
    have x3 := HX.out.cell 3 (by omega)
    have x4 := HX.out.cell 4 (by omega)
    clear c1 f1
    go_wp2
    refine bp_gen (fun w5 => Hid (Blk w5 w.heap.size (.int .i64 6) (.int .i64 0) (.string ⟨#[]⟩) (.slice none 0 0) (.slice none 0 0)) ∧ Hid (RdA w5 R s (k1 + 1) 0 c) ∧ Hid (w.grownBy w5 (some R))) ⟨HZ.out.store _ _ _ _ _, ((((HR4.out.other (by omega) _).other (by omega) _).other (by omega) _).other (by omega) _).other (by omega) _, gb_new (gb_new (gb_new (gb_new (gb_new HG4.out (Nat.le_refl _) _) (Nat.le_refl _) _) (Nat.le_refl _) _) (Nat.le_refl _) _) (Nat.le_refl _) _⟩ ?_
    intro w5 ⟨HZ5, HR5, HG5⟩
    have y0 := HZ5.out.cell 0 (by omega)
    have y1 := HZ5.out.cell 1 (by omega)
    have y2 := HZ5.out.cell 2 (by omega)
    have y3 := HZ5.out.cell 3 (by omega)
    have y4 := HZ5.out.cell 4 (by omega)
    (try simp only [Exit.inBlock, Exit.then])
    refine bodyPost_ret (v := litV 6 0 [] (.slice none 0 0) (.slice none 0 0)) ?_ rfl ?_
    · simp [results, Tryz.results38, go_sem, y0, y1, y2, y3, y4]
      rfl
    · rw [HRes.out]
      exact ⟨_, rfl, ⟨_, none, 0, rfl, ⟨none, 0, rfl, .inl rfl⟩, .inl rfl⟩, HG5.out, k1 + 1, HR5.out, by omega, HU.out.symm⟩
  · have HE : Hid (arrR g d c (s.data.toList.drop k) = pJ g (.arr []) d c (skipB (s.data.toList.drop k))) := by
      show arrR g d c (s.data.toList.drop k) = _
      rw [pJ_skip_arr]
      unfold arrR
      cases hz : skipB (s.data.toList.drop k) with
      | nil => rfl
      | cons y u =>
        rw [hz] at hm
        simp only [headB] at hm
        simp only []
        rw [if_neg (by omega)]
    rw [HRS.out] at HE
    have q93 : ((m : Int) == 93) = false := by simp; omega
    clear hm h93
    go_wp2_with fail
    refine hN.mono ?_
    rintro e w3 ⟨rfl, k1, hR3, hk1, hd3, hg3⟩
    clear hN
    have hle := drop_le hk1 hd3
    have HG3 := Lib.hid (gb_trans HG2.out hg3)
    have HZ3 : Hid (zeroBlk w3 w.heap.size) := (hg3.block _ HZ2.out.lt (by simp; omega)).trans HZ2.out
    have HX3 : Hid (Blk w3 (w.heap.size + 1) (.int .i64 6) (.int .i64 0) (.string ⟨#[]⟩) (.slice none 0 0) (.slice none 0 0)) := (hg3.block _ HX2.out.lt (by simp; omega)).trans HX2.out
    have HA : Hid (ArG R s w d res w3 g g k1 c [] (.slice none 0 0) []) := ⟨hR3, hk1, HX3.out, World.ownsRow_nil _ _ _ _, CIs.nil _ _ _, by rw [hd3]; exact HE.out, by omega, by simp, HG3.out⟩
    clear hR3 hd3 hg3 HG2 HZ2 HX2 HR2 hz2 HX3 HG3 HR HE hf hk
    go_wp2_with fail
    go_loopw [] (fun wr => Hid (zeroBlk wr w.heap.size) ∧ ((∃ g' k c kids cv xs, g' ≤ g ∧ c ≤ 20000 ∧ Hid (ArG R s w d res wr g g' k c kids cv xs)) ∨ (∃ e k c A l l2, Hid (ArB R s w res wr e k c A l l2)))) (fun wr => leftOf wr R s)
    case atStart => exact ⟨HZ3, .inl ⟨g, k1, c, [], _, [], Nat.le_refl _, hc20, HA⟩⟩
    case round =>
      obtain ⟨HZr, hh⟩ := hrel
      rcases hh with ⟨g', k, c, kids, cv, xs, hg', hcle, HAG⟩ | ⟨e, k, c, A, l, l2, HAB⟩
      · obtain ⟨i0, hi, hz0, hz1, hz2⟩ := info_parts nodeInfo
        have c2 := HAG.out.rd.c2
        have hfu := HAG.out.fuel
        have hkl := HAG.out.hk
        have hle2 := HAG.out.len
        obtain ⟨g2, rfl⟩ : ∃ g2, g' = g2 + 1 := ⟨g' - 1, by omega⟩
        have hV := fun w h => IH.out g2 (by omega) R s (d + 1) k c w hs (by omega) h hkl (by omega) hcle
        have hEQ := HAG.out.eq
        unfold pJ at hEQ
        have hcd : ((d + 1 : Nat) : Int) = (d : Int) + 1 := by omega
        have hwr : IntKind.i64.wrap ((d : Int) + 1) = (d : Int) + 1 := by rw [IntKind.wrap_i64]; omega
        rw [hcd, ← hwr] at hV
        clear hcd hwr
        have k4 := HAG.out.out.cell 4 (by omega)
        have kf := HAG.out.out.fz 4
        have hXl := HAG.out.out.lt
        cases hr : pJ g2 .val (d + 1) c (s.data.toList.drop k) with
        | bad e =>
          rw [hr] at hV hEQ
          simp only [VPost] at hV
          have HEQ := Lib.hid hEQ
          clear hr hEQ
          go_upto_region 7 with fail
          have hRX1 := HAG.out.rd.lt
          have hown := Lib.hid HAG.out.own
          have hXX := Lib.hid HAG.out.out
          have hZ0 := Lib.hid HAG.out.rd
          have hkx : kids.length ≤ 200000 := by omega
          go_cut [30] (fun _ wx => ∃ k' c' A l l2, 0 < e ∧ Hid (zeroBlk wx w.heap.size) ∧ Hid (RdA wx R s k' e c') ∧ Hid (Blk wx (w.heap.size + 1) (.int .i64 6) (.int .i64 0) (.string ⟨#[]⟩) (.slice none 0 0) (.slice A l l2)) ∧ Hid (w.grownBy wx (some R)))
          case first =>
            go_region_law (first
                | (go_simp; go_at_call 17; refine (hV wr.drew HAG.out.rd).mono ?_; rintro y w1 ⟨v, rfl, hND, hg0, hpos, k', c', hR1⟩; have hg1 := gb_of1 hg0; clear hg0; obtain ⟨kk, nn, tt, A1, l1, m1, A2, l2, m2, rfl⟩ := hND; have own1 := own_gb hown.out hg1 (by omega); have hs1 := hg1.size; have hX1 := hXX.out.grown hg1 (by simp; omega); have x4 : w1.cell? ⟨w.heap.size + 1, 4, none⟩ = some cv := hX1.cell 4 (by omega); have x5 : ∀ o, (w1.alloc o).cell? ⟨w.heap.size + 1, 4, none⟩ = some cv := fun o => (hX1.grown (gb_alloc (gb_refl _ (some R)) o) (by simp; omega)).cell 4 (by omega))
                | (refine step_append_lies _ (by rfl) (.tmp 24) (.tmp 29) 24 (by rfl) (w.heap.size + 2) 26 i0 _ 5 80 Tryz.underlying24 hi hz0 hz1 hz2 (by rfl) (by decide) cv kids.length xs (by rfl) (own1.alloc _) ⟨w1.heap.size, 0, none⟩ 1 1 [.int .i64 kk, .int .i64 nn, .string ⟨tt.toArray⟩, .slice A1 l1 m1, .slice A2 l2 m2] (by rfl) rfl (World.news_of_block (heap_alloc_new w1 _)) (news_one _ _ _ _ _ _ _ _ _) (by decide) (by unfold maxLen; omega) (by omega) (by simp; omega) (w1.heap.size + 1) (by simp) ?_; intro gg cap w9 hown9 hgrow9 hat9 hlt9; have hX9 := (hX1.grown (gb_alloc (gb_refl _ (some R)) _) (by simp; omega)).grown hgrow9 (fun e => by have := (own1.lt _ e.symm).1; omega); have k9 := hX9.cell 4 (by omega); have f9 := hX9.fz 4))
            all_goals
              go_wp2_with fail
              go_meet
              have hA := arr_append_bad (v9 := .slice (some ⟨gg, 0, none⟩) (kids.length + 1) cap) hRX (by omega) HZr hXX.out hown.out HAG.out.gb hg1 hR1 hgrow9
              exact ⟨k', c', _, _, _, hpos, Lib.hid hA.1, Lib.hid hA.2.1, Lib.hid hA.2.2.1, Lib.hid hA.2.2.2⟩
          case rest =>
            obtain ⟨k1, c1, A, l, l2, hpos, HZ, HR1, HX, HG⟩ := hcut
            have c2 := HR1.out.c2
            have q : ((e : Int) != 0) = true := by simp; omega
            go_upto_region 12 with fail
            refine wp_gen (fun w4 => Hid (zeroBlk w4 w.heap.size) ∧ Hid (Blk w4 (w.heap.size + 1) (.int .i64 6) (.int .i64 0) (.string ⟨#[]⟩) (.slice none 0 0) (.slice A l l2)) ∧ Hid (RdA w4 R s k1 e c1) ∧ Hid (w.grownBy w4 (some R)))
              ⟨HZ, HX, HR1, HG⟩ ?_
            intro w4 ⟨HZ, HX, HR4, HG4⟩
            clear c2 q
            have z0 := HZ.out.cell 0 (by omega)
            have z1 := HZ.out.cell 1 (by omega)
            have z2 := HZ.out.cell 2 (by omega)
            have z3 := HZ.out.cell 3 (by omega)
            have z4 := HZ.out.cell 4 (by omega)
            have f0 := HZ.out.fz
            have x0 := HX.out.cell 0 (by omega)
            have x1 := HX.out.cell 1 (by omega)
            have x2 := HX.out.cell 2 (by omega)
            have x3 := HX.out.cell 3 (by omega)
            have x4 := HX.out.cell 4 (by omega)
            go_wp2
            refine bp_gen (fun w5 => Hid (Blk w5 w.heap.size (.int .i64 6) (.int .i64 0) (.string ⟨#[]⟩) (.slice none 0 0) (.slice A l l2)) ∧ Hid (RdA w5 R s k1 e c1) ∧ Hid (w4.grownBy w5 (some w.heap.size)) ∧ Hid (w.grownBy w5 (some R))) ⟨HZ.out.store _ _ _ _ _, ((((HR4.out.other (by omega) _).other (by omega) _).other (by omega) _).other (by omega) _).other (by omega) _, gb_set (gb_set (gb_set (gb_set (gb_set (gb_refl _ _) _) _) _) _) _, gb_new (gb_new (gb_new (gb_new (gb_new HG4.out (Nat.le_refl _) _) (Nat.le_refl _) _) (Nat.le_refl _) _) (Nat.le_refl _) _) (Nat.le_refl _) _⟩ ?_
            intro w5 ⟨HZ5, HR5, HGX, HG5⟩
            have y0 := HZ5.out.cell 0 (by omega)
            have y1 := HZ5.out.cell 1 (by omega)
            have y2 := HZ5.out.cell 2 (by omega)
            have y3 := HZ5.out.cell 3 (by omega)
            have y4 := HZ5.out.cell 4 (by omega)
            (try simp only [Exit.inBlock, Exit.then])
            refine bodyPost_ret (v := litV 6 0 [] (.slice none 0 0) (.slice A l l2)) ?_ rfl ?_
            · simp [results, Tryz.results38, go_sem, y0, y1, y2, y3, y4]
              rfl
            · rw [HEQ.out]
              exact ⟨_, rfl, ⟨_, _, _, _, _, _, _, _, _, rfl⟩, HG5.out, hpos, _, _, HR5.out⟩
        | ok t rest c' =>
          rw [hr] at hV hEQ
          simp only [VPost] at hV
          have HEQ := Lib.hid hEQ
          have hrv := Lib.hid hr
          clear hr hEQ
          go_upto_region 7 with fail
          have hRX1 := HAG.out.rd.lt
          have hown := Lib.hid HAG.out.own
          have hXX := Lib.hid HAG.out.out
          have hZ0 := Lib.hid HAG.out.rd
          have hkx : kids.length ≤ 200000 := by omega
          go_cut [30] (fun _ wx => ∃ k' cv' xs', Hid (zeroBlk wx w.heap.size) ∧ Hid (RdA wx R s k' 0 c') ∧ k' ≤ s.size ∧ Hid (s.data.toList.drop k' = rest) ∧ Hid (Blk wx (w.heap.size + 1) (.int .i64 6) (.int .i64 0) (.string ⟨#[]⟩) (.slice none 0 0) cv') ∧ Hid (wx.ownsRow (w.heap.size + 2) 26 5 cv' (kids.length + 1) xs') ∧ Hid (CIs (fun b => w.heap.size + 2 ≤ b ∧ cv'.ownBlock ≠ some b) g wx (kids ++ [t]) xs') ∧ Hid (w.grownBy wx (some R)))
          case first =>
            go_region_law (first
                | (go_simp; go_at_call 17; refine (hV wr.drew HAG.out.rd).mono ?_; rintro y w1 ⟨v, rfl, hNI, hg0, k', hR1, hk', hd'⟩; have hg1 := gb_of1 hg0; clear hg0; obtain ⟨kk, nn, tt, A1, l1, m1, A2, l2, m2, rfl⟩ := hNI.nd; have own1 := own_gb hown.out hg1 (by omega); have hs1 := hg1.size; have hX1 := hXX.out.grown hg1 (by simp; omega); have x4 : w1.cell? ⟨w.heap.size + 1, 4, none⟩ = some cv := hX1.cell 4 (by omega); have x5 : ∀ o, (w1.alloc o).cell? ⟨w.heap.size + 1, 4, none⟩ = some cv := fun o => (hX1.grown (gb_alloc (gb_refl _ (some R)) o) (by simp; omega)).cell 4 (by omega))
                | (refine step_append_lies _ (by rfl) (.tmp 24) (.tmp 29) 24 (by rfl) (w.heap.size + 2) 26 i0 _ 5 80 Tryz.underlying24 hi hz0 hz1 hz2 (by rfl) (by decide) cv kids.length xs (by rfl) (own1.alloc _) ⟨w1.heap.size, 0, none⟩ 1 1 [.int .i64 kk, .int .i64 nn, .string ⟨tt.toArray⟩, .slice A1 l1 m1, .slice A2 l2 m2] (by rfl) rfl (World.news_of_block (heap_alloc_new w1 _)) (news_one _ _ _ _ _ _ _ _ _) (by decide) (by unfold maxLen; omega) (by omega) (by simp; omega) (w1.heap.size + 1) (by simp) ?_; intro gg cap w9 hown9 hgrow9 hat9 hlt9; have hX9 := (hX1.grown (gb_alloc (gb_refl _ (some R)) _) (by simp; omega)).grown hgrow9 (fun e => by have := (own1.lt _ e.symm).1; omega); have k9 := hX9.cell 4 (by omega); have f9 := hX9.fz 4))
            all_goals
              go_wp2_with fail
              go_meet
              have hA := arr_append (G := g) hRX (by omega) HZr hXX.out hown.out HAG.out.cis HAG.out.gb hg1 (hNI.mono (by omega)) hR1 hgrow9 hat9 hlt9 hown9
              exact ⟨k', .slice (some ⟨gg, 0, none⟩) (kids.length + 1) cap, xs ++ [.int .i64 kk, .int .i64 nn, .string ⟨tt.toArray⟩, .slice A1 l1 m1, .slice A2 l2 m2], Lib.hid hA.1, Lib.hid hA.2.1, hk', Lib.hid hd', Lib.hid hA.2.2.1, Lib.hid hA.2.2.2.1, Lib.hid hA.2.2.2.2.1, Lib.hid hA.2.2.2.2.2⟩
          case rest =>
            obtain ⟨k1, cv1, xs1, HZ, HR1, hk1, HD, HX, HO, HC, HG⟩ := hcut
            have HM1 := Lib.hid HR1.out.at
            have c2 := HR1.out.c2
            obtain ⟨m2, hm2⟩ : ∃ m, headB (skipB (s.data.toList.drop k1)) = m := ⟨_, rfl⟩
            have hN2 := next_hd R s k1 0 c' wc HR1.out hs hk1 hm2
            have hlen := pJ_ok _ _ _ _ _ _ _ _ hrv.out
            have hc9 := (pJ_fit _ _ _ _ _ _ _ _ hrv.out).1
            rw [← HD.out, List.length_drop, List.length_drop, size_list] at hlen
            by_cases h93 : m2 = 93
            · subst h93
              obtain ⟨y2, u2, hyu, hy⟩ : ∃ y u, skipB (s.data.toList.drop k1) = y :: u ∧ y.toNat = 93 := by
                cases hz : skipB (s.data.toList.drop k1) with
                | nil => rw [hz] at hm2; simp [headB] at hm2
                | cons y u => rw [hz] at hm2; exact ⟨y, u, rfl, hm2⟩
              have HE : Hid (res = .ok (.mk 6 0 [] [] (kids ++ [t])) u2 c') := by
                show _ = _
                rw [HEQ.out, ← HD.out, hyu]
                simp only []
                rw [if_pos hy]
              have HYU := Lib.hid hyu
              clear HEQ hyu hm2
              go_wp2_with fail
              refine hN2.mono ?_
              rintro e w3 ⟨rfl, k2, hR3, hk2, hd3, hg3⟩
              clear hN2
              obtain ⟨hlt, hu⟩ := drop_cons (hd3.trans HYU.out)
              have HU := Lib.hid hu
              have HR3 := Lib.hid hR3
              have s3 := hg3.size
              have hz1 := HZ.out.lt
              have hx1 := HX.out.lt
              have HG3 := Lib.hid (gb_trans HG.out hg3)
              have HZ3 := Lib.hid (HZ.out.grown hg3 (by simp; omega))
              have HX3 := Lib.hid (HX.out.grown hg3 (by simp; omega))
              have HO3 := Lib.hid (own_gb HO.out hg3 (by omega))
              have HC3 := Lib.hid (HC.out.kept s3 (fun b hb hlt => ⟨hb, hg3.block b hlt (by simp; omega)⟩))
              have c1 := HR3.out.c1
              have f1 := HR3.out.fz 1 (by omega)
              have hs3 := HR3.out.set1 (k2 + 1)
              have hc : ((k2 + 1 : Nat) : Int) = (k2 : Int) + 1 := by omega
              rw [hc] at hs3
              have HS3 := Lib.hid hs3
              have hgs : w3.grownBy (w3.setCell ⟨R, 1, none⟩ (.int .i64 ((k2 : Int) + 1))) (some R) := gb_set (gb_refl _ _) _
              have HO4 := Lib.hid (own_gb HO3.out hgs (by omega))
              have HC4 := Lib.hid (HC3.out.kept hgs.size (fun b hb hlt => ⟨hb, hgs.block b hlt (by simp; omega)⟩))
              clear hR3 hd3 hg3 hs3 hc hu hgs
              go_upto_region 10 with fail
              refine wp_gen (fun w4 => Hid (zeroBlk w4 w.heap.size) ∧ Hid (Blk w4 (w.heap.size + 1) (.int .i64 6) (.int .i64 0) (.string ⟨#[]⟩) (.slice none 0 0) cv1) ∧ Hid (RdA w4 R s (k2 + 1) 0 c') ∧ Hid (w.grownBy w4 (some R)) ∧ Hid (w4.ownsRow (w.heap.size + 2) 26 5 cv1 (kids.length + 1) xs1) ∧ Hid (CIs (fun b => w.heap.size + 2 ≤ b ∧ cv1.ownBlock ≠ some b) g w4 (kids ++ [t]) xs1))
                ⟨HZ3.out.other (by omega) _, HX3.out.other (by omega) _, HS3.out, gb_set HG3.out _, HO4, HC4⟩ ?_
              intro w4 ⟨HZ, HX, HR4, HG4, HO, HC⟩
              have z0 := HZ.out.cell 0 (by omega)
              have z1 := HZ.out.cell 1 (by omega)
              have z2 := HZ.out.cell 2 (by omega)
              have z3 := HZ.out.cell 3 (by omega)
              have z4 := HZ.out.cell 4 (by omega)
              have f0 := HZ.out.fz
              have x0 := HX.out.cell 0 (by omega)
              have x1 := HX.out.cell 1 (by omega)
              have x2 := HX.out.cell 2 (by omega)
              have x3 := HX.out.cell 3 (by omega)
              have x4 := HX.out.cell 4 (by omega)
              clear c1 f1
              obtain ⟨g1, cap1, rfl, hg1a, _⟩ := HO.out.form (by omega)
              go_wp2
              refine bp_gen (fun w5 => Hid (Blk w5 w.heap.size (.int .i64 6) (.int .i64 0) (.string ⟨#[]⟩) (.slice none 0 0) (.slice (some ⟨g1, 0, none⟩) (kids.length + 1) cap1)) ∧ Hid (RdA w5 R s (k2 + 1) 0 c') ∧ Hid (w4.grownBy w5 (some w.heap.size)) ∧ Hid (w.grownBy w5 (some R))) ⟨HZ.out.store _ _ _ _ _, ((((HR4.out.other (by omega) _).other (by omega) _).other (by omega) _).other (by omega) _).other (by omega) _, gb_set (gb_set (gb_set (gb_set (gb_set (gb_refl _ _) _) _) _) _) _, gb_new (gb_new (gb_new (gb_new (gb_new HG4.out (Nat.le_refl _) _) (Nat.le_refl _) _) (Nat.le_refl _) _) (Nat.le_refl _) _) (Nat.le_refl _) _⟩ ?_
              intro w5 ⟨HZ5, HR5, HGX, HG5⟩
              have y0 := HZ5.out.cell 0 (by omega)
              have y1 := HZ5.out.cell 1 (by omega)
              have y2 := HZ5.out.cell 2 (by omega)
              have y3 := HZ5.out.cell 3 (by omega)
              have y4 := HZ5.out.cell 4 (by omega)
              (try simp only [Exit.inBlock, Exit.then])
              refine bodyPost_ret (v := litV 6 0 [] (.slice none 0 0) (.slice (some ⟨g1, 0, none⟩) (kids.length + 1) cap1)) ?_ rfl ?_
              · simp [results, Tryz.results38, go_sem, y0, y1, y2, y3, y4]
                rfl
              · rw [HE.out]
                have hO5 := own_gb HO.out HGX.out (by omega)
                have hC5 := HC.out.kept (ok' := fun b => w.heap.size ≤ b) HGX.out.size (fun b hb hlt => ⟨by omega, HGX.out.block b hlt (by simp; omega)⟩)
                refine ⟨_, rfl, NIs.of_own (kids := kids ++ [t]) (by rw [List.length_append]; exact hO5) hC5 ?_ ⟨none, 0, rfl, .inl rfl⟩, HG5.out, k2 + 1, HR5.out, by omega, HU.out.symm⟩
                intro g9 hg9
                injection hg9 with hg9
                subst hg9
                show w.heap.size ≤ g1
                omega
            · have q93 : ((m2 : Int) == 93) = false := by simp; omega
              go_wp2_with fail
              refine hN2.mono ?_
              rintro e w3 ⟨rfl, k2, hR3, hk2, hd3, hg3⟩
              clear hN2
              by_cases h44 : m2 = 44
              · subst h44
                obtain ⟨y2, u2, hyu, hy⟩ : ∃ y u, skipB (s.data.toList.drop k1) = y :: u ∧ y.toNat = 44 := by
                  cases hz : skipB (s.data.toList.drop k1) with
                  | nil => rw [hz] at hm2; simp [headB] at hm2
                  | cons y u => rw [hz] at hm2; exact ⟨y, u, rfl, hm2⟩
                have hM := must_yes R s k2 c' 44 w3 hR3 hs hk2 (by rw [hd3, skipB_idem]; exact hyu) hy
                have HE : Hid (res = pJ g2 (.arr (kids ++ [t])) d c' u2) := by
                  show _ = _
                  rw [HEQ.out, ← HD.out, hyu]
                  simp only []
                  rw [if_neg (by omega), if_pos hy]
                have hul := skipB_cons hyu
                rw [List.length_drop, size_list] at hul
                clear HEQ hd3 hyu
                go_wp2_with fail
                refine hM.mono ?_
                rintro y w4 ⟨rfl, hg4, k4, hR4, hk4, hd4⟩
                clear hM
                go_wp2_with fail
                have hz1 := HZ.out.lt
                have hx1 := HX.out.lt
                have hg34 := gb_trans hg3 hg4
                have hul2 := congrArg List.length hd4
                rw [List.length_drop, size_list] at hul2
                have s34 := hg34.size
                refine ⟨⟨Lib.hid (HZ.out.grown hg34 (by simp; omega)), .inl ⟨g2, k4, c', kids ++ [t], cv1, xs1, by omega, hc9, Lib.hid ⟨hR4, hk4, HX.out.grown hg34 (by simp; omega), ?_, HC.out.kept s34 ?_, ?_, ?_, ?_, gb_trans HG.out hg34⟩⟩⟩, ?_⟩
                · rw [List.length_append]; exact own_gb HO.out hg34 (by omega)
                · exact fun b hb hlt => ⟨hb, hg34.block b hlt (by simp; omega)⟩
                · rw [HE.out, hd4]
                · omega
                · rw [List.length_append]; simp; omega
                · rw [left_good hR4, left_good HAG.out.rd]
                  omega
              · have hM := must_no R s k2 c' 44 w3 hR3 hs hk2 (by intro y u hyu; rw [hd3, skipB_idem] at hyu; rw [hyu] at hm2; simp only [headB] at hm2; omega) (by omega)
                have HE : Hid (res = .bad 1) := by
                  show _ = _
                  rw [HEQ.out, ← HD.out]
                  cases hz : skipB (s.data.toList.drop k1) with
                  | nil => rfl
                  | cons y u =>
                    rw [hz] at hm2
                    simp only [headB] at hm2
                    simp only []
                    rw [if_neg (by omega), if_neg (by omega)]
                clear HEQ hd3
                go_wp2_with fail
                refine hM.mono ?_
                rintro y w4 ⟨rfl, hg4, k4, hR4⟩
                clear hM
                go_wp2_with fail
                obtain ⟨g1, cap1, rfl, _, _⟩ := HO.out.form (by omega)
                have hz1 := HZ.out.lt
                have hx1 := HX.out.lt
                have hg34 := gb_trans hg3 hg4
                refine ⟨⟨Lib.hid (HZ.out.grown hg34 (by simp; omega)), .inr ⟨1, k4, c', _, _, _, Lib.hid ⟨hR4, HX.out.grown hg34 (by simp; omega), by omega, HE.out, gb_trans HG.out hg34⟩⟩⟩, ?_⟩
                rw [left_bad hR4 (by omega), left_good HAG.out.rd]
                omega
      · have c2 := HAB.out.rd.c2
        have q : ((e : Int) == 0) = false := by have := HAB.out.pos; simp; omega
        go_upto_region 12 with fail
        refine wp_gen (fun w4 => Hid (zeroBlk w4 w.heap.size) ∧ Hid (Blk w4 (w.heap.size + 1) (.int .i64 6) (.int .i64 0) (.string ⟨#[]⟩) (.slice none 0 0) (.slice A l l2)) ∧ Hid (RdA w4 R s k e c) ∧ Hid (w.grownBy w4 (some R)))
          ⟨HZr, HAB.out.out, HAB.out.rd, HAB.out.gb⟩ ?_
        intro w4 ⟨HZ, HX, HR4, HG4⟩
        clear c2
        have z0 := HZ.out.cell 0 (by omega)
        have z1 := HZ.out.cell 1 (by omega)
        have z2 := HZ.out.cell 2 (by omega)
        have z3 := HZ.out.cell 3 (by omega)
        have z4 := HZ.out.cell 4 (by omega)
        have f0 := HZ.out.fz
        have x0 := HX.out.cell 0 (by omega)
        have x1 := HX.out.cell 1 (by omega)
        have x2 := HX.out.cell 2 (by omega)
        have x3 := HX.out.cell 3 (by omega)
        have x4 := HX.out.cell 4 (by omega)
        go_wp2
        refine bp_gen (fun w5 => Hid (Blk w5 w.heap.size (.int .i64 6) (.int .i64 0) (.string ⟨#[]⟩) (.slice none 0 0) (.slice A l l2)) ∧ Hid (RdA w5 R s k e c) ∧ Hid (w4.grownBy w5 (some w.heap.size)) ∧ Hid (w.grownBy w5 (some R))) ⟨HZ.out.store _ _ _ _ _, ((((HR4.out.other (by omega) _).other (by omega) _).other (by omega) _).other (by omega) _).other (by omega) _, gb_set (gb_set (gb_set (gb_set (gb_set (gb_refl _ _) _) _) _) _) _, gb_new (gb_new (gb_new (gb_new (gb_new HG4.out (Nat.le_refl _) _) (Nat.le_refl _) _) (Nat.le_refl _) _) (Nat.le_refl _) _) (Nat.le_refl _) _⟩ ?_
        intro w5 ⟨HZ5, HR5, HGX, HG5⟩
        have y0 := HZ5.out.cell 0 (by omega)
        have y1 := HZ5.out.cell 1 (by omega)
        have y2 := HZ5.out.cell 2 (by omega)
        have y3 := HZ5.out.cell 3 (by omega)
        have y4 := HZ5.out.cell 4 (by omega)
        (try simp only [Exit.inBlock, Exit.then])
        refine bodyPost_ret (v := litV 6 0 [] (.slice none 0 0) (.slice A l l2)) ?_ rfl ?_
        · simp [results, Tryz.results38, go_sem, y0, y1, y2, y3, y4]
          rfl
        · rw [HAB.out.eq]
          exact ⟨_, rfl, ⟨_, _, _, _, _, _, _, _, _, rfl⟩, HG5.out, HAB.out.pos, _, _, HR5.out⟩

end Go.Proofs.YtlaagdpanbineaaGreatDoor

/- The document's reader of JSON: what an appended key, an appended member leaves. -/
namespace Go.Proofs.YtlaagdpanbineaaGreatDoor
open Go.RowKit

def strVr (t : List UInt8) : Value := .string ⟨t.toArray⟩
def rowsOk (w : World) (kv cv : Value) : Nat → Prop := fun b => w.heap.size + 2 ≤ b ∧ cv.ownBlock ≠ some b ∧ kv.ownBlock ≠ some b

theorem Blk.set3 {w : World} {X : Nat} {c0 c1 c2 c3 c4 : Value} (h : Blk w X c0 c1 c2 c3 c4) (v : Value) : Blk (w.setCell ⟨X, 3, none⟩ v) X c0 c1 c2 v c4 := by
  unfold Blk at h ⊢
  simp [World.setCell, Array.getElem?_modify, h]
theorem own_row {w w' : World} {base size n : Nat} {e : TypeId} {v v2 : Value} {xs : List Value} (h : w.ownsRow base e size v n xs) (hg : w.grownBy w' v2.ownBlock)
    (hd : ∀ b, v.ownBlock = some b → v2.ownBlock ≠ some b) : w'.ownsRow base e size v n xs := by
  refine h.kept hg ?_
  cases hv : v.ownBlock with
  | none => exact .inl rfl
  | some g => exact .inr (fun e => hd g hv e.symm)

/-- a key is appended -/
theorem key_append {R : Nat} {s : ByteArray} {w w1 w9 : World} {G k' c' gg cap e0 nk : Nat} {kids : List NT} {kv cv a b c : Value} {xs kx kx' : List Value} {o : Obj}
    (hRX : R < w.heap.size) (HZ : zeroBlk w1 w.heap.size) (HX : Blk w1 (w.heap.size + 1) a b c kv cv) (ownk : w1.ownsRow (w.heap.size + 2) 9 1 kv nk kx) (own : w1.ownsRow (w.heap.size + 2) 26 5 cv kids.length xs)
    (dis : ∀ b, kv.ownBlock = some b → cv.ownBlock ≠ some b) (cis : CIs (rowsOk w kv cv) G w1 kids xs) (gb : w.grownBy w1 (some R))
    (hR1 : RdA w1 R s k' e0 c') (hgrow : (w1.alloc o).grownBy w9 kv.ownBlock) (hat : kv.ownBlock = some gg ∨ gg = w1.heap.size + 1) (_hlt : gg < w9.heap.size)
    (hown9 : w9.ownsRow (w.heap.size + 2) 9 1 (.slice (some ⟨gg, 0, none⟩) (nk + 1) cap) (nk + 1) kx') :
    zeroBlk (w9.setCell ⟨w.heap.size + 1, 3, none⟩ (.slice (some ⟨gg, 0, none⟩) (nk + 1) cap)) w.heap.size ∧
    RdA (w9.setCell ⟨w.heap.size + 1, 3, none⟩ (.slice (some ⟨gg, 0, none⟩) (nk + 1) cap)) R s k' e0 c' ∧
    Blk (w9.setCell ⟨w.heap.size + 1, 3, none⟩ (.slice (some ⟨gg, 0, none⟩) (nk + 1) cap)) (w.heap.size + 1) a b c (.slice (some ⟨gg, 0, none⟩) (nk + 1) cap) cv ∧
    (w9.setCell ⟨w.heap.size + 1, 3, none⟩ (.slice (some ⟨gg, 0, none⟩) (nk + 1) cap)).ownsRow (w.heap.size + 2) 9 1 (.slice (some ⟨gg, 0, none⟩) (nk + 1) cap) (nk + 1) kx' ∧
    (w9.setCell ⟨w.heap.size + 1, 3, none⟩ (.slice (some ⟨gg, 0, none⟩) (nk + 1) cap)).ownsRow (w.heap.size + 2) 26 5 cv kids.length xs ∧
    (∀ b, (Value.slice (some ⟨gg, 0, none⟩) (nk + 1) cap).ownBlock = some b → cv.ownBlock ≠ some b) ∧
    CIs (rowsOk w (.slice (some ⟨gg, 0, none⟩) (nk + 1) cap) cv) G (w9.setCell ⟨w.heap.size + 1, 3, none⟩ (.slice (some ⟨gg, 0, none⟩) (nk + 1) cap)) kids xs ∧
    w.grownBy (w9.setCell ⟨w.heap.size + 1, 3, none⟩ (.slice (some ⟨gg, 0, none⟩) (nk + 1) cap)) (some R) := by
  have hkv : ∀ g, kv.ownBlock = some g → w.heap.size + 2 ≤ g ∧ g < w1.heap.size := ownk.lt
  have hcv : ∀ g, cv.ownBlock = some g → w.heap.size + 2 ≤ g ∧ g < w1.heap.size := own.lt
  have s9 := hgrow.size
  have sa : (w1.alloc o).heap.size = w1.heap.size + 1 := by simp
  have hx := HX.lt
  have hne : ∀ X, X < w.heap.size + 2 → some X ≠ kv.ownBlock := fun X hX e => by have := (hkv X e.symm).1; omega
  have hset : w9.grownBy (w9.setCell ⟨w.heap.size + 1, 3, none⟩ (.slice (some ⟨gg, 0, none⟩) (nk + 1) cap)) (some (w.heap.size + 1)) := gb_set (gb_refl _ _) _
  generalize hv9 : (Value.slice (some ⟨gg, 0, none⟩) (nk + 1) cap) = v9 at hown9 hset ⊢
  have hob : v9.ownBlock = some gg := by rw [← hv9]; rfl
  have hgl : kv.ownBlock = some gg ∨ w1.heap.size + 1 ≤ gg := by
    rcases hat with h | h
    · exact .inl h
    · exact .inr (by omega)
  have hgm : w.heap.size + 2 ≤ gg := by
    rcases hgl with h | h
    · exact (hkv gg h).1
    · omega
  refine ⟨?_, ?_, ?_, ?_, ?_, ?_, ?_, ?_⟩
  · exact ((HZ.grown (gb_alloc (gb_refl _ (some R)) o) (by simp; omega)).grown hgrow (hne _ (by omega))).other (by omega) _
  · exact ((hR1.alloc o).grown hgrow (hne _ (by omega))).other (by omega) _
  · exact ((HX.grown (gb_alloc (gb_refl _ (some R)) o) (by simp; omega)).grown hgrow (hne _ (by omega))).set3 _
  · exact own_gb hown9 hset (by omega)
  · exact own_gb (own_row (own.alloc o) hgrow (fun b h1 h2 => dis b h2 h1)) hset (by omega)
  · intro b hb e
    rw [hob] at hb
    injection hb with hb
    subst hb
    rcases hgl with h | h
    · exact dis _ h e
    · have := (hcv _ e).2; omega
  · refine cis.kept ?_ ?_
    · have := hset.size; omega
    · intro b ⟨h1, h2, h3⟩ hb
      have e2 : (w1.alloc o).heap[b]? = w1.heap[b]? := Below.heap_alloc _ _ _ (by omega)
      have e3 := hgrow.block b (by omega) (fun e => h3 e.symm)
      have e4 := hset.block b (by omega) (by simp; omega)
      refine ⟨⟨h1, h2, ?_⟩, e4.trans (e3.trans e2)⟩
      rw [hob]
      intro e
      injection e with e
      rcases hgl with h | h
      · exact h3 (by rw [h, e])
      · omega
  · refine gb_row (gb_row (gb_alloc gb o) hgrow ?_) hset ?_
    · intro g hg; have := (hkv g hg).1; omega
    · intro g hg; injection hg with hg; omega

/-- a member's value is appended -/
theorem obj_append {R : Nat} {s : ByteArray} {w wr w1 w9 : World} {G k' c' gg cap e0 nk : Nat} {kids : List NT} {t : NT} {kv cv a b c c0 c1 c2 c3 c4 : Value} {xs kx : List Value} {o : Obj}
    (hRX : R < w.heap.size) (HZ : zeroBlk wr w.heap.size) (HX : Blk wr (w.heap.size + 1) a b c kv cv) (ownk : wr.ownsRow (w.heap.size + 2) 9 1 kv nk kx) (own : wr.ownsRow (w.heap.size + 2) 26 5 cv kids.length xs)
    (dis : ∀ b, kv.ownBlock = some b → cv.ownBlock ≠ some b) (cis : CIs (rowsOk w kv cv) G wr kids xs) (gb : w.grownBy wr (some R)) (hg1 : wr.grownBy w1 (some R))
    (hN : NIs (fun b => wr.heap.size ≤ b) G w1 t (.agg #[c0, c1, c2, c3, c4])) (hR1 : RdA w1 R s k' e0 c') (hgrow : (w1.alloc o).grownBy w9 cv.ownBlock) (hat : cv.ownBlock = some gg ∨ gg = w1.heap.size + 1) (_hlt : gg < w9.heap.size)
    (hown9 : w9.ownsRow (w.heap.size + 2) 26 5 (.slice (some ⟨gg, 0, none⟩) (kids.length + 1) cap) (kids.length + 1) (xs ++ [c0, c1, c2, c3, c4])) :
    zeroBlk (w9.setCell ⟨w.heap.size + 1, 4, none⟩ (.slice (some ⟨gg, 0, none⟩) (kids.length + 1) cap)) w.heap.size ∧
    RdA (w9.setCell ⟨w.heap.size + 1, 4, none⟩ (.slice (some ⟨gg, 0, none⟩) (kids.length + 1) cap)) R s k' e0 c' ∧
    Blk (w9.setCell ⟨w.heap.size + 1, 4, none⟩ (.slice (some ⟨gg, 0, none⟩) (kids.length + 1) cap)) (w.heap.size + 1) a b c kv (.slice (some ⟨gg, 0, none⟩) (kids.length + 1) cap) ∧
    (w9.setCell ⟨w.heap.size + 1, 4, none⟩ (.slice (some ⟨gg, 0, none⟩) (kids.length + 1) cap)).ownsRow (w.heap.size + 2) 9 1 kv nk kx ∧
    (w9.setCell ⟨w.heap.size + 1, 4, none⟩ (.slice (some ⟨gg, 0, none⟩) (kids.length + 1) cap)).ownsRow (w.heap.size + 2) 26 5 (.slice (some ⟨gg, 0, none⟩) (kids.length + 1) cap) (kids.length + 1) (xs ++ [c0, c1, c2, c3, c4]) ∧
    (∀ b, kv.ownBlock = some b → (Value.slice (some ⟨gg, 0, none⟩) (kids.length + 1) cap).ownBlock ≠ some b) ∧
    CIs (rowsOk w kv (.slice (some ⟨gg, 0, none⟩) (kids.length + 1) cap)) G (w9.setCell ⟨w.heap.size + 1, 4, none⟩ (.slice (some ⟨gg, 0, none⟩) (kids.length + 1) cap)) (kids ++ [t]) (xs ++ [c0, c1, c2, c3, c4]) ∧
    w.grownBy (w9.setCell ⟨w.heap.size + 1, 4, none⟩ (.slice (some ⟨gg, 0, none⟩) (kids.length + 1) cap)) (some R) := by
  have hkv : ∀ g, kv.ownBlock = some g → w.heap.size + 2 ≤ g ∧ g < wr.heap.size := ownk.lt
  have hcv : ∀ g, cv.ownBlock = some g → w.heap.size + 2 ≤ g ∧ g < wr.heap.size := own.lt
  have s1 := hg1.size
  have s9 := hgrow.size
  have sa : (w1.alloc o).heap.size = w1.heap.size + 1 := by simp
  have hx := HX.lt
  have hne : ∀ X, X < w.heap.size + 2 → some X ≠ cv.ownBlock := fun X hX e => by have := (hcv X e.symm).1; omega
  have hset : w9.grownBy (w9.setCell ⟨w.heap.size + 1, 4, none⟩ (.slice (some ⟨gg, 0, none⟩) (kids.length + 1) cap)) (some (w.heap.size + 1)) := gb_set (gb_refl _ _) _
  generalize hv9 : (Value.slice (some ⟨gg, 0, none⟩) (kids.length + 1) cap) = v9 at hown9 hset ⊢
  have hob : v9.ownBlock = some gg := by rw [← hv9]; rfl
  have hgl : gg < wr.heap.size ∧ cv.ownBlock = some gg ∨ w1.heap.size + 1 ≤ gg := by
    rcases hat with h | h
    · exact .inl ⟨(hcv gg h).2, h⟩
    · exact .inr (by omega)
  have hgm : w.heap.size + 2 ≤ gg := by
    rcases hgl with ⟨_, h⟩ | h
    · exact (hcv gg h).1
    · omega
  refine ⟨?_, ?_, ?_, ?_, ?_, ?_, ?_, ?_⟩
  · exact (((HZ.grown hg1 (by simp; omega)).grown (gb_alloc (gb_refl _ (some R)) o) (by simp; omega)).grown hgrow (hne _ (by omega))).other (by omega) _
  · exact ((hR1.alloc o).grown hgrow (hne _ (by omega))).other (by omega) _
  · exact (((HX.grown hg1 (by simp; omega)).grown (gb_alloc (gb_refl _ (some R)) o) (by simp; omega)).grown hgrow (hne _ (by omega))).set4 _
  · exact own_gb (own_row ((own_gb ownk hg1 (by omega)).alloc o) hgrow dis) hset (by omega)
  · exact own_gb hown9 hset (by omega)
  · intro b hb e
    rw [hob] at e
    injection e with e
    subst e
    rcases hgl with ⟨_, h⟩ | h
    · exact dis _ hb h
    · have := (hkv _ hb).2; omega
  · refine CIs.snoc (cis.kept ?_ ?_) (hN.kept ?_ ?_)
    · have := hset.size; omega
    · intro b ⟨h1, h2, h3⟩ hb
      have e1 := hg1.block b hb (by simp; omega)
      have e2 : (w1.alloc o).heap[b]? = w1.heap[b]? := Below.heap_alloc _ _ _ (by omega)
      have e3 := hgrow.block b (by omega) (fun e => h2 e.symm)
      have e4 := hset.block b (by omega) (by simp; omega)
      refine ⟨⟨h1, ?_, h3⟩, e4.trans (e3.trans (e2.trans e1))⟩
      rw [hob]
      intro e
      injection e with e
      rcases hgl with ⟨_, h⟩ | h
      · exact h2 (by rw [h, e])
      · omega
    · have := hset.size; omega
    · intro b h1 hb
      have e2 : (w1.alloc o).heap[b]? = w1.heap[b]? := Below.heap_alloc _ _ _ (by omega)
      have e3 := hgrow.block b (by omega) (fun e => by have := (hcv b e.symm).2; omega)
      have e4 := hset.block b (by omega) (by simp; omega)
      refine ⟨⟨by omega, ?_, fun e => by have := (hkv b e).2; omega⟩, e4.trans (e3.trans e2)⟩
      rw [hob]
      intro e
      injection e with e
      rcases hgl with ⟨h, _⟩ | h
      · omega
      · omega
  · refine gb_row (gb_row (gb_trans gb (gb_alloc hg1 o)) hgrow ?_) hset ?_
    · intro g hg; have := (hcv g hg).1; omega
    · intro g hg; injection hg with hg; omega

/-- the row of keys reads as keys -/
theorem StrAt.of_own {ok : Nat → Prop} {B : Nat} {w : World} {kv : Value} {ks : List (List UInt8)} (hown : w.ownsRow B 9 1 kv ks.length (ks.map strVr)) (hg : ∀ g, kv.ownBlock = some g → ok g) : StrAt ok w kv ks := by
  rcases hown.2 with ⟨rfl, h0⟩ | ⟨g, cap, cur, rfl, hb, hgg, hn, hc, hs, ht⟩
  · exact ⟨none, 0, by rw [h0], .inl (List.eq_nil_of_length_eq_zero h0)⟩
  · refine ⟨_, cap, rfl, .inr ⟨g, 0, rfl, hg g rfl, (Array.getElem?_eq_some_iff.1 hgg).1, fun j hj => ?_⟩⟩
    have := hown.cellAt (0 + j) (by omega)
    rw [this]
    simp [hj, strVr]

end Go.Proofs.YtlaagdpanbineaaGreatDoor

