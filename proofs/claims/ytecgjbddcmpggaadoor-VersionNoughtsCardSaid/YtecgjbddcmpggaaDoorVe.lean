/- The chapter's examples answer as told (alive), in any world. -/
import Derived.Test.YtecgjbddcmpggaaDoorVd
namespace Go.Proofs.YtecgjbddcmpggaaDoor
open Go.RowKit Go.Shelf

def strsA : Array Value := #[.string ⟨#[49, 46, 48, 100, 101, 118]⟩, .string ⟨#[49, 46, 48, 97, 49]⟩, .string ⟨#[49, 46, 48]⟩, .string ⟨#[49, 46, 48, 112, 111, 115, 116]⟩, .string ⟨#[49, 46, 49]⟩]
theorem strsA_at : ∀ j, j < 5 → strsA[j]? = some (.string (bs (aS.getD j [])))
  | 0, _ => rfl
  | 1, _ => rfl
  | 2, _ => rfl
  | 3, _ => rfl
  | 4, _ => rfl
theorem aS_small : ∀ j, j < 5 → (bs (aS.getD j [])).size ≤ maxLen
  | 0, _ => by decide
  | 1, _ => by decide
  | 2, _ => by decide
  | 3, _ => by decide
  | 4, _ => by decide
def AliveP (w : World) (e : Ending) (w' : World) : Prop := e = .returned (.bool true) ∧ Below w.heap.size w w'
theorem take_succ (j : Nat) (h : j < 5) : aV.take (j + 1) = aV.take j ++ [aV.getD j zV] := by
  rw [List.take_succ_eq_append_getElem (by rw [aL]; exact h)]
  simp [List.getD_eq_getElem?_getD, List.getElem?_eq_getElem (show j < aV.length by rw [aL]; exact h)]

theorem blk_grown {w w' : World} {v : Value} {B n b T' : Nat} {xs : List Value} {cur : Array Value} {fz : Nat × Nat} (h : w.heap[b]? = some (.cells cur T' fz)) (hT : T' ≠ 25) (ho : w.ownsRow B 25 3 v n xs) (hg : w.grownBy w' v.ownBlock) : w'.heap[b]? = some (.cells cur T' fz) := by
  rw [hg.block b (Array.getElem?_eq_some_iff.1 h).1 ?_, h]
  intro e
  rcases ho.2 with ⟨rfl, h0⟩ | ⟨g, cap, cur2, rfl, _, h2, _⟩
  · cases e
  · simp [Value.ownBlock] at e
    subst e
    rw [h] at h2
    simp at h2
    exact hT h2.2.1
theorem blk_below {w w' : World} {b : Nat} {o : Obj} (h : w.heap[b]? = some o) (hb : Below w.heap.size w w') : w'.heap[b]? = some o := (hb.block b (Array.getElem?_eq_some_iff.1 h).1).trans h

set_option maxRecDepth 100000 in
set_option maxHeartbeats 4000000 in
theorem alive_any (m : Int) (T : TypeId) (pv : Value) (w : World) (hm : w.cell? ⟨1, 0, none⟩ = some (.int .i64 m)) (hE : w.cell? ⟨0, 0, none⟩ = some (.iface T pv)) :
    Calls Tryd.prog 7 #[] w (AliveP w) := by
  obtain ⟨i0, hi, hz0, hz1, hz2⟩ := info_parts verInfo
  have HM := Lib.hid hm
  have HE := Lib.hid hE
  clear hm hE
  go_enter Tryd.func7, Tryd.ntmps7
  go_wp2
  refine wp_gen (fun w1 => Hid (Below w.heap.size w w1) ∧ w1.ownsRow w.heap.size 25 3 (.slice (some ⟨w.heap.size, 0, none⟩) 0 0) 0 [] ∧ Hid (w1.heap[w.heap.size + 1]? = some (.cells strsA 9 (0, 0))))
    ⟨(below_alloc _ _).trans ((below_alloc _ _).mono (by simp)), own_below (World.ownsRow_lit w #[] 0 (Nat.le_refl _) (by unfold maxLen; omega) rfl) (below_alloc _ _), Lib.hid (by simpa [strsA] using heap_alloc_new (w.alloc (.cells #[] 25)) (.cells strsA 9))⟩ ?_
  intro w1 ⟨HB1, hown1, HS1⟩
  go_loopw [1, 3, 4, 5, 14] (fun l _ _ _ i wr => ∃ (j : Nat) (cs : List Value), j ≤ 5 ∧ i = .int .i64 j ∧ Hid (Below w.heap.size w wr) ∧ wr.ownsRow w.heap.size 25 3 l j cs ∧ Hid (VersIn wr cs (aV.take j)) ∧ Hid (wr.heap[w.heap.size + 1]? = some (.cells strsA 9 (0, 0)))) (fun _ _ _ _ i _ => 5 - (intOf i).toNat)
  case atStart => exact ⟨0, [], Nat.zero_le _, rfl, HB1, hown1, ⟨rfl, fun j hj => absurd hj (by simp)⟩, HS1⟩
  case round =>
    clear HB1 hown1 HS1
    obtain ⟨j, cs, hj, rfl, HB, hown, HI, HS⟩ := hrel
    have hsz := HB.out.size
    have HO := Lib.hid hown
    clear hown
    by_cases hlt : j < 5
    · have hc0 : wr.cell? ⟨w.heap.size + 1, j, none⟩ = some (.string (bs (aS.getD j []))) := by
        rw [cell_of_row _ _ j _ _ _ HS.out]; exact strsA_at j hlt
      have qp := fun W hm hE => parse_ok (bs (aS.getD j [])) m T pv W (aS_small j hlt) hm hE (aP j hlt)
      have HTK := Lib.hid (take_succ j hlt)
      generalize bs (aS.getD j []) = str at *
      generalize aV.getD j zV = ver at *
      go_wp2_with fail
      refine (qp _ (maxAt HM.out HB.out) ((HB.out.cell (World.block_lt_of_cell? w _ HE.out)).trans HE.out)).mono ?_
      rintro e w2 ⟨⟨v, rfl, hv⟩, h2⟩
      have HB2 := Lib.hid (HB.out.trans (h2.mono hsz))
      have HO2 := Lib.hid (own_below HO.out h2)
      have HI2 := Lib.hid (HI.out.below h2)
      have HS2 := Lib.hid (blk_below HS.out h2)
      have hsz2 := h2.size
      clear h2 qp hc0 HO HI HS HB
      obtain ⟨vp, vl, rfl, hp, hq⟩ := hv
      have h1p : ∃ o k, vp = .slice o ver.2.1.length k := by obtain ⟨o, k, e, _⟩ := hp.row.sl; exact ⟨o, k, e⟩
      have h1q : ∃ o k, vl = .slice o ver.2.2.length k := by obtain ⟨o, k, e, _⟩ := hq.row.sl; exact ⟨o, k, e⟩
      obtain ⟨o1, k1, rfl⟩ := h1p
      obtain ⟨o2, k2, rfl⟩ := h1q
      have HPP := Lib.hid hp
      have HQQ := Lib.hid hq
      clear hp hq
      obtain ⟨e0, r1, r2⟩ := ver
      simp only [] at HPP HQQ ⊢
      generalize r1.length = n1 at *
      generalize r2.length = n2 at *
      have hown2 := HO2.out
      have hlt2 := hown2.lt
      have HLT := Lib.hid hlt2
      clear hlt2
      go_wp2_with (at_builtin; refine wpList_append_own _ rfl _ _ 35 rfl w.heap.size 25 i0 zeroV 3 56 Tryd.underlying35 hi hz0 hz1 hz2 rfl (by decide) _ _ _ rfl ((hown2.alloc _).alloc _) ⟨w2.heap.size + 1, 0, none⟩ 1 1 [.int .i64 e0, .slice o1 n1 k1, .slice o2 n2 k2] (by rfl) (by rfl) ?c1 ?c2 ?c3 ?c4 ?c5 ?_)
      case c1 =>
        intro k y hy
        have e1 : ((w2.alloc (.cells #[.int .i64 e0, .slice o1 n1 k1, .slice o2 n2 k2] 25)).heap.size) = w2.heap.size + 1 := by simp
        have h1 := cell_of_row _ (w2.heap.size + 1) k _ 25 (0, 0) (by rw [← e1]; exact heap_alloc_new (w2.alloc (.cells #[.int .i64 e0, .slice o1 n1 k1, .slice o2 n2 k2] 25)) (.cells #[.int .i64 e0, .slice o1 n1 k1, .slice o2 n2 k2] 25))
        rw [add_none, Nat.zero_add, h1]
        simpa using hy
      case c2 => intro y hy; simp at hy; rcases hy with rfl | rfl | rfl <;> rfl
      case c3 => unfold maxLen; omega
      case c4 => omega
      case c5 => simp; omega
      intro v' w3 hown3 hg3 _
      have HB3 := Lib.hid (((HB2.out.alloc (HB2.out.size) _).alloc (by have := HB2.out.size; simp; omega) _).grown hg3 (by have := HB2.out.size; simp; omega) (fun g hg' => (HLT.out g hg').1))
      have b2 : Below w2.heap.size w2 ((w2.alloc (.cells #[.int .i64 e0, .slice o1 n1 k1, .slice o2 n2 k2] 25)).alloc (.cells #[.int .i64 e0, .slice o1 n1 k1, .slice o2 n2 k2] 25)) := (below_alloc _ _).trans ((below_alloc _ _).mono (by simp))
      have HS3 := Lib.hid (blk_grown (blk_below HS2.out b2) (by decide) (own_below hown2 b2) hg3)
      have HI3 := Lib.hid (((HI2.out.below b2).grown (own_below hown2 b2) hg3).snoc (x := (e0, r1, r2)) ((HPP.out.below b2).grown (own_below hown2 b2) hg3) ((HQQ.out.below b2).grown (own_below hown2 b2) hg3))
      have HI4 : Hid (VersIn w3 (cs ++ [.int .i64 e0, .slice o1 n1 k1, .slice o2 n2 k2]) (aV.take (j + 1))) := by
        show VersIn _ _ _
        rw [HTK.out]; exact HI3.out
      clear hown2 hg3 b2 HI3
      go_wp2
      go_roundw
      case rel => exact ⟨j + 1, _, by omega, by go_num, HB3, hown3, HI4, HS3⟩
      case measure => simp [intOf]; omega
    · obtain rfl : j = 5 := by omega
      rw [show ((5 : Nat) : Int) = 5 from rfl]
      have hva : VersAt wr u1 aV := own_vers HO.out (by have := HI.out; rwa [show aV.take 5 = aV from rfl] at this)
      obtain ⟨ao, cap, rfl, _, hcap, hv3⟩ := hva
      obtain ⟨b, o, rfl, hcells⟩ : ∃ b o, ao = some ⟨b, o, none⟩ ∧ ∀ j, j < aV.length → ∃ p q, wr.cell? ⟨b, o + j * 3, none⟩ = some (.int .i64 (aV.getD j zV).1) ∧ wr.cell? ⟨b, o + j * 3 + 1, none⟩ = some p ∧ wr.cell? ⟨b, o + j * 3 + 2, none⟩ = some q ∧ RowAt wr p (aV.getD j zV).2.1 ∧ RowAt wr q (aV.getD j zV).2.2 := by
        rcases hv3 with h | h
        · exact absurd h (by decide)
        · exact h
      have HCE := Lib.hid hcells
      have HVA : Hid (VersAt wr (.slice (some ⟨b, o, none⟩) aV.length cap) aV) := ⟨_, _, rfl, by assumption, hcap, .inr ⟨b, o, rfl, hcells⟩⟩
      clear hv3 hcells HI HS HO hcap
      rw [aL]
      rw [aL] at HVA
      go_wp2
      refine wp_gen (fun wo => Hid (Below w.heap.size w wo) ∧ Hid (∀ j, j < aV.length → ∃ p q, wo.cell? ⟨b, o + j * 3, none⟩ = some (.int .i64 (aV.getD j zV).1) ∧ wo.cell? ⟨b, o + j * 3 + 1, none⟩ = some p ∧ wo.cell? ⟨b, o + j * 3 + 2, none⟩ = some q ∧ RowAt wo p (aV.getD j zV).2.1 ∧ RowAt wo q (aV.getD j zV).2.2) ∧ Hid (VersAt wo (.slice (some ⟨b, o, none⟩) 5 cap) aV)) ⟨HB, HCE, HVA⟩ ?_
      clear HB HCE HVA hsz
      intro wo ⟨HB, HCE, HVA⟩
      go_loopw [6] (fun i wx => ∃ k : Nat, k ≤ 4 ∧ i = .int .i64 ((k : Int) + 1) ∧ Hid (Below wo.heap.size wo wx)) (fun i _ => 5 - (intOf i).toNat)
      case atStart => exact ⟨0, by omega, rfl, Below.refl _ _⟩
      case round =>
        obtain ⟨k, hk, rfl, HK⟩ := hrel
        by_cases hlt2 : k < 4
        · obtain ⟨p1, l1, a0, a1, a2, hp1, hl1⟩ := HCE.out k (by rw [aL]; omega)
          obtain ⟨p2, l2, c0, c1, c2, hp2, hl2⟩ := HCE.out (k + 1) (by rw [aL]; omega)
          have qc := fun W (hb : Below wo.heap.size wo W) => compare_any (aV.getD k zV) (aV.getD (k + 1) zV) _ _ W ⟨_, _, rfl, hp1.below hb, hl1.below hb⟩ ⟨_, _, rfl, hp2.below hb, hl2.below hb⟩
          rw [aC k hlt2] at qc
          obtain ⟨op1, kp1, rfl, _, _⟩ := hp1.sl
          obtain ⟨ol1, kl1, rfl, _, _⟩ := hl1.sl
          obtain ⟨op2, kp2, rfl, _, _⟩ := hp2.sl
          obtain ⟨ol2, kl2, rfl, _, _⟩ := hl2.sl
          clear hp1 hl1 hp2 hl2
          generalize (aV.getD k zV).2.1.length = n1 at *
          generalize (aV.getD k zV).2.2.length = n2 at *
          generalize (aV.getD (k + 1) zV).2.1.length = n3 at *
          generalize (aV.getD (k + 1) zV).2.2.length = n4 at *
          generalize (aV.getD k zV).1 = e1 at *
          generalize (aV.getD (k + 1) zV).1 = e2 at *
          have hS0 := six_below (w := wo) ⟨a0, a1, a2, c0, c1, c2, Lib.hid (Below.refl _ _)⟩ HK.out
          clear a0 a1 a2 c0 c1 c2
          have g1 : (0 : Int) ≤ (k : Int) := by omega
          have g2 : (k : Int) < 5 := by omega
          have g3 : (k : Int) + 1 < 5 := by omega
          have g4 : (0 : Int) ≤ (k : Int) + 1 := by omega
          have g5 : (k : Int) + 1 - 1 = k := by omega
          have g6 : ((k : Int) + 1).toNat = k + 1 := by omega
          have g7 : k < 5 := by omega
          have g8 : k + 1 < 5 := by omega
          have g9 : IntKind.i64.wrap (k : Int) = (k : Int) := by rw [IntKind.wrap_i64]; omega
          go_wp2
          first
          | (go_region_held3 (fun w' => w'.cell? ⟨b, o + k * 3, none⟩ = some (.int .i64 e1) ∧ w'.cell? ⟨b, o + k * 3 + 1, none⟩ = some (.slice op1 n1 kp1) ∧ w'.cell? ⟨b, o + k * 3 + 2, none⟩ = some (.slice ol1 n2 kl1) ∧ w'.cell? ⟨b, o + (k + 1) * 3, none⟩ = some (.int .i64 e2) ∧ w'.cell? ⟨b, o + (k + 1) * 3 + 1, none⟩ = some (.slice op2 n3 kp2) ∧ w'.cell? ⟨b, o + (k + 1) * 3 + 2, none⟩ = some (.slice ol2 n4 kl2) ∧ Hid (Below wo.heap.size wo w')) (with_reducible (first | exact six_drew (by assumption) | exact six_below (by assumption) (by assumption) | assumption))
              (first
                | (go_at_call 10; with_reducible refine (qc _ (by first | exact six_b (by assumption) | exact six_b (six_drew (by assumption)))).mono ?_; rintro e w4 ⟨rfl, hb4⟩)
                | fail))
          | fail
          go_wp2
          go_roundw
          case rel => exact ⟨k + 1, by omega, by go_num, six_b (by assumption)⟩
          case measure => simp [intOf]; omega
        · obtain rfl : k = 4 := by omega
          have HBW := Lib.hid (HB.out.trans (HK.out.mono HB.out.size))
          have HVW := Lib.hid (HVA.out.below HK.out)
          clear HB HCE HVA HK
          go_wp2_with fail
          refine (parse_ok ⟨#[49, 46, 49, 48, 46, 51]⟩ m T pv _ (by decide) (maxAt HM.out HBW.out) ((HBW.out.cell (World.block_lt_of_cell? w _ HE.out)).trans HE.out) aA).mono ?_
          rintro e w5 ⟨⟨v, rfl, hv⟩, h5⟩
          obtain ⟨vp, vl, rfl, hp, hq⟩ := hv
          obtain ⟨o1, k1, rfl, _, _⟩ := hp.row.sl
          obtain ⟨o2, k2, rfl, _, _⟩ := hq.row.sl
          have HB5 := Lib.hid (HBW.out.trans (h5.mono HBW.out.size))
          have HV5 := Lib.hid (HVW.out.below h5)
          have HP5 := Lib.hid hp.row
          have HQ5 := Lib.hid hq.row
          clear HBW HVW h5 hp hq
          simp only [] at HP5 HQ5
          go_wp2_with fail
          refine calls_gen (fun w6 => Hid (Below w.heap.size w w6) ∧ Hid (VersAt w6 (.slice (some ⟨b, o, none⟩) 5 cap) aV) ∧ Hid (BoxV w6 w5.heap.size 0 (.slice o1 3 k1) (.slice o2 0 k2)) ∧ Hid (RowAt w6 (.slice o1 3 k1) [[(1, [])], [(10, [])], [(3, [])]]) ∧ Hid (RowAt w6 (.slice o2 0 k2) []))
            ⟨HB5.out.alloc HB5.out.size _, HV5.out.below (below_alloc _ _), BoxV.new _ _ _ _, HP5.out.below (below_alloc _ _), HQ5.out.below (below_alloc _ _)⟩ ?_
          intro w6 ⟨HB6, HV6, HX6, HP6, HQ6⟩
          clear HB5 HV5 HP5 HQ5
          refine (parse_ok ⟨#[49, 46, 49]⟩ m T pv _ (by decide) (maxAt HM.out HB6.out) ((HB6.out.cell (World.block_lt_of_cell? w _ HE.out)).trans HE.out) aB).mono ?_
          rintro e w7 ⟨⟨v, rfl, hv⟩, h7⟩
          obtain ⟨vp, vl, rfl, hp, hq⟩ := hv
          obtain ⟨o3, k3, rfl, _, _⟩ := hp.row.sl
          obtain ⟨o4, k4, rfl, _, _⟩ := hq.row.sl
          have HB7 := Lib.hid (HB6.out.trans (h7.mono HB6.out.size))
          have HV7 := Lib.hid (HV6.out.below h7)
          have HX7 := Lib.hid (HX6.out.below h7)
          have HVA7 : Hid (VerAt w7 (.agg #[.int .i64 0, .slice o1 3 k1, .slice o2 0 k2]) (0, [[(1, [])], [(10, [])], [(3, [])]], [])) := ⟨_, _, rfl, HP6.out.below h7, HQ6.out.below h7⟩
          have HVB7 : Hid (VerAt w7 (.agg #[.int .i64 0, .slice o3 2 k3, .slice o4 0 k4]) (0, [[(1, [])], [(1, [])]], [])) := ⟨_, _, rfl, hp.row, hq.row⟩
          have x0 := HX7.out.c0
          have x1 := HX7.out.c1
          have x2 := HX7.out.c2
          have y0 := cell_al x0
          have y1 := cell_al x1
          have y2 := cell_al x2
          have qb := fun W (hb : Below w7.heap.size w7 W) => begins_any _ _ _ _ W (HVA7.out.below hb) (HVB7.out.below hb)
          rw [aG] at qb
          have qn := fun W (hb : Below w7.heap.size w7 W) => newest_any _ _ W (HV7.out.below hb) (by decide)
          rw [aL, aN] at qn
          clear HB6 HV6 HX6 HP6 HQ6 h7 hp hq HX7
          go_wp2_with fail
          refine (qb _ (below_alloc _ _)).mono ?_
          rintro e w8 ⟨rfl, h8⟩
          have HB8 := Lib.hid ((below_alloc w7 (.cells #[.int .i64 0, .slice o3 2 k3, .slice o4 0 k4] 25)).trans (h8.mono (below_alloc _ _).size))
          clear h8 x0 x1 x2 y0 y1 y2 qb
          go_wp2_with fail
          refine (qn _ HB8.out).mono ?_
          rintro e w9 ⟨rfl, h9⟩
          go_wp2
          go_ret
          exact ⟨rfl, HB7.out.trans ((HB8.out.trans (h9.mono HB8.out.size)).mono HB7.out.size)⟩

end Go.Proofs.YtecgjbddcmpggaaDoor
