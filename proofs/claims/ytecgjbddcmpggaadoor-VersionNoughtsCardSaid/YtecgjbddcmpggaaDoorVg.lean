/- VersionNoughts, walked: it returns true, in any world. -/
import Derived.Test.YtecgjbddcmpggaaDoorVf
import Derived.Test.YtecgjbddcmpggaaDoorVh
import Derived.Lib.AppendStr
namespace Go.Proofs.YtecgjbddcmpggaaDoor
open Go.RowKit Go.Shelf

/-! ### the bytes that were changed so far -/
def modK (l : List UInt8) (k : Nat) : List UInt8 := (modL l).take k ++ l.drop k
theorem modK_len (l : List UInt8) (k : Nat) (h : k ≤ l.length) : (modK l k).length = l.length := by
  unfold modK
  rw [List.length_append, List.length_take, List.length_drop, modL_len]; omega
theorem modK_zero (l : List UInt8) : modK l 0 = l := by unfold modK; simp
theorem modK_end (l : List UInt8) : modK l l.length = modL l := by
  unfold modK
  rw [List.take_of_length_le (by rw [modL_len]; exact Nat.le_refl _), List.drop_of_length_le (Nat.le_refl _), List.append_nil]
theorem modK_at (l : List UInt8) (k : Nat) (h : k < l.length) : (modK l k)[k]? = some l[k] := by
  unfold modK
  have e : ((modL l).take k).length = k := by rw [List.length_take, modL_len]; omega
  rw [List.getElem?_append_right (by omega), e, Nat.sub_self, List.getElem?_drop, Nat.add_zero, List.getElem?_eq_getElem h]
theorem modL_at (l : List UInt8) (k : Nat) (h : k < l.length) : (modL l)[k]? = some (modB k l[k]) := by
  unfold modL
  simp [h]
theorem modK_set (l : List UInt8) (k : Nat) (h : k < l.length) : (modK l k).set k (modB k l[k]) = modK l (k + 1) := by
  have e : ((modL l).take k).length = k := by rw [List.length_take, modL_len]; omega
  unfold modK
  rw [List.set_append_right _ _ (by omega), e, Nat.sub_self, List.take_add_one, modL_at l k h, List.append_assoc]
  congr 1
  rw [List.drop_eq_getElem_cons h]
  rfl
theorem modK_keep (l : List UInt8) (k : Nat) (h : k < l.length) (hc : modB k l[k] = l[k]) : modK l k = modK l (k + 1) := by
  rw [← modK_set l k h, hc]
  have h2 : k < (modK l k).length := by rw [modK_len l k (by omega)]; exact h
  have h3 := modK_at l k h
  rw [List.getElem?_eq_getElem h2] at h3
  have h4 := Option.some.inj h3
  conv => rhs; rw [← h4]
  exact (List.set_getElem_self h2).symm
/-- one round -/
theorem mod_store {w5 wr : World} {l : List UInt8} {k g : Nat} (h : k < l.length) (hg : w5.heap.size ≤ g) (R : RowM wr g (modK l k)) (B : Below w5.heap.size w5 wr) {z : Int} (hz : z = ((modB k l[k]).toNat : Int)) :
    RowM (wr.setCell ⟨g, k, none⟩ (.int .u8 z)) g (modK l (k + 1)) ∧ Below w5.heap.size w5 (wr.setCell ⟨g, k, none⟩ (.int .u8 z)) := by
  subst hz
  have R2 := R.store k (by rw [modK_len l k (by omega)]; exact h) (modB k l[k])
  rw [modK_set l k h] at R2
  exact ⟨R2, B.setCell hg _⟩
theorem modB_lt (k : Nat) {c : UInt8} (h : ltB c = true) : ((modB k c).toNat : Int) = (c.toNat : Int) - 32 := by
  have hb := (ltB_iff c).1 h
  unfold modB
  rw [if_pos h, UInt8.toNat_sub_of_le]
  · have : (32 : UInt8).toNat = 32 := rfl
    omega
  · show (32 : UInt8).toNat ≤ c.toNat
    have : (32 : UInt8).toNat = 32 := rfl
    omega
theorem modB_pt (k : Nat) : modB k 46 = seps.getD (k % 3) 46 := by
  unfold modB
  rw [if_neg (by decide), if_pos rfl]
theorem modB_no (k : Nat) {c : UInt8} (h : ltB c = false) (h2 : c ≠ 46) : modB k c = c := by
  unfold modB
  rw [if_neg (by rw [h]; simp), if_neg h2]

set_option maxRecDepth 100000 in
set_option maxHeartbeats 4000000 in
theorem law_noughts (s : ByteArray) (many : Int) (m : Int) (T : TypeId) (pv : Value) (w : World) (hs : s.size ≤ maxLen) (hm : w.cell? ⟨1, 0, none⟩ = some (.int .i64 m)) (hE : w.cell? ⟨0, 0, none⟩ = some (.iface T pv)) :
    Calls Tryd.prog 6 #[.string s, .int .i64 many] w (Yes w) := by
  have q0 := alive_any m T pv w hm hE
  have HM := Lib.hid hm
  have HE := Lib.hid hE
  clear hm hE
  unfold maxLen at hs
  by_cases hl : 100 < s.size
  · go_enter Tryd.func6, Tryd.ntmps6
    go_wp2_with (go_at_call 7; refine q0.mono ?_; rintro e w1 ⟨rfl, h1⟩)
    go_ret
    exact ⟨rfl, h1⟩
  · have hcv := fun w : World => run_bytes_of_string (P := Tryd.prog) w 9 40 5 s Tryd.underlying9 Tryd.underlying40 Tryd.underlying5
    go_enter Tryd.func6, Tryd.ntmps6
    go_wp2_with (go_at_call 7; refine q0.mono ?_; rintro e w1 ⟨rfl, h1⟩)
    have HB1 := Lib.hid h1
    clear h1 q0
    refine (parse_box s m T pv _ (by unfold maxLen; omega) (maxAt HM.out HB1.out) (errAt HE.out HB1.out)).mono ?_
    rintro e w2 ⟨n1, p1, a1, c1, q1, b1, d1, x1, rfl, hx1, h2⟩
    have HB2 := Lib.hid (HB1.out.trans (h2.mono HB1.out.size))
    clear h2 HB1
    rcases hx1 with ⟨rfl, y, hy, hv⟩ | ⟨rfl, hy⟩
    · by_cases hloc : 0 < b1
      · clear hv
        go_wp2
        go_ret
        exact ⟨rfl, HB2.out.alloc HB2.out.size _⟩
      · obtain rfl : b1 = 0 := by omega
        have HL : Hid (y.2.2 = []) := by
          obtain ⟨vp, vl, he, hp, hq⟩ := hv
          obtain ⟨ao, cap, hc, _⟩ := hq.sl
          simp at he
          rw [hc] at he
          simp at he
          exact List.eq_nil_of_length_eq_zero he.2.2.2.1.symm
        have HV := Lib.hid hv
        have HY := Lib.hid hy
        clear hv hy hloc
        have hlen := modK_len s.data.toList
        go_wp2
        generalize grownCap (w2.alloc (.cells #[.int .i64 n1, .slice p1 a1 c1, .slice q1 0 d1] 25)) s.size 0 5 = cap
        refine wp_gen (fun w6 => ∃ wa : World, wa.heap.size = w2.heap.size + 1 ∧ Hid (Below w.heap.size w wa) ∧ Hid (BoxV wa w2.heap.size n1 (.slice p1 a1 c1) (.slice q1 0 d1)) ∧ Hid (VerAt wa (.agg #[.int .i64 n1, .slice p1 a1 c1, .slice q1 0 d1]) y) ∧ Hid (Below wa.heap.size wa w6) ∧ Hid (RowM w6 (w2.heap.size + 1) s.data.toList))
          ⟨w2.alloc (.cells #[.int .i64 n1, .slice p1 a1 c1, .slice q1 0 d1] 25), by simp, HB2.out.alloc HB2.out.size _, BoxV.new _ _ _ _, HV.out.below (below_alloc _ _), Lib.hid (below_alloc _ _).drew, Lib.hid (by have hr := RowM.make (w2.alloc (.cells #[.int .i64 n1, .slice p1 a1 c1, .slice q1 0 d1] 25)) s cap; rw [show (w2.alloc (.cells #[.int .i64 n1, .slice p1 a1 c1, .slice q1 0 d1] 25)).heap.size = w2.heap.size + 1 by simp] at hr; exact hr)⟩ ?_
        intro w6 ⟨wa, hwa, HBa, HXa, HVa, HB6, HR6⟩
        clear hcv HB2 HV
        generalize w2.heap.size = g at *
        have HWA := Lib.hid hwa
        have hga : wa.heap.size ≤ g + 1 := by omega
        clear hwa
        go_loopw [8, 33, 36, 55] (fun _ i _ _ wr => ∃ j : Nat, j ≤ s.size ∧ i = .int .i64 j ∧ Hid (RowM wr (g + 1) (modK s.data.toList j)) ∧ Hid (Below wa.heap.size wa wr)) (fun _ i _ _ _ => s.size - (intOf i).toNat)
        case atStart => exact ⟨0, Nat.zero_le _, rfl, by rw [modK_zero]; exact HR6, HB6⟩
        case round =>
          clear HR6 HB6
          obtain ⟨j, hj, rfl, HR, HB⟩ := hrel
          by_cases hlt : j < s.size
          · have hjl : j < s.data.toList.length := by rw [size_list]; exact hlt
            have hkl : j < (modK s.data.toList j).length := by rw [hlen j (by omega)]; exact hjl
            have hc0 := HR.out.cell j hkl
            have hf0 := HR.out.free j hkl
            have he : (modK s.data.toList j)[j] = s[j] := by
              have h1 := modK_at s.data.toList j hjl
              rw [List.getElem?_eq_getElem hkl] at h1
              exact (Option.some.inj h1).trans (getL s j hlt)
            rw [he] at hc0
            have HS : Hid (∀ z : Int, z = ((modB j s[j]).toNat : Int) → RowM (wr.setCell ⟨g + 1, j, none⟩ (.int .u8 z)) (g + 1) (modK s.data.toList (j + 1)) ∧ Below wa.heap.size wa (wr.setCell ⟨g + 1, j, none⟩ (.int .u8 z))) := fun z hz => mod_store hjl hga HR.out HB.out (by rw [hz, ← getL s j hlt])
            have HK : Hid (modB j s[j] = s[j] → RowM wr (g + 1) (modK s.data.toList (j + 1))) := fun h => by
              rw [← modK_keep s.data.toList j hjl (by rw [getL s j hlt]; exact h)]; exact HR.out
            clear he hlen HR
            generalize s[j] = c at *
            clear hkl hjl
            cases hlb : ltB c with
            | true =>
              have hb := (ltB_iff c).1 hlb
              obtain ⟨b1, b2⟩ := hb
              have HZ := Lib.hid (modB_lt j hlb)
              clear hlb HK
              go_wp2
              all_goals (try (exfalso; omega))
              go_roundw
              case rel => exact ⟨j + 1, by omega, by go_num, (HS.out _ (by have := HZ.out; omega)).1, (HS.out _ (by have := HZ.out; omega)).2⟩
              case measure => simp [intOf]; omega
            | false =>
              by_cases hpt : c = 46
              · subst hpt
                have hpb := modB_pt j
                have hr3 : j % 3 = 0 ∨ j % 3 = 1 ∨ j % 3 = 2 := by omega
                clear hlb HK
                rcases hr3 with e | e | e
                all_goals
                  have e1 : (j : Int) % 3 = ((j % 3 : Nat) : Int) := by omega
                  have e2 : Int.tmod (j : Int) 3 = ((j % 3 : Nat) : Int) := by rw [Int.tmod_eq_emod_of_nonneg (by omega)]; omega
                  rw [e] at hpb e1 e2
                  have HZ := Lib.hid hpb
                  clear hpb
                  go_wp2
                  go_roundw
                  case rel => exact ⟨j + 1, by omega, by go_num, (HS.out _ (by rw [HZ.out]; rfl)).1, (HS.out _ (by rw [HZ.out]; rfl)).2⟩
                  case measure => simp [intOf]; omega
              · have hno : c.toNat < 97 ∨ 122 < c.toNat := by
                  have h1 : ¬ (ltB c = true) := by rw [hlb]; simp
                  rw [ltB_iff] at h1
                  omega
                have hne : ((c.toNat : Int) == 46) = false := by
                  rw [beq_eq_false_iff_ne]; intro e; exact hpt (UInt8.toNat_inj.1 (by simp; omega))
                have HK2 := Lib.hid (HK.out (modB_no j hlb hpt))
                clear hlb hpt HK HS
                rcases hno with hn | hn
                all_goals
                  go_wp2
                  all_goals (try (exfalso; omega))
                  go_roundw
                  case rel => exact ⟨j + 1, by omega, by go_num, HK2, HB⟩
                  case measure => simp [intOf]; omega
          · have hz : j = s.size := by omega
            subst hz
            have HR2 : Hid (RowM wr (g + 1) (modL s.data.toList)) := by
              have := HR.out
              rwa [← size_list s, modK_end] at this
            have hcv2 := cv_cells (w := wr) (g := g + 1) (n := s.size) (cap := cap) (l := modL s.data.toList) (by rw [modL_len, size_list]) (fun j hj => HR2.out.cell j hj)
            have HBW := Lib.hid (HBa.out.trans (HB.out.mono HBa.out.size))
            have HXW := Lib.hid (HXa.out.below HB.out)
            have HVW := Lib.hid (HVa.out.below HB.out)
            clear HR HR2 HB HBa HXa HVa hlen
            obtain ⟨u, HU⟩ : ∃ u : ByteArray, Hid (u = bs (modL s.data.toList)) := ⟨_, rfl⟩
            have hcv3 : Sem.run Tryd.prog (convert 40 9 (.slice (some ⟨g + 1, 0, none⟩) s.size cap)) wr = .ok (.string u) wr := by rw [HU.out]; exact hcv2
            have hus : u.size = s.size := by rw [HU.out, bs_size, modL_len, size_list]
            clear hcv2
            obtain ⟨nn, hnn, hn4⟩ : ∃ nn : Nat, wrap64 ((IntKind.u64.wrap many).tmod 5) = (nn : Int) ∧ nn ≤ 4 := by
              have h0 : 0 ≤ IntKind.u64.wrap many := by rw [IntKind.wrap_u64]; omega
              rw [Int.tmod_eq_emod_of_nonneg h0, IntWalk.wrap64_in _ (by omega)]
              exact ⟨(IntKind.u64.wrap many % 5).toNat, by omega, by omega⟩
            have HNN := Lib.hid hnn
            clear hnn
            go_wp2
            rw [HNN.out]
            go_loop [9, 74] (fun t i => ∃ (j : Nat) (v : ByteArray), j ≤ nn ∧ i = .int .i64 j ∧ t = .string v ∧ Hid (v.size = s.size + 2 * j) ∧ Hid (v = bs (modL s.data.toList ++ noughts j))) (fun _ i => nn - (intOf i).toNat)
            case atStart => exact ⟨0, u, Nat.zero_le _, rfl, rfl, hus, by show _ = _; rw [HU.out, noughts, List.append_nil]⟩
            case round =>
              obtain ⟨j, v, hj, rfl, rfl, HSZ, HVB⟩ := hrel
              have hvs : v.size ≤ 108 := by have := HSZ.out; omega
              by_cases hlt : j < nn
              · have HS2 : Hid ((v ++ (⟨#[46, 48]⟩ : ByteArray)).size = s.size + 2 * (j + 1)) := by
                  show _ = _
                  rw [ByteArray.size_append, HSZ.out]
                  have : (⟨#[46, 48]⟩ : ByteArray).size = 2 := rfl
                  omega
                have HB2 : Hid (v ++ (⟨#[46, 48]⟩ : ByteArray) = bs (modL s.data.toList ++ noughts (j + 1))) := by
                  show _ = _
                  rw [HVB.out]
                  apply ByteArray.ext
                  apply Array.toList_inj.1
                  rw [ByteArray.data_append, Array.toList_append, noughts, ← List.append_assoc]
                  rfl
                clear HVB hcv3
                go_wp2
                all_goals (try (exfalso; omega))
                go_round
                case rel => exact ⟨j + 1, _, by omega, by go_num, rfl, HS2, HB2⟩
                case measure => simp [intOf]; omega
              · obtain rfl : j = nn := by omega
                clear hcv3
                go_wp2_with fail
                refine (parse_box v m T pv _ (by unfold maxLen; omega) (maxAt HM.out HBW.out) (errAt HE.out HBW.out)).mono ?_
                rintro e w3 ⟨n2, p2, a2, c2, q2, b2, d2, x2, rfl, hx2, h3⟩
                have HB3 := Lib.hid (HBW.out.trans (h3.mono HBW.out.size))
                have HX3 := Lib.hid (HXW.out.below h3)
                have HV3 := Lib.hid (HVW.out.below h3)
                clear h3 HBW HXW HVW
                by_cases hv40 : 40 < v.size
                · clear hx2
                  go_wp2
                  go_ret
                  exact ⟨rfl, HB3.out.alloc HB3.out.size _⟩
                · have hp2 : parseL v.data.toList = some (y.1, y.2.1 ++ List.replicate j [zI], []) := by
                    have hb := HVB.out
                    have hlen : (modL s.data.toList ++ noughts j).length = v.size := by rw [hb, bs_size]
                    have := parse_nought HY.out HL.out j (by rw [hlen]; omega)
                    rw [hb, bs_data]; exact this
                  rcases hx2 with ⟨rfl, y2, hy2, hv2⟩ | ⟨_, hn⟩
                  · obtain rfl : y2 = (y.1, y.2.1 ++ List.replicate j [zI], []) := Option.some.inj (hy2.symm.trans hp2)
                    have hpne := parts_ne HY.out
                    have HY2 := Lib.hid hv2
                    have k1 := fun W (hb : Below w3.heap.size w3 W) => compare_any _ _ _ _ W (HV3.out.below hb) (HY2.out.below hb)
                    rw [ver_pad y HL.out j] at k1
                    have k2 := fun W (hb : Below w3.heap.size w3 W) => begins_any _ _ _ _ W (HY2.out.below hb) (HV3.out.below hb)
                    rw [beg_pad y HL.out hpne j] at k2
                    have k3 := fun W (hb : Below w3.heap.size w3 W) => begins_any _ _ _ _ W (HV3.out.below hb) (HV3.out.below hb)
                    have hself : begC y y = true := by
                      have h := beg_pad y HL.out hpne 0
                      have e : (y.1, y.2.1 ++ List.replicate 0 [zI], []) = y := by
                        have h2 := HL.out
                        obtain ⟨e0, r1, r2⟩ := y
                        simp only [] at h2
                        subst h2
                        simp
                      rw [e] at h; exact h
                    rw [hself] at k3
                    clear hy2 hp2 hpne hself hv2
                    have x0 := cell_al HX3.out.c0
                    have x1 := cell_al HX3.out.c1
                    have x2 := cell_al HX3.out.c2
                    have HA := Lib.hid (HX3.out.below (below_alloc w3 (.cells #[.int .i64 n2, .slice p2 a2 c2, .slice q2 b2 d2] 25)))
                    have HC := Lib.hid (BoxV.new w3 n2 (.slice p2 a2 c2) (.slice q2 b2 d2))
                    go_wp2_with fail
                    refine (k1 _ (below_alloc _ _)).mono ?_
                    rintro e w4 ⟨rfl, h4⟩
                    have HB4 := Lib.hid ((below_alloc w3 (.cells #[.int .i64 n2, .slice p2 a2 c2, .slice q2 b2 d2] 25)).trans (h4.mono (below_alloc _ _).size))
                    have HA4 := Lib.hid (HA.out.below h4)
                    have HC4 := Lib.hid (HC.out.below h4)
                    clear x0 x1 x2 HA HC h4 k1
                    have x0 := HA4.out.c0
                    have x1 := HA4.out.c1
                    have x2 := HA4.out.c2
                    have y0 := HC4.out.c0
                    have y1 := HC4.out.c1
                    have y2 := HC4.out.c2
                    go_wp2_with fail
                    refine (k2 _ HB4.out).mono ?_
                    rintro e w5 ⟨rfl, h5⟩
                    have HB5 := Lib.hid (HB4.out.trans (h5.mono HB4.out.size))
                    have HA5 := Lib.hid (HA4.out.below h5)
                    clear x0 x1 x2 y0 y1 y2 HA4 HC4 h5 k2 HB4
                    have x0 := HA5.out.c0
                    have x1 := HA5.out.c1
                    have x2 := HA5.out.c2
                    go_wp2_with fail
                    refine (k3 _ HB5.out).mono ?_
                    rintro e w6 ⟨rfl, h6⟩
                    go_wp2
                    go_ret
                    exact ⟨rfl, HB3.out.trans ((HB5.out.trans (h6.mono HB5.out.size)).mono HB3.out.size)⟩
                  · rw [hp2] at hn; cases hn
    · clear hcv
      go_wp2
      go_ret
      exact ⟨rfl, HB2.out.alloc HB2.out.size _⟩

end Go.Proofs.YtecgjbddcmpggaaDoor
