/- IntsEach's walk at a list of 1 to 18 numbers. -/
import Derived.Test.YtnejlfkbnbbgfaaDoorEac
import Derived.Test.YtnejlfkbnbbgfaaDoorTak
import Derived.OpenShut
import Derived.Laws.OwnMore
namespace Go.Proofs.YtnejlfkbnbbgfaaDoor
open Go.RowKit

theorem byteInfo : (Tryd.prog.info? 5).map (fun i => (i.zero, i.size, i.bytes)) = some (some (.int .u8 0), 1, 1) := by kernel_rfl
def dgNs (l : List Int) : List Int := l.map fun z => 48 + dgt z
def byVs (l : List Int) : List Value := l.map (Value.int .u8)

theorem wrap_dgt (z : Int) : (IntKind.u64.wrap z).tmod 10 = dgt z := by
  have h : IntKind.u64.wrap z = z % 18446744073709551616 := by
    unfold IntKind.wrap
    simp only [show IntKind.u64.bits = 64 from rfl, show IntKind.u64.signed = false from rfl]
    simp
  rw [h]
  unfold dgt
  rw [Int.tmod_eq_emod_of_nonneg (by omega)]
theorem dgNs_data (l : List Int) : (strOfNums (dgNs l)).data.toList = l.map dgb := by
  rw [strOfNums_data]; unfold dgNs; rw [List.map_map]; rfl
theorem dgNs_snoc {l : List Int} {k : Nat} (h : k < l.length) {d : Int} (hd : dgt (l.getD k 0) = d) : byVs (dgNs (l.take (k + 1))) = byVs (dgNs (l.take k)) ++ [.int .u8 (48 + d)] := by
  rw [List.take_succ_eq_append_getElem h]
  have e : l.getD k 0 = l[k] := by simp [List.getD, h]
  unfold byVs dgNs
  rw [← hd, e, List.map_append, List.map_append]
  rfl

theorem cv_own {w : World} {B n : Nat} {v : Value} {xs : List Int} (h : w.ownsRow B 5 1 v n (byVs xs)) : Sem.run Tryd.prog (convert 43 9 v) w = .ok (.string (strOfNums xs)) w := by
  have hlen := h.1
  simp [byVs] at hlen
  rcases h.2 with ⟨rfl, rfl⟩ | ⟨g, cap, cur, rfl, hb, hg, hn, hc, hs, ht⟩
  · have hx : xs = [] := List.eq_nil_of_length_eq_zero (by omega)
    subst hx
    exact run_convert_bytes_nil (P := Tryd.prog) w 43 5 Tryd.underlying43 Tryd.underlying5 0 0 9 Tryd.underlying9
  · refine run_convert_bytes_arg (P := Tryd.prog) w 43 5 Tryd.underlying43 Tryd.underlying5 g 0 n cap xs hlen (fun i hi => ?_) 9 Tryd.underlying9
    rw [Nat.zero_add, h.cellAt i (by omega)]
    have h1 : i < xs.length := by omega
    simp [byVs, List.getD, h1]

theorem own_slice {w : World} {B n : Nat} {v : Value} {xs : List Value} (h : w.ownsRow B 5 1 v n xs) (hn : 0 < n) : ∃ g cap, v = .slice (some ⟨g, 0, none⟩) n cap ∧ g < w.heap.size ∧ n ≤ cap ∧ w.cell? ⟨g, 0, none⟩ = xs[0]? := by
  rcases h.2 with ⟨_, h0⟩ | ⟨g, cap, cur, rfl, _, hg, hc, _⟩
  · omega
  · exact ⟨g, cap, rfl, (Array.getElem?_eq_some_iff.1 hg).1, hc, h.cellAt 0 (by omega)⟩

/-- what ints.Parse answers of the text of digits -/
theorem parse_each (l : List Int) (t S : ByteArray) (σ : Nat) (hl : 0 < l.length) (hl2 : l.length ≤ 18) (ht : t.data.toList = l.map dgb) (hS : (σ = 1 ∧ S = ⟨#[45]⟩ ++ t) ∨ (σ = 0 ∧ S = t)) (w : World) (A : Nat → Addr) (hC : Cond w A) {u : Int} (hu : u = valFrom 0 (l.map dgb)) :
    (1 < l.length ∧ dgt (l.getD 0 0) = 0 → Calls Tryd.prog 13 #[.string S] w fun e w' => e = .returned (.tuple #[.int .i64 0, .iface 88 (.pointer (some (A 0)))]) ∧ Below w.heap.size w w') ∧
    (¬ (1 < l.length ∧ dgt (l.getD 0 0) = 0) → Calls Tryd.prog 13 #[.string S] w fun e w' => e = .returned (.tuple #[.int .i64 (if σ = 1 then -u else u), .nilIface]) ∧ Below w.heap.size w w') := by
  have hts : t.size = l.length := by rw [← size_list, ht, List.length_map]
  have hSg : Sg S.data.toList (l.map dgb) σ := by
    rcases hS with ⟨rfl, rfl⟩ | ⟨rfl, rfl⟩
    · refine .inl ⟨rfl, ?_⟩
      rw [ByteArray.data_append, Array.toList_append, ht]; rfl
    · exact .inr ⟨rfl, ht⟩
  have hSs : S.size ≤ 2000 := by
    rcases hS with ⟨_, rfl⟩ | ⟨_, rfl⟩
    · rw [ByteArray.size_append, show (⟨#[45]⟩ : ByteArray).size = 1 from rfl]; omega
    · omega
  have hd := dgb_dg l
  have h0 : ((bAt (l.map dgb) 0 : Nat) : Int) = 48 + dgt (l.getD 0 0) := by
    rw [bAt_get (by rw [List.length_map]; exact hl), List.getElem_map, dgb_nat]
    simp [List.getD, hl]
  refine ⟨fun h => ?_, fun h => ?_⟩
  · have := parse_any S w A hC hSs (each_bad hSg hd (by rw [List.length_map]; exact h.1) (by omega))
    rw [errVal_some] at this
    exact this
  · have := parse_any S w A hC hSs (each_good hSg hd (by rw [List.length_map]; exact hl) (by rw [List.length_map]; by_cases h1 : l.length ≤ 1; exact .inl h1; exact .inr (fun e => h ⟨by omega, by omega⟩)) (dgb_lt hl2))
    rw [errVal_none, ← hu] at this
    exact this

set_option maxRecDepth 100000 in
set_option maxHeartbeats 2000000 in
theorem each_in (b off n c : Nat) (l : List Int) (less : Bool) (w : World) (A : Nat → Addr) (hC : Cond w A) (hl : l.length = n) (hn1 : 1 ≤ n) (hn : n ≤ 18) (hnc : n ≤ c) (hcm : c ≤ maxLen) (hb : b < w.heap.size)
    (hc : ∀ j, j < n → w.cell? ⟨b, off + j, none⟩ = some (.int .i64 (l.getD j 0))) :
    Calls Tryd.prog 8 #[.slice (some ⟨b, off, none⟩) n c, .bool less] w fun e w' => e = .returned (.bool true) ∧ Below w.heap.size w w' := by
  obtain ⟨i0, hi, hz0, hz1, hz2⟩ := info_parts byteInfo
  have hL := fun w hC => alive_any w A hC
  have HC := Lib.hid hC
  have HL := Lib.hid hl
  have HCE := Lib.hid hc
  clear hC hl hc
  unfold maxLen at hcm
  go_enter Tryd.func8, Tryd.ntmps8
  go_wp2_with (go_at_call 9; refine (hL _ HC.out).mono ?_; rintro e w1 ⟨rfl, hb1⟩)
  have HC1 := Lib.hid (HC.out.below hb1)
  have hz1' := hb1.size
  have HB1 := Lib.hid hb1
  clear hb1 HC hL
  go_loopw [5, 6, 8, 25] (fun v m _ i wr => ∃ (k : Nat) (u : Int), k ≤ n ∧ i = .int .i64 k ∧ m = .int .i64 u ∧ 0 ≤ u ∧ u < 1000000000000000000 ∧ Below w1.heap.size w1 wr ∧ wr.ownsRow w1.heap.size 5 1 v k (byVs (dgNs (l.take k))) ∧ Hid (u = valFrom 0 ((l.take k).map dgb))) (fun _ _ _ i _ => n - (RowKit.intOf i).toNat)
  case atStart => exact ⟨0, 0, by omega, rfl, rfl, by omega, by omega, (Below.refl _ _).alloc (Nat.le_refl _) _, World.ownsRow_lit w1 #[] 0 (Nat.le_refl _) (by unfold maxLen; omega) rfl, by simp [valFrom, Hid]⟩
  case round =>
    obtain ⟨k, u, hk, rfl, rfl, hu0, hu1, HB, hown, HU⟩ := hrel
    by_cases hlt : k < n
    · have hkl : k < l.length := by have := HL.out; omega
      have hcell : wr.cell? ⟨b, off + k, none⟩ = some (.int .i64 (l.getD k 0)) := by
        have h1 := (HB1.out.trans (HB.mono hz1')).cell (p := ⟨b, off + k, none⟩) hb
        exact h1.trans (HCE.out k hlt)
      have hq := wrap_dgt (l.getD k 0)
      obtain ⟨d0, d9⟩ := dgt_bd (l.getD k 0)
      have hsn : Hid (10 * u + dgt (l.getD k 0) = valFrom 0 ((l.take (k + 1)).map dgb)) := by
        show _ = _
        rw [HU.out, dgb_snoc hkl]
      have hub : 10 * u + dgt (l.getD k 0) < 1000000000000000000 := by
        have h1 := dgb_lt (l := l.take (k + 1)) (by rw [List.length_take]; omega)
        have h2 := hsn.out
        omega
      have HV := Lib.hid (fun d hd => dgNs_snoc hkl (d := d) hd)
      generalize hdd : dgt (l.getD k 0) = d at *
      have HDD := Lib.hid hdd
      clear hdd
      generalize l.getD k 0 = z at *
      have hsz := HB.size
      have HBB := Lib.hid HB
      have hlt2 := hown.lt
      have HLT := Lib.hid hlt2
      clear hlt2 HU
      go_wp2_with (at_builtin; refine wpList_append_own _ rfl _ _ 43 rfl w1.heap.size 5 i0 (.int .u8 0) 1 1 Tryd.underlying43 hi hz0 hz1 hz2 rfl (by decide) _ _ _ rfl (hown.alloc _) ⟨wr.heap.size, 0, none⟩ 1 1 [.int .u8 (48 + d)] rfl rfl ?c1 ?c2 ?c3 ?c4 ?c5 ?_)
      case c1 =>
        intro j u hu
        have h1 := cell_of_row _ wr.heap.size j _ 5 (0, 0) (heap_alloc_new wr (.cells #[.int .u8 (48 + d)] 5))
        have e : (⟨wr.heap.size, 0, none⟩ : Addr).add j = ⟨wr.heap.size, j, none⟩ := by unfold Addr.add; split <;> simp_all
        rw [e, h1]
        simpa using hu
      case c2 => intro u hu; simp at hu; subst hu; rfl
      case c3 => unfold maxLen; omega
      case c4 => omega
      case c5 => simp; omega
      intro v' w2 hown2 hg2 _
      have HB2 := Lib.hid ((HBB.out.alloc hsz _).grown hg2 (by simp; omega) (fun g hg' => (HLT.out g hg').1))
      have HO2 := Lib.hid hown2
      clear hown2 hg2 hown
      go_wp2
      go_roundw
      case rel => exact ⟨k + 1, 10 * u + d, by omega, by go_num, by first | rfl | go_num, by omega, hub, HB2.out, by rw [HV.out d rfl]; exact HO2.out, hsn.out⟩
      case measure => simp [RowKit.intOf]; omega
    · obtain rfl : k = n := by omega
      have htk : l.take k = l := List.take_of_length_le (by have := HL.out; omega)
      rw [htk] at hown HU
      have hcv := cv_own hown
      obtain ⟨g, cap, rfl, hg, hgc, hcell⟩ := own_slice hown (by omega)
      have hx0 : (byVs (dgNs l))[0]? = some (.int .u8 (48 + dgt (l.getD 0 0))) := by
        have h1 : 0 < l.length := by have := HL.out; omega
        unfold byVs dgNs
        simp [List.getD, h1]
      rw [hx0] at hcell
      have hts : (strOfNums (dgNs l)).size ≤ 18 := by rw [← size_list, dgNs_data, List.length_map]; have := HL.out; omega
      have hP := fun S σ hS w hC => parse_each l (strOfNums (dgNs l)) S σ (by have := HL.out; omega) (by have := HL.out; omega) (dgNs_data l) hS w A hC HU.out
      have hPS := hP _ 1 (.inl ⟨rfl, rfl⟩)
      have hPT := hP _ 0 (.inr ⟨rfl, rfl⟩)
      have h48 := dgt_bd (l.getD 0 0)
      rw [if_pos rfl] at hPS
      rw [if_neg (by omega)] at hPT
      rw [HL.out] at hPS hPT
      have HCR := Lib.hid (HC1.out.below HB)
      have HBB := Lib.hid (HB1.out.trans (HB.mono hz1'))
      have hnl := fun (w : World) => @run_eql_nil_nil_at Tryd.prog w 24 (by kernel_rfl)
      have hnn := fun (w : World) (x : Value) => @run_neq_iface_nil Tryd.prog w 24 (by kernel_rfl) 88 x
      clear hP hx0 htk hown HU HL HCE HB1 HC1 HB hz1'
      generalize strOfNums (dgNs l) = t at *
      generalize dgt (l.getD 0 0) = q at *
      obtain ⟨h0, h9⟩ := h48
      by_cases hbad : 1 < k ∧ q = 0
      · have hPS1 := fun w hC => (hPS w hC).1 hbad
        have hPT1 := fun w hC => (hPT w hC).1 hbad
        obtain ⟨hk1, rfl⟩ := hbad
        clear hPS hPT
        cases less
        · go_wp2_with fail
          refine (hPT1 _ HCR.out).mono ?_
          rintro e w5 ⟨rfl, hb5⟩
          have hc5 : w5.cell? ⟨g, 0, none⟩ = _ := (hb5.cell (p := ⟨g, 0, none⟩) hg).trans hcell
          clear hPT1 hPS1
          go_wp2
          go_ret
          exact ⟨ret_bool (by simp), HBB.out.trans (hb5.mono HBB.out.size)⟩
        · go_wp2_with fail
          refine (hPS1 _ HCR.out).mono ?_
          rintro e w5 ⟨rfl, hb5⟩
          have hc5 : w5.cell? ⟨g, 0, none⟩ = _ := (hb5.cell (p := ⟨g, 0, none⟩) hg).trans hcell
          clear hPT1 hPS1
          go_wp2
          go_ret
          exact ⟨ret_bool (by simp), HBB.out.trans (hb5.mono HBB.out.size)⟩
      · have hPS1 := fun w hC => (hPS w hC).2 hbad
        have hPT1 := fun w hC => (hPT w hC).2 hbad
        clear hPS hPT
        by_cases hk1 : 1 < k
        · have q1 : ((48 + q : Int) == 48) = false := by simp; omega
          clear hbad
          cases less
          · go_wp2_with fail
            refine (hPT1 _ HCR.out).mono ?_
            rintro e w5 ⟨rfl, hb5⟩
            have hc5 : w5.cell? ⟨g, 0, none⟩ = _ := (hb5.cell (p := ⟨g, 0, none⟩) hg).trans hcell
            clear hPT1 hPS1
            go_wp2
            go_ret
            exact ⟨ret_bool (by simp), HBB.out.trans (hb5.mono HBB.out.size)⟩
          · go_wp2_with fail
            refine (hPS1 _ HCR.out).mono ?_
            rintro e w5 ⟨rfl, hb5⟩
            have hc5 : w5.cell? ⟨g, 0, none⟩ = _ := (hb5.cell (p := ⟨g, 0, none⟩) hg).trans hcell
            clear hPT1 hPS1
            go_wp2
            go_ret
            exact ⟨ret_bool (by simp), HBB.out.trans (hb5.mono HBB.out.size)⟩
        · clear hbad
          cases less
          · go_wp2_with fail
            refine (hPT1 _ HCR.out).mono ?_
            rintro e w5 ⟨rfl, hb5⟩
            have hc5 : w5.cell? ⟨g, 0, none⟩ = _ := (hb5.cell (p := ⟨g, 0, none⟩) hg).trans hcell
            clear hPT1 hPS1
            go_wp2
            go_ret
            exact ⟨ret_bool (by simp), HBB.out.trans (hb5.mono HBB.out.size)⟩
          · go_wp2_with fail
            refine (hPS1 _ HCR.out).mono ?_
            rintro e w5 ⟨rfl, hb5⟩
            have hc5 : w5.cell? ⟨g, 0, none⟩ = _ := (hb5.cell (p := ⟨g, 0, none⟩) hg).trans hcell
            clear hPT1 hPS1
            go_wp2
            go_ret
            exact ⟨ret_bool (by simp), HBB.out.trans (hb5.mono HBB.out.size)⟩

end Go.Proofs.YtnejlfkbnbbgfaaDoor
