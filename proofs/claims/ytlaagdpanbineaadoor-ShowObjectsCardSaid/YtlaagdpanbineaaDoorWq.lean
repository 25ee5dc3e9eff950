/- quote.Quote (for package show): conditions on the listed variables, escape, Quote of a valid text; the words of package show. -/
import Derived.Test.YtlaagdpanbineaaDoorWb
import Derived.Test.YtlaagdpanbineaaDoorRga
import Derived.Test.YtlaagdpanbineaaDoorShelfC
import Derived.LaidMore
namespace Go.Proofs.YtlaagdpanbineaaDoor
open Go.RowKit

/-! ### the tables of texts -/
section
open Go.Lib
theorem escLaid : (Rows.laid_haversack_quote_escapes : DataW Unit) = .agg ((List.range 93).map fun i => .lit (.string (escB i))) := by kernel_rfl
theorem cellsStr : Tryd.prog.cellsOf 9 = 1 := by kernel_rfl
theorem esc_of {W : World} (h : VarReads Tryd.prog W "haversack/quote.escapes" Rows.laid_haversack_quote_escapes) (k : Nat) (hk : k < 93) :
    W.cell? ⟨14, k, none⟩ = some (.string ⟨(escB k).toArray⟩) := by
  obtain ⟨g, t, cs, fuel, p, hg, hty, hvar, hd⟩ := h
  rw [escLaid] at hd
  have e1 : Tryd.prog.globalNamed "haversack/quote.escapes" = some 14 := by kernel_rfl
  have e2 : (Tryd.prog.globals[14]?).map (·.type) = some 125 := by kernel_rfl
  obtain rfl := Option.some.inj (e1.symm.trans hg)
  obtain rfl := Option.some.inj (e2.symm.trans hty)
  obtain ⟨fuel', d, q, hdi, he⟩ := array_elem Tryd.underlying125 hd k hk
  simp only [List.getElem?_map, List.getElem?_range hk, Option.map_some, Option.some.injEq] at hdi
  subst hdi
  rw [cellsStr, Nat.mul_one] at he
  obtain ⟨s, hs, hx, _⟩ := DataW.trod_string Tryd.underlying9 he
  simp only [Prod.mk.injEq, DataW.lit.injEq, Lit.string.injEq] at hx
  have e0 := congrArg (·[0]?) hs
  simp only [List.getElem?_take, List.getElem?_drop] at e0
  rw [World.var?_cell hg hvar k, ← Array.getElem?_toList]
  have : s = ⟨(escB k).toArray⟩ := ba_eq hx.1.symm
  rw [← this]
  simpa using e0

/-- the words of package show -/
def wrdB : Nat → List UInt8
  | 1 => wNull
  | 2 => wFalse
  | 3 => wTrue
  | _ => []

theorem wrdLaid : (Rows.laid_haversack_show_words : DataW Unit) = .agg ((List.range 4).map fun i => .lit (.string (wrdB i))) := by kernel_rfl
theorem wrd_of {W : World} (h : VarReads Tryd.prog W "haversack/show.words" Rows.laid_haversack_show_words) (k : Nat) (hk : k < 4) :
    W.cell? ⟨13, k, none⟩ = some (.string ⟨(wrdB k).toArray⟩) := by
  obtain ⟨g, t, cs, fuel, p, hg, hty, hvar, hd⟩ := h
  rw [wrdLaid] at hd
  have e1 : Tryd.prog.globalNamed "haversack/show.words" = some 13 := by kernel_rfl
  have e2 : (Tryd.prog.globals[13]?).map (·.type) = some 89 := by kernel_rfl
  obtain rfl := Option.some.inj (e1.symm.trans hg)
  obtain rfl := Option.some.inj (e2.symm.trans hty)
  obtain ⟨fuel', d, q, hdi, he⟩ := array_elem Tryd.underlying89 hd k hk
  simp only [List.getElem?_map, List.getElem?_range hk, Option.map_some, Option.some.injEq] at hdi
  subst hdi
  rw [cellsStr, Nat.mul_one] at he
  obtain ⟨s, hs, hx, _⟩ := DataW.trod_string Tryd.underlying9 he
  simp only [Prod.mk.injEq, DataW.lit.injEq, Lit.string.injEq] at hx
  have e0 := congrArg (·[0]?) hs
  simp only [List.getElem?_take, List.getElem?_drop] at e0
  rw [World.var?_cell hg hvar k, ← Array.getElem?_toList]
  have : s = ⟨(wrdB k).toArray⟩ := ba_eq hx.1.symm
  rw [← this]
  simpa using e0


end

structure CondE (w : World) : Prop where
  tabs : Lib.Utf8Tabs 15 16 w
  esc : ∀ k, k < 93 → w.cell? ⟨14, k, none⟩ = some (.string ⟨(escB k).toArray⟩)
  wrd : ∀ k, k < 4 → w.cell? ⟨13, k, none⟩ = some (.string ⟨(wrdB k).toArray⟩)
  tab : Lib.TabIs Tryd.prog w "internal/strconv.uint64pow10" .u64 Lib.pow10Tab
theorem CondE.below {w w' : World} (h : CondE w) (hb : Below w.heap.size w w') : CondE w' :=
  ⟨Utf8Tabs_below h.tabs hb,
   fun k hk => (hb.cell (p := ⟨14, k, none⟩) (World.block_lt_of_cell? w _ (h.esc k hk))).trans (h.esc k hk),
   fun k hk => (hb.cell (p := ⟨13, k, none⟩) (World.block_lt_of_cell? w _ (h.wrd k hk))).trans (h.wrd k hk),
   Lib.tabBelow_of_tabIs h.tab w' hb⟩

set_option maxHeartbeats 400000 in
theorem escape_any (c : Nat) (w : World) (hC : CondE w) (hc : c < 256) :
    Calls Tryd.prog 70 #[.int .u8 c] w fun e w' => e = .returned (.string ⟨(escB c).toArray⟩) ∧ w = w' := by
  by_cases h : c < 93
  · have c0 : w.cell? ⟨14, c, none⟩ = some (.string ⟨(escB c).toArray⟩) := hC.esc c h
    clear hC
    generalize (⟨(escB c).toArray⟩ : ByteArray) = t at *
    go_enter Tryd.func70, Tryd.ntmps70
    go_wp2
    go_ret
    exact ⟨rfl, rfl⟩
  · rw [escB_big (by omega)]
    clear hC
    go_enter Tryd.func70, Tryd.ntmps70
    go_wp2
    go_ret
    exact ⟨rfl, rfl⟩

theorem ne_list {s : ByteArray} (h : ¬ s.data.toList = []) : ¬ s.toList = [] := by rw [ByteArray.toList_eq]; exact h
theorem ne_listB {s : ByteArray} (h : ¬ s.data.toList = []) : s.toList.isEmpty = false := by
  have := ne_list h
  cases hl : s.toList with
  | nil => exact absurd hl this
  | cons c r => rfl

/-! ### quote.Quote -/
structure Qi (s : ByteArray) (b k : Nat) (acc : List UInt8) : Prop where
  eq : acc ++ (s.data.toList.drop b).take (k - b) = 34 :: bodyT (s.data.toList.take k)
  le : b ≤ k
  len : acc.length ≤ 6 * k + 1
theorem Qi.start (s : ByteArray) : Qi s 0 0 [34] := ⟨by simp [bodyT], by omega, by simp⟩
theorem take_one {s : ByteArray} {k : Nat} (hk : k < s.size) : s.data.toList.take (k + 1) = s.data.toList.take k ++ [s[k]] := by
  have h : k < s.data.toList.length := by rw [size_list]; exact hk
  rw [List.take_succ_eq_append_getElem h]
  rfl
theorem drop_take {s : ByteArray} {b k : Nat} (hb : b ≤ k) (hk : k < s.size) : (s.data.toList.drop b).take (k + 1 - b) = (s.data.toList.drop b).take (k - b) ++ [s[k]] := by
  have h : k - b < (s.data.toList.drop b).length := by rw [List.length_drop, size_list]; omega
  rw [show k + 1 - b = (k - b) + 1 by omega, List.take_succ_eq_append_getElem h]
  congr 2
  rw [List.getElem_drop]
  have e : b + (k - b) = k := by omega
  simp only [e]
  rfl
theorem bodyT_one (c : UInt8) : bodyT [c] = escT c := by simp [bodyT]
theorem Qi.keep {s : ByteArray} {b k : Nat} {acc : List UInt8} (h : Qi s b k acc) (hk : k < s.size) (he : escB s[k].toNat = []) : Qi s b (k + 1) acc := by
  have e1 : escT s[k] = [s[k]] := by unfold escT; rw [if_pos he]
  refine ⟨?_, by have := h.le; omega, by have := h.len; omega⟩
  rw [drop_take h.le hk, take_one hk, bodyT_append, bodyT_one, e1, ← List.append_assoc, h.eq]
  rfl
theorem Qi.put {s : ByteArray} {b k : Nat} {acc : List UInt8} (h : Qi s b k acc) (hk : k < s.size) (he : ¬ escB s[k].toNat = []) : Qi s (k + 1) (k + 1) (acc ++ (s.data.toList.drop b).take (k - b) ++ escB s[k].toNat) := by
  have e1 : escT s[k] = escB s[k].toNat := by unfold escT; rw [if_neg he]
  have e2 := congrArg List.length h.eq
  have e3 := escB_len s[k].toNat
  have e4 := bodyT_len (s.data.toList.take k)
  rw [List.length_take, size_list] at e4
  rw [List.length_cons] at e2
  refine ⟨?_, by omega, ?_⟩
  · rw [take_one hk, bodyT_append, bodyT_one, e1, h.eq]
    simp
  · rw [List.length_append, e2]
    omega
theorem Qi.fin {s : ByteArray} {b : Nat} {acc : List UInt8} (h : Qi s b s.size acc) : acc ++ s.data.toList.drop b ++ [34] = quoteL s.data.toList := by
  have e := h.eq
  rw [List.take_of_length_le (by rw [List.length_drop, size_list]; omega), List.take_of_length_le (by rw [size_list]; omega)] at e
  rw [e]
  rfl

theorem cut_two (s : ByteArray) (b k : Nat) : (s.extract b k).data.toList = (s.data.toList.drop b).take (k - b) := by rw [Lib.extract_data]
theorem cells_str (acc : List UInt8) (t : ByteArray) : Lib.byteCells acc ++ Lib.strCells t = Lib.byteCells (acc ++ t.data.toList) := by
  simp [Lib.byteCells, Lib.strCells]
theorem cells_byte (acc : List UInt8) : Lib.byteCells acc ++ [.int .u8 34] = Lib.byteCells (acc ++ [34]) := by
  simp [Lib.byteCells]

set_option maxRecDepth 100000 in
set_option maxHeartbeats 4000000 in
theorem quote_good (s : ByteArray) (w : World) (hC : CondE w) (hs : s.size ≤ 200000) (hv : vld s s.size 0 = true) :
    Calls Tryd.prog 58 #[.string s] w fun e w' => e = .returned (.tuple #[.string ⟨(quoteL s.data.toList).toArray⟩, .nilIface]) ∧ Below w.heap.size w w' := by
  have hV := valid_any s w (by unfold maxLen; omega) hC.tabs
  have HC := Lib.hid hC
  rw [hv] at hV
  generalize hQ : (⟨(quoteL s.data.toList).toArray⟩ : ByteArray) = Q at *
  have HQ := Lib.hid hQ
  clear hv hC hQ
  go_enter Tryd.func58, Tryd.ntmps58
  go_wp2_with fail
  refine hV.mono ?_
  rintro e w1 ⟨rfl, hb1⟩
  have HC1 := Lib.hid (HC.out.below hb1)
  have HB1 := Lib.hid hb1
  clear hV hb1 HC
  have hG := Tryd.Builder_Grow_fresh w1.heap.size w1.heap.size (s.size + 2) (w1.alloc (.cells #[.pointer none, .slice none 0 0] 63)) (Nat.le_refl _) (heap_alloc_new w1 _) (by simp) (by omega)
  have hc2 : ((s.size + 2 : Nat) : Int) = (s.size : Int) + 2 := by omega
  rw [hc2] at hG
  go_wp2_with fail
  refine hG.mono ?_
  rintro e w2 ⟨rfl, hI2, hb2⟩
  have HB2 := Lib.hid (((Below.refl w1.heap.size w1).alloc (Nat.le_refl _) _).trans hb2)
  have hs2 := HB2.out.size
  have hW2 := Tryd.Builder_WriteByte w1.heap.size w1.heap.size [] 34 w2 (.inr hI2) (by simp) hs2
  rw [show ([] : List Value) ++ [.int .u8 34] = Lib.byteCells [34] from rfl] at hW2
  clear hG hc2 hI2 hb2
  go_wp2_with fail
  refine hW2.mono ?_
  rintro e w3 ⟨rfl, hI3, hb3⟩
  have HB3 := Lib.hid (HB2.out.trans hb3)
  have HI3 := Lib.hid hI3
  clear hW2 hI3 hb3 HB2 hs2
  go_wp2
  go_loopw [5, 6, 7, 19] (fun bare _ _ i wr => ∃ (b k : Nat) (acc : List UInt8), bare = .int .i64 b ∧ i = .int .i64 k ∧ k ≤ s.size ∧ Hid (Qi s b k acc) ∧ Lib.IsBuilder 63 5 w1.heap.size w1.heap.size (Lib.byteCells acc) wr ∧ Below w1.heap.size w1 wr) (fun _ _ _ i _ => s.size - (intOf i).toNat)
  case atStart => exact ⟨0, 0, [34], rfl, rfl, by omega, Qi.start s, .inr HI3.out, HB3.out⟩
  case round =>
    obtain ⟨b, k, acc, rfl, rfl, hk, HQI, HI, HB⟩ := hrel
    have hbk := HQI.out.le
    have hal := HQI.out.len
    have hBs := HB.size
    by_cases hlt : k < s.size
    · have hE := fun w hC => escape_any s[k].toNat w hC (UInt8.toNat_lt _)
      have HCr := Lib.hid (HC1.out.below HB)
      by_cases he : escB s[k].toNat = []
      · have HQ2 := Lib.hid (HQI.out.keep hlt he)
        rw [he] at hE
        clear he
        go_wp2_with (go_at_call 70; refine (hE _ HCr.out).mono ?_; rintro e w' ⟨rfl, rfl⟩)
        go_roundw
        case rel => exact ⟨b, k + 1, acc, rfl, by go_num, by omega, HQ2, HI, HB⟩
        case measure => simp [intOf]; omega
      · have HQ2 := Lib.hid (HQI.out.put hlt he)
        have hl := ne_list (s := ⟨(escB s[k].toNat).toArray⟩) he
        have hl2 := ne_listB (s := ⟨(escB s[k].toNat).toArray⟩) he
        have hX := cut_two s b k
        have hXs : (s.extract b k).size = k - b := by rw [ByteArray.size_extract]; omega
        have hW1 := Tryd.Builder_WriteString w1.heap.size w1.heap.size (Lib.byteCells acc) (s.extract b k) wr HI (by rw [Lib.byteCells_length, hXs]; omega) hBs
        rw [cells_str, hX] at hW1
        have hel := escB_len s[k].toNat
        have hes : (⟨(escB s[k].toNat).toArray⟩ : ByteArray).size = (escB s[k].toNat).length := by rw [← size_list]
        have hlen : (Lib.byteCells (acc ++ (s.data.toList.drop b).take (k - b))).length ≤ 4000000 := by
          rw [Lib.byteCells_length, List.length_append, List.length_take, List.length_drop]
          omega
        have hW2 := fun w2 (hI2 : Lib.BuilderAt 63 5 w1.heap.size w1.heap.size (.pointer (some ⟨w1.heap.size, 0, none⟩)) (Lib.byteCells (acc ++ (s.data.toList.drop b).take (k - b))) w2) (h2 : w1.heap.size ≤ w2.heap.size) =>
          Tryd.Builder_WriteString w1.heap.size w1.heap.size _ ⟨(escB s[k].toNat).toArray⟩ w2 (.inr hI2) (by rw [hes]; omega) h2
        rw [cells_str, toBA] at hW2
        clear he hX hXs hel hes hlen
        generalize acc ++ (s.data.toList.drop b).take (k - b) = acc2 at *
        generalize hacc3 : acc2 ++ escB s[k].toNat = acc3 at *
        generalize (⟨(escB s[k].toNat).toArray⟩ : ByteArray) = t at *
        clear hacc3
        go_wp2_with fail
        refine (hE _ HCr.out).mono ?_
        rintro e w' ⟨rfl, rfl⟩
        clear hE
        go_wp2_with fail
        refine hW1.mono ?_
        rintro e w4 ⟨rfl, hI4, hb4⟩
        have HB4 := Lib.hid (HB.trans hb4)
        have hW3 := hW2 w4 hI4 HB4.out.size
        clear hW1 hW2 hI4 hb4
        go_wp2_with fail
        refine hW3.mono ?_
        rintro e w5 ⟨rfl, hI5, hb5⟩
        have HB5 := Lib.hid (HB4.out.trans hb5)
        have HI5 := Lib.hid hI5
        clear hW3 hI5 hb5
        go_wp2
        go_roundw
        case rel => exact ⟨k + 1, k + 1, acc3, by go_num, by go_num, by omega, HQ2, .inr HI5.out, HB5.out⟩
        case measure => simp [intOf]; omega
    · obtain rfl : k = s.size := by omega
      have hX := ext_list s b
      have hXs : (s.extract b s.size).size = s.size - b := by rw [ByteArray.size_extract]; omega
      have hW1 := Tryd.Builder_WriteString w1.heap.size w1.heap.size (Lib.byteCells acc) (s.extract b s.size) wr HI (by rw [Lib.byteCells_length, hXs]; omega) hBs
      rw [cells_str, hX] at hW1
      have HF := Lib.hid (HQI.out.fin)
      have hlen : (Lib.byteCells (acc ++ s.data.toList.drop b)).length ≤ 4000000 := by
        rw [Lib.byteCells_length, List.length_append, List.length_drop, size_list]
        omega
      have hW2 := fun w2 (hI2 : Lib.BuilderAt 63 5 w1.heap.size w1.heap.size (.pointer (some ⟨w1.heap.size, 0, none⟩)) (Lib.byteCells (acc ++ s.data.toList.drop b)) w2) (h2 : w1.heap.size ≤ w2.heap.size) =>
        Tryd.Builder_WriteByte w1.heap.size w1.heap.size _ 34 w2 (.inr hI2) (by omega) h2
      rw [cells_byte] at hW2
      have HQQ : Hid (Q = ⟨(acc ++ s.data.toList.drop b ++ [34]).toArray⟩) := by
        show Q = _
        rw [HF.out, HQ.out]
      clear hX hXs hlen
      generalize acc ++ s.data.toList.drop b = acc2 at *
      go_wp2_with fail
      refine hW1.mono ?_
      rintro e w4 ⟨rfl, hI4, hb4⟩
      have HB4 := Lib.hid (HB.trans hb4)
      have hW3 := hW2 w4 hI4 HB4.out.size
      clear hW1 hW2 hI4 hb4
      go_wp2_with fail
      refine hW3.mono ?_
      rintro e w5 ⟨rfl, hI5, hb5⟩
      have HB5 := Lib.hid (HB4.out.trans hb5)
      have hS := Tryd.Builder_String_any w1.heap.size w1.heap.size (acc2 ++ [34]) w5 (.inr hI5) HB5.out.size
      rw [← HQQ.out] at hS
      clear hW3 hI5 hb5
      go_wp2_with fail
      refine hS.mono ?_
      rintro e w6 ⟨rfl, hb6⟩
      have HB6 := Lib.hid (HB5.out.trans (by first | exact hb6 | exact hb6.2))
      clear hS hb6
      go_wp2
      go_ret2
      exact ⟨rfl, HB1.out.trans (HB6.out.mono HB1.out.size)⟩

end Go.Proofs.YtlaagdpanbineaaDoor

