/- The document's Quote: what each call returns. -/
import Derived.Test.YtfccfijjojnbbaaDoorPtq
import Derived.Test.YtfccfijjojnbbaaDoorQqm
import Derived.Test.YtfccfijjojnbbaaDoorWalks
namespace Go.Proofs.YtfccfijjojnbbaaDoor
open Go.RowKit

theorem cvw (w : World) (z y : Int) :
    Sem.run Tryd.prog (convert 44 9 (.slice (some ⟨w.heap.size, 0, none⟩) 2 2)) (w.alloc (.cells #[.int .u8 z, .int .u8 y] 5)) =
      .ok (.string (strOfNums [z, y])) (w.alloc (.cells #[.int .u8 z, .int .u8 y] 5)) :=
  run_convert_bytes_arg (P := Tryd.prog) _ 44 5 Tryd.underlying44 Tryd.underlying5 w.heap.size 0 2 2 [z, y] rfl (fun i hi => by
    have hb := cell_of_row (w.alloc (.cells #[.int .u8 z, .int .u8 y] 5)) w.heap.size (0 + i) #[.int .u8 z, .int .u8 y] 5 (0, 0)
      (by have := heap_alloc_new w (.cells #[.int .u8 z, .int .u8 y] 5); simpa using this)
    rw [hb]
    match i, hi with
    | 0, _ => rfl
    | 1, _ => rfl) 9 Tryd.underlying9

/-- what is written after k code points -/
structure Ri (l : List Int) (k : Nat) (O : List UInt8) : Prop where
  eq : O = 34 :: bodyP (l.take k)
  len : O.length ≤ 6 * k + 1
theorem Ri.start (l : List Int) : Ri l 0 [34] := ⟨rfl, by simp⟩
theorem escP_len (r : Int) : (escP r).length ≤ 6 := by
  unfold escP
  split
  · exact escT_len _
  · rw [encB_len]; have := encZ_four r; omega
theorem Ri.step {l : List Int} {k : Nat} {O x : List UInt8} (h : Ri l k O) (hk : k < l.length) (hx : escP (l.getD k 0) = x) : Ri l (k + 1) (O ++ x) := by
  have e : l.getD k 0 = l[k] := by simp [List.getD, hk]
  have hl := escP_len (l.getD k 0)
  refine ⟨?_, ?_⟩
  · rw [h.eq, List.take_succ_eq_append_getElem hk, ← hx, e]
    unfold bodyP
    rw [List.flatMap_append]
    simp only [List.flatMap_cons, List.flatMap_nil, List.append_nil, List.cons_append]
  · rw [List.length_append, ← hx]
    have := h.len
    omega

def rquoteV : Option (List UInt8) → Value
  | some x => .tuple #[.string ⟨x.toArray⟩, .bool true]
  | none => .tuple #[.string ⟨#[]⟩, .bool false]

set_option maxRecDepth 100000 in
set_option maxHeartbeats 400000 in
theorem rquote_bad (s : ByteArray) (w : World) (hs : s.size ≤ 2000) (hv : vld s s.size 0 = false) :
    Calls Tryd.prog 15 #[.string s] w fun e w' => e = .returned (rquoteV none) ∧ Below w.heap.size w w' := by
  have hP := ref_points_no s w hs hv
  simp only [rquoteV]
  clear hv
  go_enter Tryd.func15, Tryd.ntmps15
  go_wp2_with (go_at_call 19; refine hP.mono ?_; rintro e w1 ⟨rfl, hb1⟩)
  go_ret2
  exact ⟨rfl, hb1⟩

theorem app_size (s t : ByteArray) : (s ++ t).size = s.size + t.size := ByteArray.size_append
theorem app_lst (s t : ByteArray) : (s ++ t).data.toList = s.data.toList ++ t.data.toList := by rw [ByteArray.data_append, Array.toList_append]
theorem escP_low {n : Nat} (h : n < 128) : escP (n : Int) = if escB n = [] then [UInt8.ofNat n] else escB n := by
  have hn : (UInt8.ofNat (n : Int).toNat).toNat = n := by simp; omega
  unfold escP
  rw [if_pos (by omega)]
  unfold escT
  rw [hn]
  rfl
theorem escP_plain {r : Int} (h : isPt r) (h32 : 32 ≤ r) (h34 : r ≠ 34) (h92 : r ≠ 92) : escP r = encB r := by
  by_cases h1 : r < 128
  · obtain ⟨n, rfl⟩ := Int.eq_ofNat_of_zero_le (by omega : 0 ≤ r)
    have e : escB n = [] := by
      unfold escB
      repeat rw [if_neg (by omega)]
    rw [escP_low (by omega), e, if_pos rfl, encB_one h1]
    rfl
  · unfold escP
    rw [if_neg h1]

def hexS : ByteArray := ⟨#[48, 49, 50, 51, 52, 53, 54, 55, 56, 57, 97, 98, 99, 100, 101, 102]⟩
theorem below_drewM {B : Nat} {a w : World} (h : Below B a w) (d : Nat) : Below B a (w.drewN d) := ⟨h.os, h.tape, h.output, h.size, h.block⟩
theorem hex_cut : ∀ n : Fin 16, (hexS.extract n.val (n.val + 1)).data.toList = [hexd n.val] := by decide +kernel

set_option maxRecDepth 100000 in
set_option maxHeartbeats 8000000 in
theorem rquote_good (s : ByteArray) (w : World) (hs : s.size ≤ 2000) (hv : vld s s.size 0 = true) :
    Calls Tryd.prog 15 #[.string s] w fun e w' => e = .returned (rquoteV (some (quoteL s.data.toList))) ∧ Below w.heap.size w w' := by
  have hP := ref_points_yes s w hs hv
  obtain ⟨_, hpt⟩ := vd_pts hv
  have HPT : Hid (∀ r ∈ pts s, isPt r) := hpt
  have HQ : Hid (quoteL s.data.toList = 34 :: (bodyP (pts s) ++ [34])) := quote_pts hv
  have hpl : (pts s).length ≤ 2000 := by have := ptsD_len s s.size 0; unfold pts; omega
  have hcv := cvw
  simp only [rquoteV]
  clear hv hpt
  generalize pts s = l at *
  generalize hn : l.length = n at *
  have HN := Lib.hid hn
  clear hn
  go_enter Tryd.func15, Tryd.ntmps15
  go_wp2_with fail
  refine hP.mono ?_
  rintro e w1 ⟨⟨A, c, rfl, hrd⟩, hb1⟩
  have HRD := Lib.hid hrd
  have HB1 := Lib.hid hb1
  clear hP hrd hb1
  go_wp2
  go_loopw [6, 8, 9, 19, 27, 40, 45, 50, 55, 60, 65] (fun out _ _ i _ _ _ _ _ _ _ wr => ∃ (k : Nat) (O : ByteArray), out = .string O ∧ i = .int .i64 k ∧ k ≤ n ∧ Hid (Ri l k O.data.toList) ∧ Below w1.heap.size w1 wr) (fun _ _ _ i _ _ _ _ _ _ _ _ => n - (intOf i).toNat)
  case atStart => exact ⟨0, ⟨#[34]⟩, rfl, rfl, by omega, Ri.start l, Below.refl _ _⟩
  case round =>
    obtain ⟨k, O, rfl, rfl, hk, HR, HB⟩ := hrel
    have hos := HR.out.len
    rw [size_list] at hos
    have hBs := HB.size
    by_cases hlt : k < n
    · rcases HRD.out.2 with h0 | ⟨b, off, rfl, hbl, hcell⟩
      · exfalso; omega
      · have hkl : k < l.length := by have := HN.out; omega
        have c1 : wr.cell? ⟨b, off + k, none⟩ = some (.int .i64 (l.getD k 0)) := (HB.cell (p := ⟨b, off + k, none⟩) hbl).trans (hcell k hlt)
        have hpr : isPt (l.getD k 0) := HPT.out _ (by simp [List.getD, hkl])
        have HST := Lib.hid (fun x hx => HR.out.step hkl (x := x) hx)
        clear hcell
        generalize l.getD k 0 = r at *
        have hr0 : 0 ≤ r := by unfold isPt at hpr; omega
        have hr1 : r ≤ 1114111 := by unfold isPt at hpr; omega
        by_cases h32 : 32 ≤ r
        · by_cases h34 : r = 34
          · subst h34
            have HX : Hid (Ri l (k + 1) (O ++ strOfNums [92, 34]).data.toList) := by rw [app_lst]; exact HST.out _ rfl
            have hz : (strOfNums [92, 34]).size = 2 := by rw [strOfNums_size]; rfl
            clear hpr HST
            go_wp2
            go_roundw
            case rel => exact ⟨k + 1, _, rfl, by go_num, by omega, HX, by first | exact HB | exact HB.alloc hBs _⟩
            case measure => simp [intOf]; omega
          · by_cases h92 : r = 92
            · subst h92
              have HX : Hid (Ri l (k + 1) (O ++ strOfNums [92, 92]).data.toList) := by rw [app_lst]; exact HST.out _ rfl
              have hz : (strOfNums [92, 92]).size = 2 := by rw [strOfNums_size]; rfl
              clear hpr HST
              go_wp2
              go_roundw
              case rel => exact ⟨k + 1, _, rfl, by go_num, by omega, HX, by first | exact HB | exact HB.alloc hBs _⟩
              case measure => simp [intOf]; omega
            · have hen := fun w => ref_encode_yes r w hpr
              have HX : Hid (Ri l (k + 1) (O ++ strOfNums (encZ r)).data.toList) := by rw [app_lst]; exact HST.out _ (escP_plain hpr h32 h34 h92)
              have hz : (strOfNums (encZ r)).size ≤ 4 := by rw [strOfNums_size]; exact encZ_four _
              have q1 : (r == 34) = false := by simp; omega
              have q2 : (r == 92) = false := by simp; omega
              have q3 : (r == 8) = false := by simp; omega
              have q4 : (r == 9) = false := by simp; omega
              have q5 : (r == 10) = false := by simp; omega
              have q6 : (r == 12) = false := by simp; omega
              have q7 : (r == 13) = false := by simp; omega
              clear hpr HST h34 h92
              generalize strOfNums (encZ r) = t at *
              go_wp2_with fail
              refine (hen _).mono ?_
              rintro e w2 ⟨rfl, hb2⟩
              clear hen
              go_wp2
              go_roundw
              case rel => exact ⟨k + 1, _, rfl, by go_num, by omega, HX, HB.trans (hb2.mono hBs)⟩
              case measure => simp [intOf]; omega
        · obtain ⟨m, rfl⟩ := Int.eq_ofNat_of_zero_le hr0
          have hm : m = 0 ∨ m = 1 ∨ m = 2 ∨ m = 3 ∨ m = 4 ∨ m = 5 ∨ m = 6 ∨ m = 7 ∨ m = 8 ∨ m = 9 ∨ m = 10 ∨ m = 11 ∨ m = 12 ∨ m = 13 ∨ m = 14 ∨ m = 15 ∨ m = 16 ∨ m = 17 ∨ m = 18 ∨ m = 19 ∨ m = 20 ∨ m = 21 ∨ m = 22 ∨ m = 23 ∨ m = 24 ∨ m = 25 ∨ m = 26 ∨ m = 27 ∨ m = 28 ∨ m = 29 ∨ m = 30 ∨ m = 31 := by omega
          clear hr0 hr1 h32 hpr
          rcases hm with rfl | rfl | rfl | rfl | rfl | rfl | rfl | rfl | rfl | rfl | rfl | rfl | rfl | rfl | rfl | rfl | rfl | rfl | rfl | rfl | rfl | rfl | rfl | rfl | rfl | rfl | rfl | rfl | rfl | rfl | rfl | rfl
          · have HX : Hid (Ri l (k + 1) (O ++ ⟨#[92, 117, 48, 48, 48, 48]⟩).data.toList) := by rw [app_lst]; exact HST.out _ rfl
            clear HST
            go_wp2
            go_quiet (fail)
            go_wp2
            go_roundw
            case rel => exact ⟨k + 1, _, rfl, by go_num, by omega, HX, by first | exact HB | exact below_drewM HB _⟩
            case measure => simp [intOf]; omega
          · have HX : Hid (Ri l (k + 1) (O ++ ⟨#[92, 117, 48, 48, 48, 49]⟩).data.toList) := by rw [app_lst]; exact HST.out _ rfl
            clear HST
            go_wp2
            go_quiet (fail)
            go_wp2
            go_roundw
            case rel => exact ⟨k + 1, _, rfl, by go_num, by omega, HX, by first | exact HB | exact below_drewM HB _⟩
            case measure => simp [intOf]; omega
          · have HX : Hid (Ri l (k + 1) (O ++ ⟨#[92, 117, 48, 48, 48, 50]⟩).data.toList) := by rw [app_lst]; exact HST.out _ rfl
            clear HST
            go_wp2
            go_quiet (fail)
            go_wp2
            go_roundw
            case rel => exact ⟨k + 1, _, rfl, by go_num, by omega, HX, by first | exact HB | exact below_drewM HB _⟩
            case measure => simp [intOf]; omega
          · have HX : Hid (Ri l (k + 1) (O ++ ⟨#[92, 117, 48, 48, 48, 51]⟩).data.toList) := by rw [app_lst]; exact HST.out _ rfl
            clear HST
            go_wp2
            go_quiet (fail)
            go_wp2
            go_roundw
            case rel => exact ⟨k + 1, _, rfl, by go_num, by omega, HX, by first | exact HB | exact below_drewM HB _⟩
            case measure => simp [intOf]; omega
          · have HX : Hid (Ri l (k + 1) (O ++ ⟨#[92, 117, 48, 48, 48, 52]⟩).data.toList) := by rw [app_lst]; exact HST.out _ rfl
            clear HST
            go_wp2
            go_quiet (fail)
            go_wp2
            go_roundw
            case rel => exact ⟨k + 1, _, rfl, by go_num, by omega, HX, by first | exact HB | exact below_drewM HB _⟩
            case measure => simp [intOf]; omega
          · have HX : Hid (Ri l (k + 1) (O ++ ⟨#[92, 117, 48, 48, 48, 53]⟩).data.toList) := by rw [app_lst]; exact HST.out _ rfl
            clear HST
            go_wp2
            go_quiet (fail)
            go_wp2
            go_roundw
            case rel => exact ⟨k + 1, _, rfl, by go_num, by omega, HX, by first | exact HB | exact below_drewM HB _⟩
            case measure => simp [intOf]; omega
          · have HX : Hid (Ri l (k + 1) (O ++ ⟨#[92, 117, 48, 48, 48, 54]⟩).data.toList) := by rw [app_lst]; exact HST.out _ rfl
            clear HST
            go_wp2
            go_quiet (fail)
            go_wp2
            go_roundw
            case rel => exact ⟨k + 1, _, rfl, by go_num, by omega, HX, by first | exact HB | exact below_drewM HB _⟩
            case measure => simp [intOf]; omega
          · have HX : Hid (Ri l (k + 1) (O ++ ⟨#[92, 117, 48, 48, 48, 55]⟩).data.toList) := by rw [app_lst]; exact HST.out _ rfl
            clear HST
            go_wp2
            go_quiet (fail)
            go_wp2
            go_roundw
            case rel => exact ⟨k + 1, _, rfl, by go_num, by omega, HX, by first | exact HB | exact below_drewM HB _⟩
            case measure => simp [intOf]; omega
          · have HX : Hid (Ri l (k + 1) (O ++ ⟨#[92, 98]⟩).data.toList) := by rw [app_lst]; exact HST.out _ rfl
            clear HST
            go_wp2
            go_roundw
            case rel => exact ⟨k + 1, _, rfl, by go_num, by omega, HX, by first | exact HB | exact below_drewM HB _⟩
            case measure => simp [intOf]; omega
          · have HX : Hid (Ri l (k + 1) (O ++ ⟨#[92, 116]⟩).data.toList) := by rw [app_lst]; exact HST.out _ rfl
            clear HST
            go_wp2
            go_roundw
            case rel => exact ⟨k + 1, _, rfl, by go_num, by omega, HX, by first | exact HB | exact below_drewM HB _⟩
            case measure => simp [intOf]; omega
          · have HX : Hid (Ri l (k + 1) (O ++ ⟨#[92, 110]⟩).data.toList) := by rw [app_lst]; exact HST.out _ rfl
            clear HST
            go_wp2
            go_roundw
            case rel => exact ⟨k + 1, _, rfl, by go_num, by omega, HX, by first | exact HB | exact below_drewM HB _⟩
            case measure => simp [intOf]; omega
          · have HX : Hid (Ri l (k + 1) (O ++ ⟨#[92, 117, 48, 48, 48, 98]⟩).data.toList) := by rw [app_lst]; exact HST.out _ rfl
            clear HST
            go_wp2
            go_quiet (fail)
            go_wp2
            go_roundw
            case rel => exact ⟨k + 1, _, rfl, by go_num, by omega, HX, by first | exact HB | exact below_drewM HB _⟩
            case measure => simp [intOf]; omega
          · have HX : Hid (Ri l (k + 1) (O ++ ⟨#[92, 102]⟩).data.toList) := by rw [app_lst]; exact HST.out _ rfl
            clear HST
            go_wp2
            go_roundw
            case rel => exact ⟨k + 1, _, rfl, by go_num, by omega, HX, by first | exact HB | exact below_drewM HB _⟩
            case measure => simp [intOf]; omega
          · have HX : Hid (Ri l (k + 1) (O ++ ⟨#[92, 114]⟩).data.toList) := by rw [app_lst]; exact HST.out _ rfl
            clear HST
            go_wp2
            go_roundw
            case rel => exact ⟨k + 1, _, rfl, by go_num, by omega, HX, by first | exact HB | exact below_drewM HB _⟩
            case measure => simp [intOf]; omega
          · have HX : Hid (Ri l (k + 1) (O ++ ⟨#[92, 117, 48, 48, 48, 101]⟩).data.toList) := by rw [app_lst]; exact HST.out _ rfl
            clear HST
            go_wp2
            go_quiet (fail)
            go_wp2
            go_roundw
            case rel => exact ⟨k + 1, _, rfl, by go_num, by omega, HX, by first | exact HB | exact below_drewM HB _⟩
            case measure => simp [intOf]; omega
          · have HX : Hid (Ri l (k + 1) (O ++ ⟨#[92, 117, 48, 48, 48, 102]⟩).data.toList) := by rw [app_lst]; exact HST.out _ rfl
            clear HST
            go_wp2
            go_quiet (fail)
            go_wp2
            go_roundw
            case rel => exact ⟨k + 1, _, rfl, by go_num, by omega, HX, by first | exact HB | exact below_drewM HB _⟩
            case measure => simp [intOf]; omega
          · have HX : Hid (Ri l (k + 1) (O ++ ⟨#[92, 117, 48, 48, 49, 48]⟩).data.toList) := by rw [app_lst]; exact HST.out _ rfl
            clear HST
            go_wp2
            go_quiet (fail)
            go_wp2
            go_roundw
            case rel => exact ⟨k + 1, _, rfl, by go_num, by omega, HX, by first | exact HB | exact below_drewM HB _⟩
            case measure => simp [intOf]; omega
          · have HX : Hid (Ri l (k + 1) (O ++ ⟨#[92, 117, 48, 48, 49, 49]⟩).data.toList) := by rw [app_lst]; exact HST.out _ rfl
            clear HST
            go_wp2
            go_quiet (fail)
            go_wp2
            go_roundw
            case rel => exact ⟨k + 1, _, rfl, by go_num, by omega, HX, by first | exact HB | exact below_drewM HB _⟩
            case measure => simp [intOf]; omega
          · have HX : Hid (Ri l (k + 1) (O ++ ⟨#[92, 117, 48, 48, 49, 50]⟩).data.toList) := by rw [app_lst]; exact HST.out _ rfl
            clear HST
            go_wp2
            go_quiet (fail)
            go_wp2
            go_roundw
            case rel => exact ⟨k + 1, _, rfl, by go_num, by omega, HX, by first | exact HB | exact below_drewM HB _⟩
            case measure => simp [intOf]; omega
          · have HX : Hid (Ri l (k + 1) (O ++ ⟨#[92, 117, 48, 48, 49, 51]⟩).data.toList) := by rw [app_lst]; exact HST.out _ rfl
            clear HST
            go_wp2
            go_quiet (fail)
            go_wp2
            go_roundw
            case rel => exact ⟨k + 1, _, rfl, by go_num, by omega, HX, by first | exact HB | exact below_drewM HB _⟩
            case measure => simp [intOf]; omega
          · have HX : Hid (Ri l (k + 1) (O ++ ⟨#[92, 117, 48, 48, 49, 52]⟩).data.toList) := by rw [app_lst]; exact HST.out _ rfl
            clear HST
            go_wp2
            go_quiet (fail)
            go_wp2
            go_roundw
            case rel => exact ⟨k + 1, _, rfl, by go_num, by omega, HX, by first | exact HB | exact below_drewM HB _⟩
            case measure => simp [intOf]; omega
          · have HX : Hid (Ri l (k + 1) (O ++ ⟨#[92, 117, 48, 48, 49, 53]⟩).data.toList) := by rw [app_lst]; exact HST.out _ rfl
            clear HST
            go_wp2
            go_quiet (fail)
            go_wp2
            go_roundw
            case rel => exact ⟨k + 1, _, rfl, by go_num, by omega, HX, by first | exact HB | exact below_drewM HB _⟩
            case measure => simp [intOf]; omega
          · have HX : Hid (Ri l (k + 1) (O ++ ⟨#[92, 117, 48, 48, 49, 54]⟩).data.toList) := by rw [app_lst]; exact HST.out _ rfl
            clear HST
            go_wp2
            go_quiet (fail)
            go_wp2
            go_roundw
            case rel => exact ⟨k + 1, _, rfl, by go_num, by omega, HX, by first | exact HB | exact below_drewM HB _⟩
            case measure => simp [intOf]; omega
          · have HX : Hid (Ri l (k + 1) (O ++ ⟨#[92, 117, 48, 48, 49, 55]⟩).data.toList) := by rw [app_lst]; exact HST.out _ rfl
            clear HST
            go_wp2
            go_quiet (fail)
            go_wp2
            go_roundw
            case rel => exact ⟨k + 1, _, rfl, by go_num, by omega, HX, by first | exact HB | exact below_drewM HB _⟩
            case measure => simp [intOf]; omega
          · have HX : Hid (Ri l (k + 1) (O ++ ⟨#[92, 117, 48, 48, 49, 56]⟩).data.toList) := by rw [app_lst]; exact HST.out _ rfl
            clear HST
            go_wp2
            go_quiet (fail)
            go_wp2
            go_roundw
            case rel => exact ⟨k + 1, _, rfl, by go_num, by omega, HX, by first | exact HB | exact below_drewM HB _⟩
            case measure => simp [intOf]; omega
          · have HX : Hid (Ri l (k + 1) (O ++ ⟨#[92, 117, 48, 48, 49, 57]⟩).data.toList) := by rw [app_lst]; exact HST.out _ rfl
            clear HST
            go_wp2
            go_quiet (fail)
            go_wp2
            go_roundw
            case rel => exact ⟨k + 1, _, rfl, by go_num, by omega, HX, by first | exact HB | exact below_drewM HB _⟩
            case measure => simp [intOf]; omega
          · have HX : Hid (Ri l (k + 1) (O ++ ⟨#[92, 117, 48, 48, 49, 97]⟩).data.toList) := by rw [app_lst]; exact HST.out _ rfl
            clear HST
            go_wp2
            go_quiet (fail)
            go_wp2
            go_roundw
            case rel => exact ⟨k + 1, _, rfl, by go_num, by omega, HX, by first | exact HB | exact below_drewM HB _⟩
            case measure => simp [intOf]; omega
          · have HX : Hid (Ri l (k + 1) (O ++ ⟨#[92, 117, 48, 48, 49, 98]⟩).data.toList) := by rw [app_lst]; exact HST.out _ rfl
            clear HST
            go_wp2
            go_quiet (fail)
            go_wp2
            go_roundw
            case rel => exact ⟨k + 1, _, rfl, by go_num, by omega, HX, by first | exact HB | exact below_drewM HB _⟩
            case measure => simp [intOf]; omega
          · have HX : Hid (Ri l (k + 1) (O ++ ⟨#[92, 117, 48, 48, 49, 99]⟩).data.toList) := by rw [app_lst]; exact HST.out _ rfl
            clear HST
            go_wp2
            go_quiet (fail)
            go_wp2
            go_roundw
            case rel => exact ⟨k + 1, _, rfl, by go_num, by omega, HX, by first | exact HB | exact below_drewM HB _⟩
            case measure => simp [intOf]; omega
          · have HX : Hid (Ri l (k + 1) (O ++ ⟨#[92, 117, 48, 48, 49, 100]⟩).data.toList) := by rw [app_lst]; exact HST.out _ rfl
            clear HST
            go_wp2
            go_quiet (fail)
            go_wp2
            go_roundw
            case rel => exact ⟨k + 1, _, rfl, by go_num, by omega, HX, by first | exact HB | exact below_drewM HB _⟩
            case measure => simp [intOf]; omega
          · have HX : Hid (Ri l (k + 1) (O ++ ⟨#[92, 117, 48, 48, 49, 101]⟩).data.toList) := by rw [app_lst]; exact HST.out _ rfl
            clear HST
            go_wp2
            go_quiet (fail)
            go_wp2
            go_roundw
            case rel => exact ⟨k + 1, _, rfl, by go_num, by omega, HX, by first | exact HB | exact below_drewM HB _⟩
            case measure => simp [intOf]; omega
          · have HX : Hid (Ri l (k + 1) (O ++ ⟨#[92, 117, 48, 48, 49, 102]⟩).data.toList) := by rw [app_lst]; exact HST.out _ rfl
            clear HST
            go_wp2
            go_quiet (fail)
            go_wp2
            go_roundw
            case rel => exact ⟨k + 1, _, rfl, by go_num, by omega, HX, by first | exact HB | exact below_drewM HB _⟩
            case measure => simp [intOf]; omega
    · have HF : Hid ((⟨(quoteL s.data.toList).toArray⟩ : ByteArray) = O ++ ⟨#[34]⟩) := by
        have hkn : k = n := by omega
        have e := HR.out.eq
        rw [List.take_of_length_le (by have := HN.out; omega)] at e
        refine ba_eq ?_
        rw [toBA, app_lst, HQ.out, e]
        rfl
      go_wp2
      go_ret2
      exact ⟨by rw [HF.out]; rfl, HB1.out.trans (HB.mono HB1.out.size)⟩

end Go.Proofs.YtfccfijjojnbbaaDoor
