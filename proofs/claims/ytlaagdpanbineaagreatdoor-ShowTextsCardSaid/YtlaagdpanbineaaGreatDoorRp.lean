/- A slice that reads as a list of numbers. -/
import Derived.Test.YtlaagdpanbineaaGreatDoorRows
import Derived.WalkKit
import Derived.Deep.QuietTactic
import Derived.BigQuiet
import Derived.Lib.Hide
import Derived.Test.YtlaagdpanbineaaGreatDoorQb
import Derived.Test.YtlaagdpanbineaaGreatDoorQc
import Derived.Test.YtlaagdpanbineaaGreatDoorQa
namespace Go.Proofs.YtlaagdpanbineaaGreatDoor
open Go.RowKit

/-- the first n numbers of a slice -/
def Rd (w : World) (A : Option Addr) (n : Nat) (l : List Int) : Prop :=
  l.length = n ∧ (n = 0 ∨ ∃ b off, A = some ⟨b, off, none⟩ ∧ b < w.heap.size ∧ ∀ j, j < n → w.cell? ⟨b, off + j, none⟩ = some (.int .i64 (l.getD j 0)))

theorem Rd.drewN {w : World} {A : Option Addr} {n : Nat} {l : List Int} (h : Rd w A n l) (d : Nat) : Rd (w.drewN d) A n l := h

theorem Rd.below {w w' : World} {A : Option Addr} {n : Nat} {l : List Int} (h : Rd w A n l) (hb : Below w.heap.size w w') : Rd w' A n l := by
  refine ⟨h.1, ?_⟩
  rcases h.2 with h0 | ⟨b, off, hA, hlt, hc⟩
  · exact .inl h0
  · exact .inr ⟨b, off, hA, Nat.lt_of_lt_of_le hlt hb.size, fun j hj => (hb.cell (p := ⟨b, off + j, none⟩) hlt).trans (hc j hj)⟩

/-- an owned row of numbers reads as them -/
theorem Rd.of_own {w : World} {base : Nat} {v : Value} {n : Nat} {l : List Int} (h : w.ownsRow base 3 1 v n (l.map (Value.int .i64))) : ∃ A c, v = .slice A n c ∧ Rd w A n l := by
  have hlen := h.1
  simp at hlen
  rcases h.2 with ⟨rfl, rfl⟩ | ⟨g, cap, cur, rfl, hb, hg, hn, hc, hs, ht⟩
  · exact ⟨none, 0, rfl, hlen, .inl rfl⟩
  · refine ⟨_, _, rfl, hlen, .inr ⟨g, 0, rfl, (Array.getElem?_eq_some_iff.1 hg).1, fun j hj => ?_⟩⟩
    rw [Nat.zero_add, h.cellAt j (by omega), List.getElem?_map]
    have : j < l.length := by omega
    simp [List.getD, this]

end Go.Proofs.YtlaagdpanbineaaGreatDoor

/- The contract of the document's Points. -/
namespace Go.Proofs.YtlaagdpanbineaaGreatDoor
open Go.RowKit

theorem info3 : (Tryz.prog.info? 3).map (fun i => (i.zero, i.size, i.bytes)) = some (some (.int .i64 0), 1, 8) := by kernel_rfl

theorem own_below {w w' : World} {base : Nat} {e : TypeId} {size n : Nat} {v : Value} {xs : List Value} (h : w.ownsRow base e size v n xs) (hb : Below w.heap.size w w') : w'.ownsRow base e size v n xs := by
  refine h.kept (row := none) ⟨hb.os, hb.tape, hb.output, hb.size, fun i hi _ => hb.block i hi⟩ ?_
  cases hv : v.ownBlock with
  | none => exact .inl rfl
  | some g => exact .inr (by simp)

def ints (l : List Int) : List Value := l.map (Value.int .i64)
theorem ints_snoc (l : List Int) (x : Int) : ints l ++ [.int .i64 x] = ints (l ++ [x]) := by simp [ints]

def pts (s : ByteArray) : List Int := ptsD s s.size 0

def PtsPost (s : ByteArray) (B : Nat) (e : Ending) (w' : World) : Prop :=
  (vld s s.size 0 = true ∧ ∃ v, e = .returned (.tuple #[v, .bool true]) ∧ w'.ownsRow B 3 1 v (pts s).length (ints (pts s))) ∨
  (vld s s.size 0 = false ∧ e = .returned (.tuple #[.slice none 0 0, .bool false]))

theorem PtsPost.bad {s : ByteArray} {B : Nat} {w' : World} (h : vld s s.size 0 = false) : PtsPost s B (.returned (.tuple #[.slice none 0 0, .bool false])) w' := .inr ⟨h, rfl⟩
theorem PtsPost.good {s : ByteArray} {B f pos : Nat} {acc : List Int} {w' : World} {v : Value} (h : Way s f pos acc) (hp : ¬ pos < s.size) (hown : w'.ownsRow B 3 1 v acc.length (ints acc)) :
    PtsPost s B (.returned (.tuple #[v, .bool true])) w' := by
  obtain ⟨h1, h2⟩ := h.ends hp
  refine .inl ⟨h2, v, rfl, ?_⟩
  unfold pts
  rw [← h1]
  exact hown

/-- a round that has read one more -/
theorem own_snoc {w' : World} {B : Nat} {v : Value} {acc : List Int} {c : Int} (h : w'.ownsRow B 3 1 v (acc.length + 1) (ints acc ++ [.int .i64 c])) : w'.ownsRow B 3 1 v (acc ++ [c]).length (ints (acc ++ [c])) := by
  rw [ints_snoc] at h
  simpa using h

set_option maxRecDepth 100000 in
set_option maxHeartbeats 1000000 in
theorem ref_points (s : ByteArray) (w : World) (hs : s.size ≤ 200000) :
    Calls Tryz.prog 49 #[.string s] w fun e w' => PtsPost s w.heap.size e w' ∧ Below w.heap.size w w' := by
  obtain ⟨i0, hi, hz0, hz1, hz2⟩ := info_parts info3
  have hs' : s.size ≤ maxLen := by unfold maxLen; omega
  go_enter Tryz.func49, Tryz.ntmps49
  go_wp2
  go_loopw [4, 5, 6, 7] (fun v at' _ _ wr => ∃ (pos f : Nat) (acc : List Int), at' = .int .i64 pos ∧ wr.ownsRow w.heap.size 3 1 v acc.length (ints acc) ∧ Below w.heap.size w wr ∧ Way s f pos acc ∧ pos ≤ s.size + 4) (fun _ at' _ _ _ => s.size - (intOf at').toNat)
  case atStart =>
    exact ⟨0, s.size, [], rfl, World.ownsRow_lit (base := w.heap.size) (e := 3) (size := 1) w #[] 0 (Nat.le_refl _) (by unfold maxLen; omega) rfl, (Below.refl _ _).alloc (Nat.le_refl _) _, Way.start s, by omega⟩
  case round =>
    obtain ⟨pos, f, acc, rfl, hown, HB, HW, hpos⟩ := hrel
    have hBs := HB.size
    by_cases hp : pos < s.size
    · have hD := ref_decode s pos wr hs' hp
      have hl := HW.len
      have hbd := decode_bd s pos
      by_cases hc : (codeD s pos).2 = 0
      · have hv := Lib.hid (HW.bad hp hc)
        rw [hc] at hD
        clear hc
        go_wp2_with (go_at_call 66; refine hD.mono ?_; rintro e w1 ⟨rfl, hb1⟩)
        go_ret2
        exact ⟨PtsPost.bad hv.out, HB.trans (hb1.mono hBs)⟩
      · obtain ⟨g, rfl⟩ : ∃ g, f = g + 1 := ⟨f - 1, by have := HW.fuel; omega⟩
        have HW2 := HW.step hp hc
        rw [← codeD_eq hc] at hbd
        obtain ⟨hb1, hb2, hb3⟩ := hbd
        generalize (codeD s pos).1 = c at *
        generalize (codeD s pos).2 = n at *
        have q : ((n : Int) == 0) = false := by rw [beq_eq_false_iff_ne]; omega
        clear hc HW
        go_wp2_with (first
          | (go_at_call 66; refine hD.mono ?_; rintro e w1 ⟨rfl, hb1⟩; have hown1 := own_below hown hb1; have hsz1 := hb1.size)
          | (at_builtin; refine wpList_append_own _ rfl _ _ 87 rfl w.heap.size 3 i0 (.int .i64 0) 1 8 Tryz.underlying87 hi hz0 hz1 hz2 rfl (by decide) _ _ _ rfl (hown1.alloc _) ⟨w1.heap.size, 0, none⟩ 1 1 [.int .i64 c] rfl rfl (cell_one_new _ _ _) ?c2 ?c3 ?c4 ?c5 ?_))
        case c2 => intro u hu; simp at hu; subst hu; rfl
        case c3 => unfold maxLen; omega
        case c4 => omega
        case c5 => simp; omega
        intro v' w2 hown2 hg2 _
        have HB2 : Below w.heap.size w w2 := ((HB.trans (hb1.mono hBs)).alloc (by omega) _).grown hg2 (by simp; omega) (fun k hk => (hown1.lt k hk).1)
        go_wp2
        go_roundw
        case rel => exact ⟨pos + n, g, acc ++ [(c : Int)], by go_num, own_snoc hown2, HB2, HW2, by omega⟩
        case measure => simp [intOf]; omega
    · go_wp2
      go_ret2
      exact ⟨PtsPost.good HW hp hown, HB⟩

end Go.Proofs.YtlaagdpanbineaaGreatDoor

/- What the document's Points answers: a slice that reads as the text's code points. -/
namespace Go.Proofs.YtlaagdpanbineaaGreatDoor
open Go.RowKit

def PtsYes (s : ByteArray) (e : Ending) (w' : World) : Prop := ∃ A c, e = .returned (.tuple #[.slice A (pts s).length c, .bool true]) ∧ Rd w' A (pts s).length (pts s)

theorem PtsPost.yes {s : ByteArray} {B : Nat} {e : Ending} {w' : World} (h : PtsPost s B e w') (hv : vld s s.size 0 = true) : PtsYes s e w' := by
  rcases h with ⟨_, v, rfl, ho⟩ | ⟨h, _⟩
  · obtain ⟨A, c, rfl, hr⟩ := Rd.of_own ho
    exact ⟨A, c, rfl, hr⟩
  · rw [hv] at h; cases h
theorem PtsPost.no {s : ByteArray} {B : Nat} {e : Ending} {w' : World} (h : PtsPost s B e w') (hv : vld s s.size 0 = false) : e = .returned (.tuple #[.slice none 0 0, .bool false]) := by
  rcases h with ⟨h, _⟩ | ⟨_, h⟩
  · rw [hv] at h; cases h
  · exact h

theorem ptsD_len (s : ByteArray) : ∀ f pos, (ptsD s f pos).length ≤ f := by
  intro f
  induction f with
  | zero => intro pos; simp [ptsD]
  | succ f ih =>
    intro pos
    rw [ptsD]
    split
    · simp [ih]
    · simp
theorem pts_len (s : ByteArray) (hs : s.size ≤ 200000) : (pts s).length ≤ maxLen := by
  have := ptsD_len s s.size 0
  unfold pts maxLen
  omega

theorem ref_points_yes (s : ByteArray) (w : World) (hs : s.size ≤ 200000) (hv : vld s s.size 0 = true) :
    Calls Tryz.prog 49 #[.string s] w fun e w' => (∃ A c, e = .returned (.tuple #[.slice A (pts s).length c, .bool true]) ∧ Rd w' A (pts s).length (pts s)) ∧ Below w.heap.size w w' :=
  (ref_points s w hs).mono fun _ _ ⟨h, hb⟩ => ⟨h.yes hv, hb⟩
theorem ref_points_no (s : ByteArray) (w : World) (hs : s.size ≤ 200000) (hv : vld s s.size 0 = false) :
    Calls Tryz.prog 49 #[.string s] w fun e w' => e = .returned (.tuple #[.slice none 0 0, .bool false]) ∧ Below w.heap.size w w' :=
  (ref_points s w hs).mono fun _ _ ⟨h, hb⟩ => ⟨h.no hv, hb⟩

end Go.Proofs.YtlaagdpanbineaaGreatDoor

/- The document's Quote: what each call returns. -/
namespace Go.Proofs.YtlaagdpanbineaaGreatDoor
open Go.RowKit

theorem cvw (w : World) (z y : Int) :
    Sem.run Tryz.prog (convert 58 9 (.slice (some ⟨w.heap.size, 0, none⟩) 2 2)) (w.alloc (.cells #[.int .u8 z, .int .u8 y] 5)) =
      .ok (.string (strOfNums [z, y])) (w.alloc (.cells #[.int .u8 z, .int .u8 y] 5)) :=
  run_convert_bytes_arg (P := Tryz.prog) _ 58 5 Tryz.underlying58 Tryz.underlying5 w.heap.size 0 2 2 [z, y] rfl (fun i hi => by
    have hb := cell_of_row (w.alloc (.cells #[.int .u8 z, .int .u8 y] 5)) w.heap.size (0 + i) #[.int .u8 z, .int .u8 y] 5 (0, 0)
      (by have := heap_alloc_new w (.cells #[.int .u8 z, .int .u8 y] 5); simpa using this)
    rw [hb]
    match i, hi with
    | 0, _ => rfl
    | 1, _ => rfl) 9 Tryz.underlying9

/-- what is written after k code points -/
structure Ri (l : List Int) (k : Nat) (O : List UInt8) : Prop where
  eq : O = 34 :: bodyP (l.take k)
  len : O.length ≤ 6 * k + 1
theorem Ri.start (l : List Int) : Ri l 0 [34] := ⟨rfl, by simp⟩
theorem escP_len (r : Int) : (escP r).length ≤ 6 := by
  unfold escP
  split
  · exact escT_len _
  · rw [encB_len]; have := encZ_four r; omega
theorem Ri.step {l : List Int} {k : Nat} {O x : List UInt8} (h : Ri l k O) (hk : k < l.length) (hx : escP (l.getD k 0) = x) : Ri l (k + 1) (O ++ x) := by
  have e : l.getD k 0 = l[k] := by simp [List.getD, hk]
  have hl := escP_len (l.getD k 0)
  refine ⟨?_, ?_⟩
  · rw [h.eq, List.take_succ_eq_append_getElem hk, ← hx, e]
    unfold bodyP
    rw [List.flatMap_append]
    simp only [List.flatMap_cons, List.flatMap_nil, List.append_nil, List.cons_append]
  · rw [List.length_append, ← hx]
    have := h.len
    omega

def rquoteV : Option (List UInt8) → Value
  | some x => .tuple #[.string ⟨x.toArray⟩, .bool true]
  | none => .tuple #[.string ⟨#[]⟩, .bool false]

set_option maxRecDepth 100000 in
set_option maxHeartbeats 400000 in
theorem rquote_bad (s : ByteArray) (w : World) (hs : s.size ≤ 200000) (hv : vld s s.size 0 = false) :
    Calls Tryz.prog 27 #[.string s] w fun e w' => e = .returned (rquoteV none) ∧ Below w.heap.size w w' := by
  have hP := ref_points_no s w hs hv
  simp only [rquoteV]
  clear hv
  go_enter Tryz.func27, Tryz.ntmps27
  go_wp2_with (go_at_call 49; refine hP.mono ?_; rintro e w1 ⟨rfl, hb1⟩)
  go_ret2
  exact ⟨rfl, hb1⟩

theorem app_size (s t : ByteArray) : (s ++ t).size = s.size + t.size := ByteArray.size_append
theorem app_lst (s t : ByteArray) : (s ++ t).data.toList = s.data.toList ++ t.data.toList := by rw [ByteArray.data_append, Array.toList_append]
theorem escP_low {n : Nat} (h : n < 128) : escP (n : Int) = if escB n = [] then [UInt8.ofNat n] else escB n := by
  have hn : (UInt8.ofNat (n : Int).toNat).toNat = n := by simp; omega
  unfold escP
  rw [if_pos (by omega)]
  unfold escT
  rw [hn]
  rfl
theorem escP_plain {r : Int} (h : isPt r) (h32 : 32 ≤ r) (h34 : r ≠ 34) (h92 : r ≠ 92) : escP r = encB r := by
  by_cases h1 : r < 128
  · obtain ⟨n, rfl⟩ := Int.eq_ofNat_of_zero_le (by omega : 0 ≤ r)
    have e : escB n = [] := by
      unfold escB
      repeat rw [if_neg (by omega)]
    rw [escP_low (by omega), e, if_pos rfl, encB_one h1]
    rfl
  · unfold escP
    rw [if_neg h1]

def hexS : ByteArray := ⟨#[48, 49, 50, 51, 52, 53, 54, 55, 56, 57, 97, 98, 99, 100, 101, 102]⟩
theorem below_drewM {B : Nat} {a w : World} (h : Below B a w) (d : Nat) : Below B a (w.drewN d) := ⟨h.os, h.tape, h.output, h.size, h.block⟩
theorem hex_cut : ∀ n : Fin 16, (hexS.extract n.val (n.val + 1)).data.toList = [hexd n.val] := by decide +kernel

set_option maxRecDepth 100000 in
set_option maxHeartbeats 8000000 in
theorem rquote_good (s : ByteArray) (w : World) (hs : s.size ≤ 200000) (hv : vld s s.size 0 = true) :
    Calls Tryz.prog 27 #[.string s] w fun e w' => e = .returned (rquoteV (some (quoteL s.data.toList))) ∧ Below w.heap.size w w' := by
  have hP := ref_points_yes s w hs hv
  obtain ⟨_, hpt⟩ := vd_pts hv
  have HPT : Hid (∀ r ∈ pts s, isPt r) := hpt
  have HQ : Hid (quoteL s.data.toList = 34 :: (bodyP (pts s) ++ [34])) := quote_pts hv
  have hpl : (pts s).length ≤ 200000 := by have := ptsD_len s s.size 0; unfold pts; omega
  have hcv := cvw
  simp only [rquoteV]
  clear hv hpt
  generalize pts s = l at *
  generalize hn : l.length = n at *
  have HN := Lib.hid hn
  clear hn
  go_enter Tryz.func27, Tryz.ntmps27
  go_wp2_with fail
  refine hP.mono ?_
  rintro e w1 ⟨⟨A, c, rfl, hrd⟩, hb1⟩
  have HRD := Lib.hid hrd
  have HB1 := Lib.hid hb1
  clear hP hrd hb1
  go_wp2
  go_loopw [6, 8, 9, 19, 27, 40, 45, 50, 55, 60, 65] (fun out _ _ i _ _ _ _ _ _ _ wr => ∃ (k : Nat) (O : ByteArray), out = .string O ∧ i = .int .i64 k ∧ k ≤ n ∧ Hid (Ri l k O.data.toList) ∧ Below w1.heap.size w1 wr) (fun _ _ _ i _ _ _ _ _ _ _ _ => n - (intOf i).toNat)
  case atStart => exact ⟨0, ⟨#[34]⟩, rfl, rfl, by omega, Ri.start l, Below.refl _ _⟩
  case round =>
    obtain ⟨k, O, rfl, rfl, hk, HR, HB⟩ := hrel
    have hos := HR.out.len
    rw [size_list] at hos
    have hBs := HB.size
    by_cases hlt : k < n
    · rcases HRD.out.2 with h0 | ⟨b, off, rfl, hbl, hcell⟩
      · exfalso; omega
      · have hkl : k < l.length := by have := HN.out; omega
        have c1 : wr.cell? ⟨b, off + k, none⟩ = some (.int .i64 (l.getD k 0)) := (HB.cell (p := ⟨b, off + k, none⟩) hbl).trans (hcell k hlt)
        have hpr : isPt (l.getD k 0) := HPT.out _ (by simp [List.getD, hkl])
        have HST := Lib.hid (fun x hx => HR.out.step hkl (x := x) hx)
        clear hcell
        generalize l.getD k 0 = r at *
        have hr0 : 0 ≤ r := by unfold isPt at hpr; omega
        have hr1 : r ≤ 1114111 := by unfold isPt at hpr; omega
        by_cases h32 : 32 ≤ r
        · by_cases h34 : r = 34
          · subst h34
            have HX : Hid (Ri l (k + 1) (O ++ strOfNums [92, 34]).data.toList) := by rw [app_lst]; exact HST.out _ rfl
            have hz : (strOfNums [92, 34]).size = 2 := by rw [strOfNums_size]; rfl
            clear hpr HST
            go_wp2
            go_roundw
            case rel => exact ⟨k + 1, _, rfl, by go_num, by omega, HX, by first | exact HB | exact HB.alloc hBs _⟩
            case measure => simp [intOf]; omega
          · by_cases h92 : r = 92
            · subst h92
              have HX : Hid (Ri l (k + 1) (O ++ strOfNums [92, 92]).data.toList) := by rw [app_lst]; exact HST.out _ rfl
              have hz : (strOfNums [92, 92]).size = 2 := by rw [strOfNums_size]; rfl
              clear hpr HST
              go_wp2
              go_roundw
              case rel => exact ⟨k + 1, _, rfl, by go_num, by omega, HX, by first | exact HB | exact HB.alloc hBs _⟩
              case measure => simp [intOf]; omega
            · have hen := fun w => ref_encode_yes r w hpr
              have HX : Hid (Ri l (k + 1) (O ++ strOfNums (encZ r)).data.toList) := by rw [app_lst]; exact HST.out _ (escP_plain hpr h32 h34 h92)
              have hz : (strOfNums (encZ r)).size ≤ 4 := by rw [strOfNums_size]; exact encZ_four _
              have q1 : (r == 34) = false := by simp; omega
              have q2 : (r == 92) = false := by simp; omega
              have q3 : (r == 8) = false := by simp; omega
              have q4 : (r == 9) = false := by simp; omega
              have q5 : (r == 10) = false := by simp; omega
              have q6 : (r == 12) = false := by simp; omega
              have q7 : (r == 13) = false := by simp; omega
              clear hpr HST h34 h92
              generalize strOfNums (encZ r) = t at *
              go_wp2_with fail
              refine (hen _).mono ?_
              rintro e w2 ⟨rfl, hb2⟩
              clear hen
              go_wp2
              go_roundw
              case rel => exact ⟨k + 1, _, rfl, by go_num, by omega, HX, HB.trans (hb2.mono hBs)⟩
              case measure => simp [intOf]; omega
        · obtain ⟨m, rfl⟩ := Int.eq_ofNat_of_zero_le hr0
          have hm : m = 0 ∨ m = 1 ∨ m = 2 ∨ m = 3 ∨ m = 4 ∨ m = 5 ∨ m = 6 ∨ m = 7 ∨ m = 8 ∨ m = 9 ∨ m = 10 ∨ m = 11 ∨ m = 12 ∨ m = 13 ∨ m = 14 ∨ m = 15 ∨ m = 16 ∨ m = 17 ∨ m = 18 ∨ m = 19 ∨ m = 20 ∨ m = 21 ∨ m = 22 ∨ m = 23 ∨ m = 24 ∨ m = 25 ∨ m = 26 ∨ m = 27 ∨ m = 28 ∨ m = 29 ∨ m = 30 ∨ m = 31 := by omega
          clear hr0 hr1 h32 hpr
          rcases hm with rfl | rfl | rfl | rfl | rfl | rfl | rfl | rfl | rfl | rfl | rfl | rfl | rfl | rfl | rfl | rfl | rfl | rfl | rfl | rfl | rfl | rfl | rfl | rfl | rfl | rfl | rfl | rfl | rfl | rfl | rfl | rfl
          · have HX : Hid (Ri l (k + 1) (O ++ ⟨#[92, 117, 48, 48, 48, 48]⟩).data.toList) := by rw [app_lst]; exact HST.out _ rfl
            clear HST
            go_wp2
            go_quiet (fail)
            go_wp2
            go_roundw
            case rel => exact ⟨k + 1, _, rfl, by go_num, by omega, HX, by first | exact HB | exact below_drewM HB _⟩
            case measure => simp [intOf]; omega
          · have HX : Hid (Ri l (k + 1) (O ++ ⟨#[92, 117, 48, 48, 48, 49]⟩).data.toList) := by rw [app_lst]; exact HST.out _ rfl
            clear HST
            go_wp2
            go_quiet (fail)
            go_wp2
            go_roundw
            case rel => exact ⟨k + 1, _, rfl, by go_num, by omega, HX, by first | exact HB | exact below_drewM HB _⟩
            case measure => simp [intOf]; omega
          · have HX : Hid (Ri l (k + 1) (O ++ ⟨#[92, 117, 48, 48, 48, 50]⟩).data.toList) := by rw [app_lst]; exact HST.out _ rfl
            clear HST
            go_wp2
            go_quiet (fail)
            go_wp2
            go_roundw
            case rel => exact ⟨k + 1, _, rfl, by go_num, by omega, HX, by first | exact HB | exact below_drewM HB _⟩
            case measure => simp [intOf]; omega
          · have HX : Hid (Ri l (k + 1) (O ++ ⟨#[92, 117, 48, 48, 48, 51]⟩).data.toList) := by rw [app_lst]; exact HST.out _ rfl
            clear HST
            go_wp2
            go_quiet (fail)
            go_wp2
            go_roundw
            case rel => exact ⟨k + 1, _, rfl, by go_num, by omega, HX, by first | exact HB | exact below_drewM HB _⟩
            case measure => simp [intOf]; omega
          · have HX : Hid (Ri l (k + 1) (O ++ ⟨#[92, 117, 48, 48, 48, 52]⟩).data.toList) := by rw [app_lst]; exact HST.out _ rfl
            clear HST
            go_wp2
            go_quiet (fail)
            go_wp2
            go_roundw
            case rel => exact ⟨k + 1, _, rfl, by go_num, by omega, HX, by first | exact HB | exact below_drewM HB _⟩
            case measure => simp [intOf]; omega
          · have HX : Hid (Ri l (k + 1) (O ++ ⟨#[92, 117, 48, 48, 48, 53]⟩).data.toList) := by rw [app_lst]; exact HST.out _ rfl
            clear HST
            go_wp2
            go_quiet (fail)
            go_wp2
            go_roundw
            case rel => exact ⟨k + 1, _, rfl, by go_num, by omega, HX, by first | exact HB | exact below_drewM HB _⟩
            case measure => simp [intOf]; omega
          · have HX : Hid (Ri l (k + 1) (O ++ ⟨#[92, 117, 48, 48, 48, 54]⟩).data.toList) := by rw [app_lst]; exact HST.out _ rfl
            clear HST
            go_wp2
            go_quiet (fail)
            go_wp2
            go_roundw
            case rel => exact ⟨k + 1, _, rfl, by go_num, by omega, HX, by first | exact HB | exact below_drewM HB _⟩
            case measure => simp [intOf]; omega
          · have HX : Hid (Ri l (k + 1) (O ++ ⟨#[92, 117, 48, 48, 48, 55]⟩).data.toList) := by rw [app_lst]; exact HST.out _ rfl
            clear HST
            go_wp2
            go_quiet (fail)
            go_wp2
            go_roundw
            case rel => exact ⟨k + 1, _, rfl, by go_num, by omega, HX, by first | exact HB | exact below_drewM HB _⟩
            case measure => simp [intOf]; omega
          · have HX : Hid (Ri l (k + 1) (O ++ ⟨#[92, 98]⟩).data.toList) := by rw [app_lst]; exact HST.out _ rfl
            clear HST
            go_wp2
            go_roundw
            case rel => exact ⟨k + 1, _, rfl, by go_num, by omega, HX, by first | exact HB | exact below_drewM HB _⟩
            case measure => simp [intOf]; omega
          · have HX : Hid (Ri l (k + 1) (O ++ ⟨#[92, 116]⟩).data.toList) := by rw [app_lst]; exact HST.out _ rfl
            clear HST
            go_wp2
            go_roundw
            case rel => exact ⟨k + 1, _, rfl, by go_num, by omega, HX, by first | exact HB | exact below_drewM HB _⟩
            case measure => simp [intOf]; omega
          · have HX : Hid (Ri l (k + 1) (O ++ ⟨#[92, 110]⟩).data.toList) := by rw [app_lst]; exact HST.out _ rfl
            clear HST
            go_wp2
            go_roundw
            case rel => exact ⟨k + 1, _, rfl, by go_num, by omega, HX, by first | exact HB | exact below_drewM HB _⟩
            case measure => simp [intOf]; omega
          · have HX : Hid (Ri l (k + 1) (O ++ ⟨#[92, 117, 48, 48, 48, 98]⟩).data.toList) := by rw [app_lst]; exact HST.out _ rfl
            clear HST
            go_wp2
            go_quiet (fail)
            go_wp2
            go_roundw
            case rel => exact ⟨k + 1, _, rfl, by go_num, by omega, HX, by first | exact HB | exact below_drewM HB _⟩
            case measure => simp [intOf]; omega
          · have HX : Hid (Ri l (k + 1) (O ++ ⟨#[92, 102]⟩).data.toList) := by rw [app_lst]; exact HST.out _ rfl
            clear HST
            go_wp2
            go_roundw
            case rel => exact ⟨k + 1, _, rfl, by go_num, by omega, HX, by first | exact HB | exact below_drewM HB _⟩
            case measure => simp [intOf]; omega
          · have HX : Hid (Ri l (k + 1) (O ++ ⟨#[92, 114]⟩).data.toList) := by rw [app_lst]; exact HST.out _ rfl
            clear HST
            go_wp2
            go_roundw
            case rel => exact ⟨k + 1, _, rfl, by go_num, by omega, HX, by first | exact HB | exact below_drewM HB _⟩
            case measure => simp [intOf]; omega
          · have HX : Hid (Ri l (k + 1) (O ++ ⟨#[92, 117, 48, 48, 48, 101]⟩).data.toList) := by rw [app_lst]; exact HST.out _ rfl
            clear HST
            go_wp2
            go_quiet (fail)
            go_wp2
            go_roundw
            case rel => exact ⟨k + 1, _, rfl, by go_num, by omega, HX, by first | exact HB | exact below_drewM HB _⟩
            case measure => simp [intOf]; omega
          · have HX : Hid (Ri l (k + 1) (O ++ ⟨#[92, 117, 48, 48, 48, 102]⟩).data.toList) := by rw [app_lst]; exact HST.out _ rfl
            clear HST
            go_wp2
            go_quiet (fail)
            go_wp2
            go_roundw
            case rel => exact ⟨k + 1, _, rfl, by go_num, by omega, HX, by first | exact HB | exact below_drewM HB _⟩
            case measure => simp [intOf]; omega
          · have HX : Hid (Ri l (k + 1) (O ++ ⟨#[92, 117, 48, 48, 49, 48]⟩).data.toList) := by rw [app_lst]; exact HST.out _ rfl
            clear HST
            go_wp2
            go_quiet (fail)
            go_wp2
            go_roundw
            case rel => exact ⟨k + 1, _, rfl, by go_num, by omega, HX, by first | exact HB | exact below_drewM HB _⟩
            case measure => simp [intOf]; omega
          · have HX : Hid (Ri l (k + 1) (O ++ ⟨#[92, 117, 48, 48, 49, 49]⟩).data.toList) := by rw [app_lst]; exact HST.out _ rfl
            clear HST
            go_wp2
            go_quiet (fail)
            go_wp2
            go_roundw
            case rel => exact ⟨k + 1, _, rfl, by go_num, by omega, HX, by first | exact HB | exact below_drewM HB _⟩
            case measure => simp [intOf]; omega
          · have HX : Hid (Ri l (k + 1) (O ++ ⟨#[92, 117, 48, 48, 49, 50]⟩).data.toList) := by rw [app_lst]; exact HST.out _ rfl
            clear HST
            go_wp2
            go_quiet (fail)
            go_wp2
            go_roundw
            case rel => exact ⟨k + 1, _, rfl, by go_num, by omega, HX, by first | exact HB | exact below_drewM HB _⟩
            case measure => simp [intOf]; omega
          · have HX : Hid (Ri l (k + 1) (O ++ ⟨#[92, 117, 48, 48, 49, 51]⟩).data.toList) := by rw [app_lst]; exact HST.out _ rfl
            clear HST
            go_wp2
            go_quiet (fail)
            go_wp2
            go_roundw
            case rel => exact ⟨k + 1, _, rfl, by go_num, by omega, HX, by first | exact HB | exact below_drewM HB _⟩
            case measure => simp [intOf]; omega
          · have HX : Hid (Ri l (k + 1) (O ++ ⟨#[92, 117, 48, 48, 49, 52]⟩).data.toList) := by rw [app_lst]; exact HST.out _ rfl
            clear HST
            go_wp2
            go_quiet (fail)
            go_wp2
            go_roundw
            case rel => exact ⟨k + 1, _, rfl, by go_num, by omega, HX, by first | exact HB | exact below_drewM HB _⟩
            case measure => simp [intOf]; omega
          · have HX : Hid (Ri l (k + 1) (O ++ ⟨#[92, 117, 48, 48, 49, 53]⟩).data.toList) := by rw [app_lst]; exact HST.out _ rfl
            clear HST
            go_wp2
            go_quiet (fail)
            go_wp2
            go_roundw
            case rel => exact ⟨k + 1, _, rfl, by go_num, by omega, HX, by first | exact HB | exact below_drewM HB _⟩
            case measure => simp [intOf]; omega
          · have HX : Hid (Ri l (k + 1) (O ++ ⟨#[92, 117, 48, 48, 49, 54]⟩).data.toList) := by rw [app_lst]; exact HST.out _ rfl
            clear HST
            go_wp2
            go_quiet (fail)
            go_wp2
            go_roundw
            case rel => exact ⟨k + 1, _, rfl, by go_num, by omega, HX, by first | exact HB | exact below_drewM HB _⟩
            case measure => simp [intOf]; omega
          · have HX : Hid (Ri l (k + 1) (O ++ ⟨#[92, 117, 48, 48, 49, 55]⟩).data.toList) := by rw [app_lst]; exact HST.out _ rfl
            clear HST
            go_wp2
            go_quiet (fail)
            go_wp2
            go_roundw
            case rel => exact ⟨k + 1, _, rfl, by go_num, by omega, HX, by first | exact HB | exact below_drewM HB _⟩
            case measure => simp [intOf]; omega
          · have HX : Hid (Ri l (k + 1) (O ++ ⟨#[92, 117, 48, 48, 49, 56]⟩).data.toList) := by rw [app_lst]; exact HST.out _ rfl
            clear HST
            go_wp2
            go_quiet (fail)
            go_wp2
            go_roundw
            case rel => exact ⟨k + 1, _, rfl, by go_num, by omega, HX, by first | exact HB | exact below_drewM HB _⟩
            case measure => simp [intOf]; omega
          · have HX : Hid (Ri l (k + 1) (O ++ ⟨#[92, 117, 48, 48, 49, 57]⟩).data.toList) := by rw [app_lst]; exact HST.out _ rfl
            clear HST
            go_wp2
            go_quiet (fail)
            go_wp2
            go_roundw
            case rel => exact ⟨k + 1, _, rfl, by go_num, by omega, HX, by first | exact HB | exact below_drewM HB _⟩
            case measure => simp [intOf]; omega
          · have HX : Hid (Ri l (k + 1) (O ++ ⟨#[92, 117, 48, 48, 49, 97]⟩).data.toList) := by rw [app_lst]; exact HST.out _ rfl
            clear HST
            go_wp2
            go_quiet (fail)
            go_wp2
            go_roundw
            case rel => exact ⟨k + 1, _, rfl, by go_num, by omega, HX, by first | exact HB | exact below_drewM HB _⟩
            case measure => simp [intOf]; omega
          · have HX : Hid (Ri l (k + 1) (O ++ ⟨#[92, 117, 48, 48, 49, 98]⟩).data.toList) := by rw [app_lst]; exact HST.out _ rfl
            clear HST
            go_wp2
            go_quiet (fail)
            go_wp2
            go_roundw
            case rel => exact ⟨k + 1, _, rfl, by go_num, by omega, HX, by first | exact HB | exact below_drewM HB _⟩
            case measure => simp [intOf]; omega
          · have HX : Hid (Ri l (k + 1) (O ++ ⟨#[92, 117, 48, 48, 49, 99]⟩).data.toList) := by rw [app_lst]; exact HST.out _ rfl
            clear HST
            go_wp2
            go_quiet (fail)
            go_wp2
            go_roundw
            case rel => exact ⟨k + 1, _, rfl, by go_num, by omega, HX, by first | exact HB | exact below_drewM HB _⟩
            case measure => simp [intOf]; omega
          · have HX : Hid (Ri l (k + 1) (O ++ ⟨#[92, 117, 48, 48, 49, 100]⟩).data.toList) := by rw [app_lst]; exact HST.out _ rfl
            clear HST
            go_wp2
            go_quiet (fail)
            go_wp2
            go_roundw
            case rel => exact ⟨k + 1, _, rfl, by go_num, by omega, HX, by first | exact HB | exact below_drewM HB _⟩
            case measure => simp [intOf]; omega
          · have HX : Hid (Ri l (k + 1) (O ++ ⟨#[92, 117, 48, 48, 49, 101]⟩).data.toList) := by rw [app_lst]; exact HST.out _ rfl
            clear HST
            go_wp2
            go_quiet (fail)
            go_wp2
            go_roundw
            case rel => exact ⟨k + 1, _, rfl, by go_num, by omega, HX, by first | exact HB | exact below_drewM HB _⟩
            case measure => simp [intOf]; omega
          · have HX : Hid (Ri l (k + 1) (O ++ ⟨#[92, 117, 48, 48, 49, 102]⟩).data.toList) := by rw [app_lst]; exact HST.out _ rfl
            clear HST
            go_wp2
            go_quiet (fail)
            go_wp2
            go_roundw
            case rel => exact ⟨k + 1, _, rfl, by go_num, by omega, HX, by first | exact HB | exact below_drewM HB _⟩
            case measure => simp [intOf]; omega
    · have HF : Hid ((⟨(quoteL s.data.toList).toArray⟩ : ByteArray) = O ++ ⟨#[34]⟩) := by
        have hkn : k = n := by omega
        have e := HR.out.eq
        rw [List.take_of_length_le (by have := HN.out; omega)] at e
        refine ba_eq ?_
        rw [toBA, app_lst, HQ.out, e]
        rfl
      go_wp2
      go_ret2
      exact ⟨by rw [HF.out]; rfl, HB1.out.trans (HB.mono HB1.out.size)⟩

end Go.Proofs.YtlaagdpanbineaaGreatDoor

