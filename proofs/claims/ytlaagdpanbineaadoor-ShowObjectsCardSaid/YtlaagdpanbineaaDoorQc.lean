/- What a text's string is, byte by byte and code point by code point; it is read back: plain mathematics. -/
import Derived.Test.YtlaagdpanbineaaDoorQb
import Derived.Shelf.Strings.Builder1
import Derived.Test.YtlaagdpanbineaaDoorProg
import Derived.Test.YtlaagdpanbineaaDoorNc
import Derived.PinnedBridge
import Derived.Lib.LaidU8
import Derived.LaidMore
import Derived.MakeChecks
import Derived.Deep.QuietTactic
import Derived.BigQuiet
namespace Go.Proofs.YtlaagdpanbineaaDoor

def hexd (n : Nat) : UInt8 := if n < 10 then UInt8.ofNat (48 + n) else UInt8.ofNat (87 + n)
/-- what stands for a byte in a string; [] : it stands for itself -/
def escB (c : Nat) : List UInt8 := if c = 34 then [92, 34] else if c = 92 then [92, 92] else if c = 8 then [92, 98] else if c = 9 then [92, 116] else if c = 10 then [92, 110]
  else if c = 12 then [92, 102] else if c = 13 then [92, 114] else if c < 32 then [92, 117, 48, 48, hexd (c / 16), hexd (c % 16)] else []
def escT (c : UInt8) : List UInt8 := if escB c.toNat = [] then [c] else escB c.toNat
def bodyT (l : List UInt8) : List UInt8 := l.flatMap escT
def quoteL (l : List UInt8) : List UInt8 := 34 :: (bodyT l ++ [34])

theorem escB_big {c : Nat} (h : 93 ≤ c) : escB c = [] := by
  unfold escB
  repeat rw [if_neg (by omega)]
theorem escB_len (c : Nat) : (escB c).length ≤ 6 := by
  unfold escB
  repeat' split
  all_goals simp
theorem escT_len (c : UInt8) : (escT c).length ≤ 6 := by
  unfold escT
  split
  · simp
  · exact escB_len _
theorem bodyT_len (l : List UInt8) : (bodyT l).length ≤ 6 * l.length := by
  unfold bodyT
  induction l with
  | nil => simp
  | cons c l ih =>
    have := escT_len c
    simp only [List.flatMap_cons, List.length_append, List.length_cons]
    omega
theorem bodyT_append (l m : List UInt8) : bodyT (l ++ m) = bodyT l ++ bodyT m := by simp [bodyT]

/-- what stands for a code point -/
def escP (r : Int) : List UInt8 := if r < 128 then escT (UInt8.ofNat r.toNat) else encB r
def bodyP (l : List Int) : List UInt8 := l.flatMap escP

theorem flat_self : ∀ l : List UInt8, (∀ c ∈ l, escB c.toNat = []) → bodyT l = l
  | [], _ => rfl
  | c :: l, h => by
    have h1 : escT c = [c] := by unfold escT; rw [if_pos (h c (by simp))]
    show escT c ++ bodyT l = _
    rw [h1, flat_self l (fun d hd => h d (by simp [hd]))]
    rfl
theorem bodyT_enc {r : Int} (h : isPt r) : bodyT (encB r) = escP r := by
  have hb : 0 ≤ r := by unfold isPt at h; omega
  unfold escP
  by_cases h1 : r < 128
  · rw [if_pos h1, encB_one h1]
    simp [bodyT]
  · rw [if_neg h1]
    exact flat_self _ (fun c hc => escB_big (by have := encB_big h (by omega) c hc; omega))
theorem bodyT_pts : ∀ l : List Int, (∀ r ∈ l, isPt r) → bodyT (encLB l) = bodyP l
  | [], _ => rfl
  | r :: l, h => by
    rw [encLB_cons, bodyT_append, bodyT_enc (h r (by simp)), bodyT_pts l (fun q hq => h q (by simp [hq]))]
    rfl

theorem low_hex : ∀ c : Fin 32, hex4 48 48 (hexd (c.val / 16)) (hexd (c.val % 16)) = some c.val := by decide +kernel
theorem escP_piece {r : Int} (h : isPt r) : Piece (escP r) r := by
  have hb : 0 ≤ r := by unfold isPt at h; omega
  unfold escP
  by_cases h1 : r < 128
  · rw [if_pos h1]
    obtain ⟨n, rfl⟩ := Int.eq_ofNat_of_zero_le hb
    have hn : (UInt8.ofNat (n : Int).toNat).toNat = n := by simp; omega
    unfold escT
    rw [hn]
    by_cases e1 : n = 34
    · subst e1; exact .letter 34 34 rfl
    by_cases e2 : n = 92
    · subst e2; exact .letter 92 92 rfl
    by_cases e3 : n = 8
    · subst e3; exact .letter 98 8 rfl
    by_cases e4 : n = 9
    · subst e4; exact .letter 116 9 rfl
    by_cases e5 : n = 10
    · subst e5; exact .letter 110 10 rfl
    by_cases e6 : n = 12
    · subst e6; exact .letter 102 12 rfl
    by_cases e7 : n = 13
    · subst e7; exact .letter 114 13 rfl
    by_cases e8 : n < 32
    · have e : escB n = [92, 117, 48, 48, hexd (n / 16), hexd (n % 16)] := by
        unfold escB
        rw [if_neg e1, if_neg e2, if_neg e3, if_neg e4, if_neg e5, if_neg e6, if_neg e7, if_pos e8]
      rw [e, if_neg (by simp)]
      exact .unit 48 48 _ _ n (low_hex ⟨n, e8⟩) h
    · have e : escB n = [] := by
        unfold escB
        rw [if_neg e1, if_neg e2, if_neg e3, if_neg e4, if_neg e5, if_neg e6, if_neg e7, if_neg e8]
      rw [e, if_pos rfl]
      have e9 : [UInt8.ofNat (n : Int).toNat] = encB n := (encB_one h1).symm
      rw [e9]
      exact .plain n h (by omega) (by omega) (by omega)
  · rw [if_neg h1]
    exact .plain r h (by omega) (by omega) (by omega)
theorem bodyP_body : ∀ l : List Int, (∀ r ∈ l, isPt r) → Body (bodyP l) l
  | [], _ => .nil
  | r :: l, h => .cons (escP_piece (h r (by simp))) (bodyP_body l (fun q hq => h q (by simp [hq])))

/-! ### valid texts -/
theorem vld_pts (s : ByteArray) : ∀ (f pos : Nat), s.size ≤ pos + f → vld s f pos = true → s.data.toList.drop pos = encLB (ptsD s f pos) ∧ ∀ r ∈ ptsD s f pos, isPt r
  | 0, pos, hf, _ => by
    have : s.data.toList.drop pos = [] := by rw [List.drop_eq_nil_iff, size_list]; omega
    rw [this]
    exact ⟨rfl, fun r hr => by simp [ptsD] at hr⟩
  | f + 1, pos, hf, hv => by
    by_cases hp : pos < s.size
    · rw [vld, if_pos hp] at hv
      by_cases hc : (Utf8.decode s pos).1 = 65533 ∧ (Utf8.decode s pos).2 = 1
      · rw [if_pos hc] at hv; cases hv
      · rw [if_neg hc] at hv
        have h0 : ¬ (codeD s pos).2 = 0 := fun x => hc (codeD_zero.2 x)
        have hbd := decode_bd s pos
        rw [← codeD_eq h0] at hv hbd
        have hl := drop_len (s := s) (a := pos) rfl
        have hne : s.data.toList.drop pos ≠ [] := by intro e; rw [e] at hl; simp at hl; omega
        have hps := codeD_drop s pos
        rw [hps] at h0 hbd hv
        obtain ⟨h1, h2, h3⟩ := plain_some hne (r := (plainL (s.data.toList.drop pos)).1) (n := (plainL (s.data.toList.drop pos)).2) rfl h0
        obtain ⟨i1, i2⟩ := vld_pts s f _ (by omega) hv
        rw [ptsD, if_pos hp, ← codeD_eq (by rw [hps]; exact h0), hps]
        refine ⟨?_, ?_⟩
        · rw [encLB_cons, ← i1, ← List.drop_drop]; exact h2
        · intro r hr
          rcases List.mem_cons.1 hr with rfl | hr
          · exact h1
          · exact i2 r hr
    · have : s.data.toList.drop pos = [] := by rw [List.drop_eq_nil_iff, size_list]; omega
      rw [this, ptsD, if_neg hp]
      exact ⟨rfl, fun r hr => by simp at hr⟩

theorem vld_of (s : ByteArray) : ∀ (l : List Int) (f pos : Nat), (∀ r ∈ l, isPt r) → s.data.toList.drop pos = encLB l → s.size ≤ pos + f → vld s f pos = true
  | [], f, pos, _, hd, _ => by
    have hl := drop_len hd
    exact vld_end s f pos (by simp [encLB] at hl; omega)
  | r :: l, 0, pos, _, hd, hf => vld_end s 0 pos (by omega)
  | r :: l, f + 1, pos, h, hd, hf => by
    have hl := drop_len hd
    have hr := h r (by simp)
    have hpos := encZ_pos r
    rw [← encB_len] at hpos
    rw [encLB_cons] at hd hl
    rw [List.length_append] at hl
    have hp : pos < s.size := by omega
    obtain ⟨h1, h2⟩ := plain_enc hr (encLB l)
    rw [← hd, ← codeD_drop] at h1 h2
    have h0 : ¬ (codeD s pos).2 = 0 := by omega
    have hc : ¬ ((Utf8.decode s pos).1 = 65533 ∧ (Utf8.decode s pos).2 = 1) := fun x => h0 (codeD_zero.1 x)
    rw [vld, if_pos hp, if_neg hc, ← codeD_eq h0, h2]
    refine vld_of s l f _ (fun q hq => h q (by simp [hq])) ?_ (by omega)
    rw [← List.drop_drop, hd, List.drop_left]

/-- a text is valid -/
def Vd (s : ByteArray) : Prop := vld s s.size 0 = true
theorem vd_pts {s : ByteArray} (h : vld s s.size 0 = true) : s.data.toList = encLB (ptsD s s.size 0) ∧ ∀ r ∈ ptsD s s.size 0, isPt r := by
  have := vld_pts s s.size 0 (by omega) h
  rwa [List.drop_zero] at this
theorem vd_of {s : ByteArray} {l : List Int} (h : ∀ r ∈ l, isPt r) (hs : s.data.toList = encLB l) : vld s s.size 0 = true :=
  vld_of s l s.size 0 h (by rw [List.drop_zero]; exact hs) (by omega)

/-- what is quoted is read back -/
theorem quote_back {s : ByteArray} (h : vld s s.size 0 = true) : takeL (quoteL s.data.toList) = some (s.data.toList, (quoteL s.data.toList).length) := by
  obtain ⟨h1, h2⟩ := vd_pts h
  have hq : quoteL s.data.toList = 34 :: (bodyP (ptsD s s.size 0) ++ [34]) := by
    unfold quoteL
    rw [h1, bodyT_pts _ h2]
  rw [hq, takeL_body (bodyP_body _ h2) [], ← h1]
  simp
theorem quote_pts {s : ByteArray} (h : vld s s.size 0 = true) : quoteL s.data.toList = 34 :: (bodyP (ptsD s s.size 0) ++ [34]) := by
  obtain ⟨h1, h2⟩ := vd_pts h
  unfold quoteL
  rw [h1, bodyT_pts _ h2]

/-- a text that needs no "\" -/
theorem self_of : ∀ l : List UInt8, bodyT l = l → ∀ c ∈ l, escB c.toNat = []
  | [], _, c, hc => by simp at hc
  | c :: l, h, d, hd => by
    have hlen : ∀ m : List UInt8, m.length ≤ (bodyT m).length := fun m => by
      induction m with
      | nil => simp [bodyT]
      | cons x m ih =>
        show _ ≤ (escT x ++ bodyT m).length
        have : 1 ≤ (escT x).length := by
          unfold escT
          split
          · simp
          · rename_i hne
            exact List.length_pos_iff.2 hne
        rw [List.length_append, List.length_cons]; omega
    have h1 : escT c ++ bodyT l = c :: l := h
    have hl := congrArg List.length h1
    rw [List.length_append, List.length_cons] at hl
    have := hlen l
    by_cases he : escB c.toNat = []
    · have e : escT c = [c] := by unfold escT; rw [if_pos he]
      rw [e] at h1
      simp only [List.cons_append, List.nil_append, List.cons.injEq, true_and] at h1
      rcases List.mem_cons.1 hd with rfl | hd
      · exact he
      · exact self_of l h1 d hd
    · have e : escT c = escB c.toNat := by unfold escT; rw [if_neg he]
      have h2 : 2 ≤ (escB c.toNat).length := by
        unfold escB at he ⊢
        repeat' split
        all_goals first | (simp; done) | (exfalso; apply he; repeat rw [if_neg (by assumption)])
      rw [e] at hl
      omega
theorem quote_self (l : List UInt8) : quoteL l = 34 :: (l ++ [34]) ↔ ∀ c ∈ l, escB c.toNat = [] := by
  unfold quoteL
  constructor
  · intro h
    simp only [List.cons.injEq, true_and] at h
    exact self_of l (List.append_cancel_right h)
  · intro h
    rw [flat_self l h]

end Go.Proofs.YtlaagdpanbineaaDoor

/- The library's contracts of (*strings.Builder).WriteString and WriteByte at this program, laid by hand: one application each (the library's own command asks that each type of the laying stands in a body of its own). -/
namespace Go.Proofs
open Go.Shelf
def Tryd.lays166_ren : Go.Shelf.Ren := ⟨fun | 166 => 46 | 240 => 56 | 276 => 67 | n => n, fun | 70 => 60 | 3 => 3 | 0 => 0 | 4 => 4 | 9 => 9 | 20 => 20 | 72 => 63 | 37 => 61 | 164 => 117 | 5 => 5 | 75 => 31 | 80 => 67 | n => n, fun | n => n⟩
theorem Tryd.lays166 : Go.Proofs.Lays.n166 Tryd.prog Tryd.lays166_ren := {
  mixed := by kernel_rfl
  f166 := Tryd.func46.trans (congrArg some (by kernel_rfl))
  f240 := Tryd.func56.trans (congrArg some (by kernel_rfl))
  f276 := Tryd.func67.trans (congrArg some (by kernel_rfl))
  t0 := Tryd.underlying0
  a0 := Tryd.isAgg0
  z0 := Tryd.sizeOf0
  v0 := Tryd.zeroValue0
  t3 := Tryd.underlying3
  a3 := Tryd.isAgg3
  z3 := Tryd.sizeOf3
  v3 := Tryd.zeroValue3
  t4 := Tryd.underlying4
  a4 := Tryd.isAgg4
  z4 := Tryd.sizeOf4
  v4 := Tryd.zeroValue4
  t9 := Tryd.underlying9
  a9 := Tryd.isAgg9
  z9 := Tryd.sizeOf9
  v9 := Tryd.zeroValue9
  t20 := Tryd.underlying20
  a20 := Tryd.isAgg20
  z20 := Tryd.sizeOf20
  v20 := Tryd.zeroValue20
  t37 := Tryd.underlying61
  a37 := Tryd.isAgg61
  z37 := Tryd.sizeOf61
  v37 := Tryd.zeroValue61
  t70 := Tryd.underlying60
  a70 := Tryd.isAgg60
  z70 := Tryd.sizeOf60
  v70 := Tryd.zeroValue60
  t72 := Tryd.underlying63
  a72 := Tryd.isAgg63
  z72 := Tryd.sizeOf63
  v72 := Tryd.zeroValue63
  t75 := Tryd.underlying31
  a75 := Tryd.isAgg31
  z75 := Tryd.sizeOf31
  v75 := Tryd.zeroValue31
  t164 := Tryd.underlying117
  a164 := Tryd.isAgg117
  z164 := Tryd.sizeOf117
  v164 := Tryd.zeroValue117 }
theorem Tryd.Builder_Extra_166 : Builder.Extra Tryd.prog Tryd.lays166_ren := {
  sizeBuilder := by kernel_rfl
  liesBuilder := by kernel_rfl
  t5 := Tryd.underlying5
  a5 := Tryd.isAgg5
  z5 := Tryd.sizeOf5
  v5 := Tryd.zeroValue5
  infoByte := by kernel_rfl
  cellsByte := by kernel_rfl
  sizeByte := by kernel_rfl
  neB5 := by decide }
open Go.RowKit in
theorem Tryd.Builder_WriteString (B b : Nat) (bs : List Value) (s : ByteArray) (w : World) (h : Lib.IsBuilder 63 5 B b bs w) (hlen : bs.length + s.size ≤ 140737488355328) (hBw : B ≤ w.heap.size) :
    Calls Tryd.prog 46 #[.pointer (some ⟨b, 0, none⟩), .string s] w fun e w' => e = .returned (.tuple #[.int .i64 s.size, .nilIface]) ∧ (Lib.BuilderAt 63 5 B b (.pointer (some ⟨b, 0, none⟩)) (bs ++ Lib.strCells s) w' ∧ Below B w w') := Any.Builder_WriteString Tryd.lays166 Tryd.Builder_Extra_166 B b bs s w h hlen hBw
def Tryd.lays167_ren : Go.Shelf.Ren := ⟨fun | 167 => 59 | 240 => 56 | 276 => 67 | n => n, fun | 70 => 60 | 3 => 3 | 0 => 0 | 4 => 4 | 9 => 9 | 20 => 20 | 72 => 63 | 37 => 61 | 164 => 117 | 5 => 5 | 75 => 31 | 80 => 67 | n => n, fun | n => n⟩
theorem Tryd.lays167 : Go.Proofs.Lays.n167 Tryd.prog Tryd.lays167_ren := {
  mixed := by kernel_rfl
  f167 := Tryd.func59.trans (congrArg some (by kernel_rfl))
  f240 := Tryd.func56.trans (congrArg some (by kernel_rfl))
  f276 := Tryd.func67.trans (congrArg some (by kernel_rfl))
  t0 := Tryd.underlying0
  a0 := Tryd.isAgg0
  z0 := Tryd.sizeOf0
  v0 := Tryd.zeroValue0
  t4 := Tryd.underlying4
  a4 := Tryd.isAgg4
  z4 := Tryd.sizeOf4
  v4 := Tryd.zeroValue4
  t5 := Tryd.underlying5
  a5 := Tryd.isAgg5
  z5 := Tryd.sizeOf5
  v5 := Tryd.zeroValue5
  t9 := Tryd.underlying9
  a9 := Tryd.isAgg9
  z9 := Tryd.sizeOf9
  v9 := Tryd.zeroValue9
  t20 := Tryd.underlying20
  a20 := Tryd.isAgg20
  z20 := Tryd.sizeOf20
  v20 := Tryd.zeroValue20
  t37 := Tryd.underlying61
  a37 := Tryd.isAgg61
  z37 := Tryd.sizeOf61
  v37 := Tryd.zeroValue61
  t70 := Tryd.underlying60
  a70 := Tryd.isAgg60
  z70 := Tryd.sizeOf60
  v70 := Tryd.zeroValue60
  t72 := Tryd.underlying63
  a72 := Tryd.isAgg63
  z72 := Tryd.sizeOf63
  v72 := Tryd.zeroValue63
  t75 := Tryd.underlying31
  a75 := Tryd.isAgg31
  z75 := Tryd.sizeOf31
  v75 := Tryd.zeroValue31
  t164 := Tryd.underlying117
  a164 := Tryd.isAgg117
  z164 := Tryd.sizeOf117
  v164 := Tryd.zeroValue117 }
theorem Tryd.Builder_Extra_167 : Builder.Extra Tryd.prog Tryd.lays167_ren := {
  sizeBuilder := by kernel_rfl
  liesBuilder := by kernel_rfl
  t5 := Tryd.underlying5
  a5 := Tryd.isAgg5
  z5 := Tryd.sizeOf5
  v5 := Tryd.zeroValue5
  infoByte := by kernel_rfl
  cellsByte := by kernel_rfl
  sizeByte := by kernel_rfl
  neB5 := by decide }
open Go.RowKit in
theorem Tryd.Builder_WriteByte (B b : Nat) (bs : List Value) (c : Int) (w : World) (h : Lib.IsBuilder 63 5 B b bs w) (hlen : bs.length + 1 ≤ 140737488355328) (hBw : B ≤ w.heap.size) :
    Calls Tryd.prog 59 #[.pointer (some ⟨b, 0, none⟩), .int .u8 c] w fun e w' => e = .returned .nilIface ∧ (Lib.BuilderAt 63 5 B b (.pointer (some ⟨b, 0, none⟩)) (bs ++ [.int .u8 c]) w' ∧ Below B w w') := Any.Builder_WriteByte Tryd.lays167 Tryd.Builder_Extra_167 B b bs c w h hlen hBw
end Go.Proofs

/- What the rows' conditions on the listed variables give: the errors, the library's tables of UTF-8, those of numbers. -/
namespace Go.Proofs.YtlaagdpanbineaaDoor
open Go.RowKit Go.Lib

theorem u8x : U8Extra Tryd.prog Tryd.lays260_ren :=
  { n3 := by kernel_rfl, n4 := by kernel_rfl, y3 := by kernel_rfl, y4 := by kernel_rfl, c5 := by kernel_rfl, c119 := by kernel_rfl, c138 := by kernel_rfl }
theorem tabs_of {W : World} (l : List (String × DataW Unit)) (h : laidMet Tryd.prog l W) (h3 : ("unicode/utf8.first", Rows.laid_unicode_utf8_first) ∈ l) (h4 : ("unicode/utf8.acceptRanges", Rows.laid_unicode_utf8_acceptRanges) ∈ l) : Utf8Tabs 15 16 W :=
  utf8Tabs_of_reads Tryd.lays260 u8x
    (by have := laidMet.reads h h3; rw [show Rows.laid_unicode_utf8_first = firstData from Pinned.utf8First_eq] at this; exact this)
    (by have := laidMet.reads h h4; rw [show (Rows.laid_unicode_utf8_acceptRanges : DataW Unit) = acceptData from by kernel_rfl] at this; exact this)

theorem below_drewN {B : Nat} {a w : World} (h : Below B a w) (d : Nat) : Below B a (w.drewN d) := ⟨h.os, h.tape, h.output, h.size, h.block⟩
structure CondS (w : World) (a : Addr) : Prop where
  syn : w.cell? ⟨1, 0, none⟩ = some (.iface 164 (.pointer (some a)))
  tabs : Utf8Tabs 15 16 w

theorem cell_lt {w : World} {b o : Nat} {v : Value} (h : w.cell? ⟨b, o, none⟩ = some v) : b < w.heap.size := by
  rcases Nat.lt_or_ge b w.heap.size with hlt | hge
  · exact hlt
  · simp [World.cell?, Array.getElem?_eq_none hge] at h
theorem CondS.below {w w' : World} {a : Addr} (h : CondS w a) (hb : Below w.heap.size w w') : CondS w' a :=
  ⟨(hb.cell (p := ⟨1, 0, none⟩) (cell_lt h.syn)).trans h.syn, Utf8Tabs_below h.tabs hb⟩

structure Cond (w : World) (A : Nat → Addr) : Prop where
  n : I2.Cond w A
  s : CondS w (A 0)
theorem Cond.below {w w' : World} {A : Nat → Addr} (h : Cond w A) (hb : Below w.heap.size w w') : Cond w' A := ⟨h.n.below hb, h.s.below hb⟩

/-- with all thirteen errors -/
structure CondN (w : World) (A : Nat → Addr) : Prop where
  c : Cond w A
  e : Errs w A
theorem CondN.below {w w' : World} {A : Nat → Addr} (h : CondN w A) (hb : Below w.heap.size w w') : CondN w' A := ⟨h.c.below hb, h.e.below hb⟩

theorem conds_of {K : Nat} (h6 : 6 ≤ K) (hK : K ≤ 13) {W : World} {l : List (String × DataW Unit)} (hl : I2.Has K l) (h3 : ("unicode/utf8.first", Rows.laid_unicode_utf8_first) ∈ l) (h4 : ("unicode/utf8.acceptRanges", Rows.laid_unicode_utf8_acceptRanges) ∈ l) (h : laidMet Tryd.prog l W) : ∃ A, Cond W A ∧ ErrsK K W A := by
  obtain ⟨A, hA, hE⟩ := I2.conds_of h6 hK hl h
  exact ⟨A, ⟨hA, hA.errs.cell 0 (by omega), tabs_of _ h h3 h4⟩, hE⟩

end Go.Proofs.YtlaagdpanbineaaDoor

/- quote.Take, quote.Parse: what each call returns. -/
namespace Go.Proofs.YtlaagdpanbineaaDoor
open Go.RowKit

theorem bld_below {T e : TypeId} {B b : Nat} {bs : List Value} {w w' : World} (h : Lib.IsBuilder T e B b bs w) (hb : Below w.heap.size w w') : Lib.IsBuilder T e B b bs w' := by
  have key : ∀ p, Lib.BuilderAt T e B b p bs w → Lib.BuilderAt T e B b p bs w' := fun p h => by
    obtain ⟨h1, v, h2, h3, h4⟩ := h
    refine ⟨h1, v, (hb.block b (Array.getElem?_eq_some_iff.1 h2).1).trans h2, ?_, h4⟩
    refine h3.kept (row := none) ⟨hb.os, hb.tape, hb.output, hb.size, fun i hi _ => hb.block i hi⟩ ?_
    cases hv : v.ownBlock with
    | none => exact .inl rfl
    | some g => exact .inr (by simp)
  rcases h with h | h
  · exact .inl (key _ h)
  · exact .inr (key _ h)

theorem cells_app (acc x : List UInt8) : Lib.byteCells acc ++ Lib.strCells ⟨x.toArray⟩ = Lib.byteCells (acc ++ x) := by
  simp [Lib.byteCells, Lib.strCells]

/-- the error that is answered -/
def synV (a : Addr) : Value := .iface 164 (.pointer (some a))
def takeV (a : Addr) : Option (List UInt8 × Nat) → Value
  | some p => .tuple #[.string ⟨p.1.toArray⟩, .int .i64 p.2, .nilIface]
  | none => .tuple #[.string ⟨#[]⟩, .int .i64 0, synV a]

set_option maxHeartbeats 1000000 in
theorem take_out (s : ByteArray) (x : Int) (w : World) (a : Addr) (hC : CondS w a) (_hs : s.size ≤ maxLen) (hx : x < 0 ∨ s.size ≤ x) :
    Calls Tryd.prog 53 #[.string s, .int .i64 x] w fun e w' => e = .returned (takeV a none) ∧ Below w.heap.size w w' := by
  have c0 : w.cell? ⟨1, 0, none⟩ = _ := hC.syn
  clear hC
  unfold maxLen at _hs
  simp only [takeV, synV]
  by_cases h : x < 0
  · clear hx
    go_enter Tryd.func53, Tryd.ntmps53
    go_wp2
    go_quiet (fail)
    go_wp2
    go_ret3
    exact ⟨rfl, below_drewN (Below.refl _ _) _⟩
  · have h2 : (s.size : Int) ≤ x := by omega
    clear hx
    go_enter Tryd.func53, Tryd.ntmps53
    go_wp2
    go_quiet (fail)
    go_wp2
    go_ret3
    exact ⟨rfl, below_drewN (Below.refl _ _) _⟩

set_option maxHeartbeats 1000000 in
theorem take_not (s : ByteArray) (i : Nat) (w : World) (a : Addr) (hC : CondS w a) (_hs : s.size ≤ maxLen) (hi : i < s.size) (h34 : byteAt s i ≠ 34) :
    Calls Tryd.prog 53 #[.string s, .int .i64 i] w fun e w' => e = .returned (takeV a none) ∧ Below w.heap.size w w' := by
  have c0 : w.cell? ⟨1, 0, none⟩ = _ := hC.syn
  clear hC
  unfold maxLen at _hs
  have hby := byteAt_in hi
  have q : ((s[i].toNat : Int) != 34) = true := by rw [hby]; simp; omega
  simp only [takeV, synV]
  clear hby h34
  go_enter Tryd.func53, Tryd.ntmps53
  go_wp2
  go_quiet (fail)
  go_wp2
  go_ret3
  exact ⟨rfl, below_drewN (Below.refl _ _) _⟩

set_option maxRecDepth 100000 in
set_option maxHeartbeats 2000000 in
theorem take_in (s : ByteArray) (n : Nat) (w : World) (a : Addr) (hC : CondS w a) (hs : s.size ≤ 200000) (hn : n < s.size) (h34 : byteAt s n = 34) {o : Option (List UInt8 × Nat)} (ho : takeL (s.data.toList.drop n) = o) :
    Calls Tryd.prog 53 #[.string s, .int .i64 n] w fun e w' => e = .returned (takeV a o) ∧ Below w.heap.size w w' := by
  have HC := Lib.hid hC
  have HO := Lib.hid ho
  have hby := byteAt_in hn
  have q : ((s[n].toNat : Int) != 34) = false := by rw [hby, h34]; rfl
  have HT0 := Lib.hid (Tk.start hn h34)
  have d1 : decide ((n : Int) < 0) = false := decide_eq_false (by omega)
  have d2 : decide (s.size ≤ n) = false := decide_eq_false (by omega)
  clear hC ho hby h34
  go_enter Tryd.func53, Tryd.ntmps53
  go_wp2
  go_loopw [8, 9, 10, 11] (fun i _ _ _ wr => ∃ (k f : Nat) (acc : List UInt8), i = .int .i64 k ∧ k ≤ s.size ∧ acc.length ≤ k ∧ Hid (Tk s n k f acc) ∧ Lib.IsBuilder 63 5 w.heap.size w.heap.size (Lib.byteCells acc) wr ∧ Below w.heap.size w wr) (fun i _ _ _ _ => s.size - (intOf i).toNat)
  case atStart => exact ⟨n + 1, _, [], by go_num, by omega, by simp, HT0, Lib.fresh_isBuilder _ _ w, (Below.refl _ _).alloc (Nat.le_refl _) _⟩
  case round =>
    obtain ⟨k, f, acc, rfl, hk, hacc, HT, HI, HB⟩ := hrel
    have hpos : n < k := HT.out.pos
    have hBs := HB.size
    have HCr := Lib.hid (HC.out.below HB)
    have c0 : wr.cell? ⟨1, 0, none⟩ = _ := HCr.out.syn
    by_cases hlt : k < s.size
    · have hby := byteAt_in hlt
      by_cases hq : byteAt s k = 34
      · have q1 : ((s[k].toNat : Int) == 34) = true := by rw [hby, hq]; rfl
        have HR : Hid (o = some (acc, k + 1 - n)) := HO.out.symm.trans (HT.out.mark hlt hq)
        have hS := Tryd.Builder_String_any w.heap.size w.heap.size acc wr HI hBs
        clear c0 hby hq
        go_wp2_with (go_at_call 31; refine hS.mono ?_; rintro e w1 ⟨rfl, hb1⟩)
        go_ret3
        refine ⟨?_, ?_⟩
        · rw [HR.out]
          simp only [takeV]
          have : ((k + 1 - n : Nat) : Int) = (k : Int) + 1 - n := by omega
          rw [this]
          rfl
        · exact HB.trans (by first | exact hb1 | exact hb1.2)
      · have q1 : ((s[k].toNat : Int) == 34) = false := by rw [hby]; simp; omega
        have hP := piece_any s k wr HCr.out.tabs (by unfold maxLen; omega) hlt rfl
        cases hp : pieceL (s.data.toList.drop k) with
        | none =>
          have HR : Hid (o = none) := HO.out.symm.trans (HT.out.bad hlt hq hp)
          rw [hp] at hP
          simp only [pieceV] at hP
          clear hby hq hp c0
          go_wp2_with fail
          refine hP.mono ?_
          rintro e w1 ⟨rfl, hb1⟩
          have c0 : w1.cell? ⟨1, 0, none⟩ = _ := (HCr.out.below hb1).syn
          clear hP
          go_wp2
          go_quiet (fail)
          go_wp2
          go_ret3
          exact ⟨by rw [HR.out]; rfl, below_drewN (HB.trans (hb1.mono hBs)) _⟩
        | some p =>
          obtain ⟨x, m⟩ := p
          rw [hp] at hP
          simp only [pieceV] at hP
          obtain ⟨z1, z2, z3⟩ := piece_size hlt hq hp
          have HT2 := Lib.hid (HT.out.step hlt hq hp)
          have hxs : (⟨x.toArray⟩ : ByteArray).size = x.length := by rw [← size_list]
          have hW := fun w1 (hI1 : Lib.IsBuilder 63 5 w.heap.size w.heap.size (Lib.byteCells acc) w1) (h1 : w.heap.size ≤ w1.heap.size) => Tryd.Builder_WriteString w.heap.size w.heap.size (Lib.byteCells acc) ⟨x.toArray⟩ w1 hI1 (by rw [Lib.byteCells_length, hxs]; omega) h1
          rw [cells_app] at hW
          have hlen : (acc ++ x).length ≤ k + m := by rw [List.length_append]; omega
          clear hby hq hp c0 HT hxs z3
          generalize (⟨x.toArray⟩ : ByteArray) = t at *
          go_wp2_with fail
          refine hP.mono ?_
          rintro e w1 ⟨rfl, hb1⟩
          have hW1 := hW w1 (bld_below HI hb1) (Nat.le_trans hBs hb1.size)
          clear hP hW
          go_wp2_with fail
          refine hW1.mono ?_
          rintro e w2 ⟨rfl, hI2, hb2⟩
          clear hW1
          have HB2 := Lib.hid ((HB.trans (hb1.mono hBs)).trans hb2)
          have HI2 := Lib.hid hI2
          clear hI2 hb2 hb1
          go_wp2
          go_roundw
          case rel => exact ⟨k + m, _, acc ++ x, by go_num, by omega, hlen, HT2, .inr HI2.out, HB2.out⟩
          case measure => simp [intOf]; omega
    · have HR : Hid (o = none) := HO.out.symm.trans (HT.out.out hlt)
      go_wp2
      go_quiet (fail)
      go_wp2
      go_ret3
      exact ⟨by rw [HR.out]; rfl, below_drewN HB _⟩

theorem take_any (s : ByteArray) (x : Int) (w : World) (a : Addr) (hC : CondS w a) (hs : s.size ≤ 200000) {o : Option (List UInt8 × Nat)} (ho : takeL (restQ s.data.toList x) = o) :
    Calls Tryd.prog 53 #[.string s, .int .i64 x] w fun e w' => e = .returned (takeV a o) ∧ Below w.heap.size w w' := by
  have hsm : s.size ≤ maxLen := by unfold maxLen; omega
  by_cases hx : x < 0 ∨ s.size ≤ x
  · rw [restQ_out hx] at ho
    subst ho
    exact take_out s x w a hC hsm hx
  · obtain ⟨n, rfl⟩ := Int.eq_ofNat_of_zero_le (by omega : 0 ≤ x)
    have hn : n < s.size := by omega
    rw [restQ_in] at ho
    by_cases h34 : byteAt s n = 34
    · exact take_in s n w a hC hs hn h34 ho
    · rw [takeL_not hn h34] at ho
      subst ho
      exact take_not s n w a hC hsm hn h34

end Go.Proofs.YtlaagdpanbineaaDoor

