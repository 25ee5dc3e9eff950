/- The contract of runes.Text. -/
import Derived.Test.YtmconmlfbgndoaaDoorInts
import Derived.Test.YtmconmlfbgndoaaDoorNum
import Derived.Test.YtmconmlfbgndoaaDoorWalks
import Derived.Test.YtmconmlfbgndoaaDoorShelfB
import Derived.Lib.RuneBytes
import Derived.Deep.QuietTactic
import Derived.BigQuiet
namespace Go.Proofs.YtmconmlfbgndoaaDoor
open Go.RowKit

def encL (l : List Int) : List Int := l.flatMap encZ
def byteVs (l : List Int) : List Value := l.map (Value.int .u8)
def allPt (l : List Int) : Prop := ∀ r ∈ l, isPt r

theorem encZ_le4 (r : Int) : (encZ r).length ≤ 4 := by
  unfold encZ
  repeat' split
  all_goals simp
theorem encL_len (l : List Int) : (encL l).length ≤ 4 * l.length := by
  unfold encL
  induction l with
  | nil => simp
  | cons r l ih =>
    have := encZ_le4 r
    simp only [List.flatMap_cons, List.length_append, List.length_cons]
    omega
theorem encL_snoc (l : List Int) (r : Int) : encL (l ++ [r]) = encL l ++ encZ r := by simp [encL]

theorem take_snoc (l : List Int) (k : Nat) (h : k < l.length) : l.take (k + 1) = l.take k ++ [l.getD k 0] := by
  rw [List.take_succ_eq_append_getElem h]
  simp [List.getD, h]

theorem runeCells_enc (r : Int) (h : isPt r) : Lib.runeCells r = byteVs (encZ r) := by
  have hb : 0 ≤ r ∧ r ≤ 1114111 := by unfold isPt at h; omega
  unfold Lib.runeCells Lib.encodeRuneZ byteVs encZ
  unfold isPt at h
  repeat' split
  all_goals first | rfl | (exfalso; omega) | (simp; omega) | simp

theorem byteInfo : (Tryd.prog.info? 5).map (fun i => (i.zero, i.size, i.bytes)) = some (some (.int .u8 0), 1, 1) := by kernel_rfl

theorem cv_own {w : World} {B n : Nat} {v : Value} {xs : List Int} (h : w.ownsRow B 5 1 v n (byteVs xs)) : Sem.run Tryd.prog (convert 48 9 v) w = .ok (.string (strOfNums xs)) w := by
  have hlen := h.1
  simp [byteVs] at hlen
  rcases h.2 with ⟨rfl, rfl⟩ | ⟨g, cap, cur, rfl, hb, hg, hn, hc, hs, ht⟩
  · have hx : xs = [] := List.eq_nil_of_length_eq_zero (by omega)
    subst hx
    exact run_convert_bytes_nil (P := Tryd.prog) w 48 5 Tryd.underlying48 Tryd.underlying5 0 0 9 Tryd.underlying9
  · refine run_convert_bytes_arg (P := Tryd.prog) w 48 5 Tryd.underlying48 Tryd.underlying5 g 0 n cap xs hlen (fun i hi => ?_) 9 Tryd.underlying9
    rw [Nat.zero_add, h.cellAt i (by omega)]
    have h1 : i < xs.length := by omega
    simp [byteVs, List.getD, h1]

def TextPost (A : Nat → Addr) (l : List Int) (e : Ending) : Prop :=
  (allPt l ∧ e = .returned (.tuple #[.string (strOfNums (encL l)), .nilIface])) ∨ (¬ allPt l ∧ e = .returned (.tuple #[.string ⟨#[]⟩, .iface 75 (.pointer (some (A 0)))]))

theorem TextPost.yes {A : Nat → Addr} {l : List Int} {k : Nat} (h : allPt (l.take k)) (hk : l.length ≤ k) : TextPost A l (.returned (.tuple #[.string (strOfNums (encL (l.take k))), .nilIface])) := by
  rw [List.take_of_length_le hk] at *
  exact .inl ⟨h, rfl⟩
theorem TextPost.no {A : Nat → Addr} {l : List Int} {k : Nat} (h : ¬ isPt (l.getD k 0)) (hk : k < l.length) : TextPost A l (.returned (.tuple #[.string ⟨#[]⟩, .iface 75 (.pointer (some (A 0)))])) :=
  .inr ⟨fun ha => h (ha _ (by simp [List.getD, hk])), rfl⟩

structure TextRel (l : List Int) (k : Nat) (B : Nat) (v : Value) (w wr : World) : Prop where
  own : wr.ownsRow B 5 1 v (encL (l.take k)).length (byteVs (encL (l.take k)))
  below : Below B w wr
  pts : allPt (l.take k)

theorem TextRel.step {l : List Int} {k B : Nat} {v v' : Value} {w wr w2 : World} {o : Obj} (h : TextRel l k B v w wr) (hB : B = w.heap.size) (hk : k < l.length) (hr : isPt (l.getD k 0))
    (hown : w2.ownsRow B 5 1 v' ((encL (l.take k)).length + (Lib.runeCells (l.getD k 0)).length) (byteVs (encL (l.take k)) ++ Lib.runeCells (l.getD k 0))) (hg : (wr.alloc o).grownBy w2 v.ownBlock) : TextRel l (k + 1) B v' w w2 := by
  have hsz : B ≤ wr.heap.size := by rw [hB]; exact h.below.size
  refine ⟨?_, (h.below.alloc hsz o).grown hg (by simp; omega) (fun g hg' => (h.own.lt g hg').1), ?_⟩
  · rw [take_snoc l k hk, encL_snoc]
    rw [runeCells_enc _ hr] at hown
    have e : byteVs (encL (l.take k) ++ encZ (l.getD k 0)) = byteVs (encL (l.take k)) ++ byteVs (encZ (l.getD k 0)) := by simp [byteVs]
    rw [e, List.length_append]
    have e2 : (byteVs (encZ (l.getD k 0))).length = (encZ (l.getD k 0)).length := by simp [byteVs]
    rw [e2] at hown
    exact hown
  · rw [take_snoc l k hk]
    intro r hr'
    rcases List.mem_append.1 hr' with h1 | h1
    · exact h.pts r h1
    · simp only [List.mem_singleton] at h1
      rw [h1]; exact hr

set_option maxRecDepth 100000 in
set_option maxHeartbeats 1000000 in
theorem text_any (A : Nat → Addr) (g n : Nat) (l : List Int) (w : World) (hE : Errs w A) (h : Copy w g n l) (hn : n ≤ 500) :
    Calls Tryd.prog 18 #[.slice (some ⟨g, 0, none⟩) n (n + 4)] w fun e w' => TextPost A l e ∧ Below w.heap.size w w' := by
  obtain ⟨i0, hi, hz0, hz1, hz2⟩ := info_parts byteInfo
  have HL := Lib.hid h.1
  have HC := Lib.hid h.2.2.1
  have hg := h.2.1
  have HE := Lib.hid hE
  clear h hE
  go_enter Tryd.func18, Tryd.ntmps18
  go_wp2_with (at_make; refine wpList_make_own _ rfl _ _ 48 rfl w.heap.size 5 i0 (.int .u8 0) 1 Tryd.underlying48 hi hz0 hz1 .i64 .i64 _ n rfl rfl ?m0 ?m1 ?m2 ?m3 ?_)
  case m0 => rfl
  case m1 => rw [hz2]; omega
  case m2 => unfold maxLen; omega
  case m3 => exact Nat.le_refl _
  intro w3 hown3 hg3
  have HB3 : Below w.heap.size w w3 := (Below.refl _ _).grown hg3 (Nat.le_refl _) (fun k hk => by cases hk)
  clear hg3
  go_wp2
  go_loopw [4, 6, 12] (fun v _ i wr => ∃ k : Nat, k ≤ n ∧ i = .int .i64 k ∧ TextRel l k w.heap.size v w wr) (fun _ _ i _ => n - (intOf i).toNat)
  case atStart => exact ⟨0, by omega, rfl, ⟨hown3, HB3, fun r hr => by simp at hr⟩⟩
  case round =>
    obtain ⟨k, hk, rfl, HR⟩ := hrel
    have hB := HR.below
    have hsz := hB.size
    by_cases hlt : k < n
    · have hc : wr.cell? ⟨g, k, none⟩ = some (.int .i64 (l.getD k 0)) := (hB.cell (p := ⟨g, k, none⟩) hg).trans (HC.out k hlt)
      have hkl : k < l.length := by have := HL.out; omega
      by_cases hr : isPt (l.getD k 0)
      · have hst := fun v' w2 o => HR.step (v' := v') (w2 := w2) (o := o) rfl hkl hr
        have HST := Lib.hid hst
        have hle := encL_len (l.take k)
        have hle2 : (l.take k).length ≤ k := List.length_take_le _ _
        have hI := isPoint_yes (l.getD k 0) wr hr
        have hb0 : 0 ≤ l.getD k 0 ∧ l.getD k 0 ≤ 1114111 := by unfold isPt at hr; omega
        obtain ⟨hb1, hb2⟩ := hb0
        have hown := HR.own
        clear hst hr
        generalize l.getD k 0 = r at *
        have hP := Tryd.utf8_AppendRune_plain w.heap.size _ _ _ r (by omega) (by omega) wr hown (by omega) hsz
        clear hown HR
        go_wp2_with (first
          | (go_at_call 23; refine hI.mono ?_; rintro e w' ⟨rfl, rfl⟩)
          | (go_at_call 26; refine hP.mono ?_; rintro e w2 ⟨v', rfl, hown2, o, hg2⟩; have HR2 := HST.out v' w2 o hown2 hg2; clear hown2 hg2))
        go_roundw
        case rel => exact ⟨k + 1, by omega, by go_num, HR2⟩
        case measure => simp [intOf]; omega
      · have hI := isPoint_no (l.getD k 0) wr hr
        have HP := Lib.hid (TextPost.no (A := A) hr hkl)
        have c0 := (HE.out.below (hB.mono (Nat.le_refl _))).cell 0 (by omega)
        clear hr
        generalize l.getD k 0 = r at *
        go_wp2_with (go_at_call 23; refine hI.mono ?_; rintro e w' ⟨rfl, rfl⟩)
        go_quiet (fail)
        go_wp2
        go_ret2
        exact ⟨HP.out, below_drewN hB _⟩
    · have hcv := cv_own HR.own
      have HP := Lib.hid (TextPost.yes (A := A) HR.pts (by have := HL.out; omega))
      clear HR
      generalize strOfNums (encL (l.take k)) = s at *
      go_wp2
      go_ret2
      exact ⟨HP.out, hB⟩

end Go.Proofs.YtmconmlfbgndoaaDoor
