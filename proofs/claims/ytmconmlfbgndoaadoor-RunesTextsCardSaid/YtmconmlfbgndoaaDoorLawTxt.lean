/- RunesTexts: for every list of at most 500 numbers (of a longer one the statement asks nothing), runes.Text answers the bytes of the code points, which are read as them again, and leaves the list as it stands; and the error ErrRange and the empty text, if one of the numbers is no code point. The listed errors and the two tables of package unicode/utf8 read as the program text lays them (the card ties them to the text). No other condition. -/
import Derived.Test.YtmconmlfbgndoaaDoorRows
import Derived.Test.YtmconmlfbgndoaaDoorTxs
import Derived.Test.YtmconmlfbgndoaaDoorTie
import Derived.Test.YtmconmlfbgndoaaDoorCards
import Derived.Test.YtmconmlfbgndoaaDoorBase
import Derived.Lay
import Derived.MakeChecks
import Derived.Stop.Joined
import Derived.SevenTiedAt
import Derived.WalkKit
import Derived.ProofKit
import Derived.OpenShut
import Derived.ShutString
import Derived.ChangeOld
import Derived.Below
namespace Go.Proofs.YtmconmlfbgndoaaDoor.runesTexts
open Go.ChangeShapes Go.WideShapes Go.ChangeAt Go.RowKit
open Go.ChangeMaps (open_string shut_string)
set_option linter.unusedVariables false

theorem own : ownKnob Tryd.prog.godebug = none := by kernel_rfl
theorem laidOut : laidOutB Tryd.prog = true := by kernel_rfl

/-- WHAT THE WALK IS TOLD OF A SLICE OF INTEGERS THAT CAME IN: it is nil; or it leads to a row of 'cap' cells, the numbers 'zs' (the first 'len' are its elements, the rest its spare room), each fitting its kind. -/
def IsRow (k : IntKind) (w : World) (a : Option Addr) (len cap : Nat) (zs : List Int) : Prop :=
  (a = none ∧ len = 0 ∧ cap = 0 ∧ zs = []) ∨
  ∃ x, a = some x ∧ len ≤ cap ∧ cap ≤ maxLen ∧ zs.length = cap ∧ (∀ i, i < zs.length → w.cell? (x.add i) = some (.int k (zs.getD i 0))) ∧ ∀ n ∈ zs, (Lit.int k n).wf = true

/-- the two ways of a list of at most 500 numbers -/
theorem src_of {w : World} {a : Option Addr} {len cap : Nat} {zs : List Int} (h : IsRow .i64 w a len cap zs) : ∃ l, Src w a len cap l := by
  rcases h with ⟨rfl, rfl, rfl, rfl⟩ | ⟨x, rfl, hlc, hcm, hz, hcell, _⟩
  · exact ⟨[], rfl, fun _ => ⟨rfl, rfl⟩, (fun ad h => by cases h), rfl, .inl rfl⟩
  · refine ⟨zs.take len, by rw [List.length_take]; omega, (fun h => by cases h), fun ad had j u hu => ?_, by rw [List.length_take]; omega, ?_⟩
    · cases had
      have hj : j < len := by
        have := (List.getElem?_eq_some_iff.1 hu).1
        simp [intVs] at this
        omega
      rw [hcell j (by omega)]
      rw [← hu]
      have h1 : j < zs.length := by omega
      simp [intVs, List.getElem?_take, hj, h1, List.getD]
    · rcases Nat.eq_zero_or_pos len with h0 | h0
      · exact .inl h0
      · obtain ⟨b, off, rfl, hc⟩ := ints_at hcell (by omega)
        refine .inr ⟨b, off, rfl, cell_lt (hc 0 (by omega)), fun j hj => ?_⟩
        rw [hc j (by omega)]
        have h1 : j < zs.length := by omega
        simp [List.getD, List.getElem?_take, hj, h1]

set_option maxRecDepth 100000 in
set_option maxHeartbeats 1000000 in
theorem walk_zero (AA : Option Addr) (c : Nat) (w : World) (hsrc : Src w AA 0 c []) (hT : Lib.Utf8Tabs 13 14 w) (A : Nat → Addr) (hE : Errs w A) :
    Calls Tryd.prog 6 #[.slice AA 0 c] w fun e w' => e = .returned (.bool true) ∧ Below w.heap.size w w' := by
  obtain ⟨n, hn0⟩ : ∃ n : Nat, n = 0 := ⟨0, rfl⟩
  obtain ⟨l, hl0⟩ : ∃ l : List Int, l = [] := ⟨[], rfl⟩
  rw [← hn0, ← hl0] at hsrc
  rw [← hn0]
  have hn1 : n < 1 := by omega
  have HL := Lib.hid hsrc.len
  have hRd := hsrc.rd
  have hn : n ≤ 500 := by omega
  have hall : allPt l := by rw [hl0]; intro r hr; simp at hr
  have HALL := Lib.hid hall
  have hI := ints_copy AA n c l w hsrc hn
  clear hsrc hn0 hl0
  go_enter Tryd.func6, Tryd.ntmps6
  go_wp2_with (first
    | (go_at_call 7; refine (alive_any _).mono ?_; rintro e w' ⟨rfl, rfl⟩)
    | (go_at_call 17; refine hI.mono ?_; rintro e w1 ⟨g, rfl, hcp, hb1⟩; have HCP := Lib.hid hcp; have hTx := text_yes A g n l w1 (hE.below hb1) hcp hn hall; clear hcp)
    | (go_at_call 18; refine hTx.mono ?_; rintro e w2 ⟨rfl, hb2⟩; clear hTx hI))
  have hb12 := hb1.trans (hb2.mono hb1.size)
  have HCP2 := Lib.hid (HCP.out.below hb2)
  have hRD := Lib.hid (hRd.below hb12)
  have hT2 := Lib.hid (Utf8Tabs_below hT hb12)
  have hE2 := Lib.hid (hE.below hb12)
  have hz12 := hb12.size
  clear hb1 hb2 HCP hT hRd hE
  clear hall
  go_loopw [6, 8, 25] (fun want _ i wr => ∃ (k : Nat) (t : ByteArray), k ≤ n ∧ i = .int .i64 k ∧ want = .string t ∧ Below w2.heap.size w2 wr ∧ Hid (t = strOfNums (encL (l.take k)))) (fun _ _ i _ => n - (intOf i).toNat)
  case atStart => exact ⟨0, _, by omega, rfl, rfl, Below.refl _ _, by simp [encL, strOfNums, Hid]⟩
  case round =>
    obtain ⟨k, t, hk, rfl, rfl, HB, Ht⟩ := hrel
    have hge : ¬ k < n := by omega
    have hTk : t = strOfNums (encL l) := by rw [Ht.out, List.take_of_length_le (by have := HL.out; omega)]
    subst hTk
    have hP := points_of l n wr HL.out hn (Utf8Tabs_below hT2.out HB) HALL.out
    have hnil := @run_eql_nil_nil_at Tryd.prog
    have hnil2 := fun w => hnil w 39 (by kernel_rfl)
    clear hnil Ht
    generalize strOfNums (encL l) = s at *
    go_wp2_with (first
      | (go_at_call 13; refine hP.mono ?_; rintro e w3 ⟨⟨A3, c3, rfl, hr3⟩, hb3⟩; have hS := same_any A3 AA n c3 c l w3 (by unfold maxLen; omega) hr3 ((hRD.out.below HB).below hb3); clear hP)
      | (go_at_call 15; refine hS.mono ?_; rintro e w4 ⟨rfl, d, rfl⟩; have hK := kept_any AA g n c l (w3.drewN d) ((HCP2.out.below HB).below (below_drewN hb3 d)) ((hRD.out.below HB).below (below_drewN hb3 d)) hn; clear hS)
      | (go_at_call 20; refine hK.mono ?_; rintro e w5 ⟨rfl, d2, rfl⟩; clear hK))
    go_ret
    exact ⟨ret_bool (by simp), below_drewN ((hb12.trans (HB.mono hz12)).trans (hb3.mono (Nat.le_trans hz12 HB.size))) _⟩

set_option maxRecDepth 100000 in
set_option maxHeartbeats 1000000 in
theorem walk_some (n b off c : Nat) (l : List Int) (w : World) (hsrc : Src w (some ⟨b, off, none⟩) n c l) (hn : n ≤ 500) (hblt : b < w.heap.size) (hc : ∀ j, j < n → w.cell? ⟨b, off + j, none⟩ = some (.int .i64 (l.getD j 0)))
    (hT : Lib.Utf8Tabs 13 14 w) (A : Nat → Addr) (hE : Errs w A) :
    Calls Tryd.prog 6 #[.slice (some ⟨b, off, none⟩) n c] w fun e w' => e = .returned (.bool true) ∧ Below w.heap.size w w' := by
  have HL := Lib.hid hsrc.len
  have hRd := hsrc.rd
  have HC := Lib.hid hc
  have hI := ints_copy (some ⟨b, off, none⟩) n c l w hsrc hn
  clear hsrc hc
  by_cases hall : allPt l
  · have HALL := Lib.hid hall
    go_enter Tryd.func6, Tryd.ntmps6
    go_wp2_with (first
      | (go_at_call 7; refine (alive_any _).mono ?_; rintro e w' ⟨rfl, rfl⟩)
      | (go_at_call 17; refine hI.mono ?_; rintro e w1 ⟨g, rfl, hcp, hb1⟩; have HCP := Lib.hid hcp; have hTx := text_yes A g n l w1 (hE.below hb1) hcp hn hall; clear hcp)
      | (go_at_call 18; refine hTx.mono ?_; rintro e w2 ⟨rfl, hb2⟩; clear hTx hI))
    have hb12 := hb1.trans (hb2.mono hb1.size)
    have HCP2 := Lib.hid (HCP.out.below hb2)
    have hRD := Lib.hid (hRd.below hb12)
    have hT2 := Lib.hid (Utf8Tabs_below hT hb12)
    have hE2 := Lib.hid (hE.below hb12)
    have hz12 := hb12.size
    clear hb1 hb2 HCP hT hRd hE
    clear hall
    go_loopw [6, 8, 25] (fun want _ i wr => ∃ (k : Nat) (t : ByteArray), k ≤ n ∧ i = .int .i64 k ∧ want = .string t ∧ Below w2.heap.size w2 wr ∧ Hid (t = strOfNums (encL (l.take k)))) (fun _ _ i _ => n - (intOf i).toNat)
    case atStart => exact ⟨0, _, by omega, rfl, rfl, Below.refl _ _, by simp [encL, strOfNums, Hid]⟩
    case round =>
      obtain ⟨k, t, hk, rfl, rfl, HB, Ht⟩ := hrel
      by_cases hlt : k < n
      · have hkl : k < l.length := by have := HL.out; omega
        have hcell : wr.cell? ⟨b, off + k, none⟩ = some (.int .i64 (l.getD k 0)) := (hb12.trans (HB.mono hz12)).cell (p := ⟨b, off + k, none⟩) hblt |>.trans (HC.out k hlt)
        have hr := allPt_at hkl HALL.out
        have hPt := point_yes (l.getD k 0) wr hr
        have hEn := ref_encode_yes (l.getD k 0) wr hr
        have HS := Lib.hid (enc_take l k hkl)
        have hsz2 := enc_size (l.getD k 0)
        have hsz1 : t.size ≤ 4 * k := by rw [Ht.out]; exact enc_take_size l k
        have Ht2 : Hid (t ++ strOfNums (encZ (l.getD k 0)) = strOfNums (encL (l.take (k + 1)))) := by rw [Ht.out]; exact HS.out
        clear hr HS Ht
        generalize strOfNums (encZ (l.getD k 0)) = u at *
        generalize l.getD k 0 = r at *
        go_wp2_with (first
          | (go_at_call 12; refine hPt.mono ?_; rintro e w' ⟨rfl, rfl⟩)
          | (go_at_call 11; refine hEn.mono ?_; rintro e w3 ⟨rfl, hb3⟩))
        go_roundw
        case rel => exact ⟨k + 1, t ++ u, by omega, by go_num, rfl, HB.trans (hb3.mono HB.size), Ht2⟩
        case measure => simp [intOf]; omega

      · have hTk0 : n ≤ k := by omega
        have hTk : t = strOfNums (encL l) := by rw [Ht.out, List.take_of_length_le (by have := HL.out; omega)]
        subst hTk
        have hP := points_of l n wr HL.out hn (Utf8Tabs_below hT2.out HB) HALL.out
        have hnil := @run_eql_nil_nil_at Tryd.prog
        have hnil2 := fun w => hnil w 39 (by kernel_rfl)
        clear hnil Ht
        generalize strOfNums (encL l) = s at *
        go_wp2_with (first
          | (go_at_call 13; refine hP.mono ?_; rintro e w3 ⟨⟨A3, c3, rfl, hr3⟩, hb3⟩; have hS := same_any A3 (some ⟨b, off, none⟩) n c3 c l w3 (by unfold maxLen; omega) hr3 ((hRD.out.below HB).below hb3); clear hP)
          | (go_at_call 15; refine hS.mono ?_; rintro e w4 ⟨rfl, d, rfl⟩; have hK := kept_any (some ⟨b, off, none⟩) g n c l (w3.drewN d) ((HCP2.out.below HB).below (below_drewN hb3 d)) ((hRD.out.below HB).below (below_drewN hb3 d)) hn; clear hS)
          | (go_at_call 20; refine hK.mono ?_; rintro e w5 ⟨rfl, d2, rfl⟩; clear hK))
        go_ret
        exact ⟨ret_bool (by simp), below_drewN ((hb12.trans (HB.mono hz12)).trans (hb3.mono (Nat.le_trans hz12 HB.size))) _⟩
  · have HALL := Lib.hid hall
    go_enter Tryd.func6, Tryd.ntmps6
    go_wp2_with (first
      | (go_at_call 7; refine (alive_any _).mono ?_; rintro e w' ⟨rfl, rfl⟩)
      | (go_at_call 17; refine hI.mono ?_; rintro e w1 ⟨g, rfl, hcp, hb1⟩; have HCP := Lib.hid hcp; have hTx := text_no A g n l w1 (hE.below hb1) hcp hn hall; clear hcp)
      | (go_at_call 18; refine hTx.mono ?_; rintro e w2 ⟨rfl, hb2⟩; clear hTx hI))
    have hb12 := hb1.trans (hb2.mono hb1.size)
    have HCP2 := Lib.hid (HCP.out.below hb2)
    have hRD := Lib.hid (hRd.below hb12)
    have hT2 := Lib.hid (Utf8Tabs_below hT hb12)
    have hE2 := Lib.hid (hE.below hb12)
    have hz12 := hb12.size
    clear hb1 hb2 HCP hT hRd hE
    clear hall
    go_loopw [6, 8, 25] (fun want _ i wr => ∃ (k : Nat) (t : ByteArray), k ≤ n ∧ i = .int .i64 k ∧ want = .string t ∧ Below w2.heap.size w2 wr ∧ Hid (t = strOfNums (encL (l.take k))) ∧ Hid (allPt (l.take k))) (fun _ _ i _ => n - (intOf i).toNat)
    case atStart => exact ⟨0, _, by omega, rfl, rfl, Below.refl _ _, by simp [encL, strOfNums, Hid], fun r hr => by simp at hr⟩
    case round =>
      obtain ⟨k, t, hk, rfl, rfl, HB, Ht, Hk⟩ := hrel
      by_cases hlt : k < n
      · have hkl : k < l.length := by have := HL.out; omega
        have hcell : wr.cell? ⟨b, off + k, none⟩ = some (.int .i64 (l.getD k 0)) := (hb12.trans (HB.mono hz12)).cell (p := ⟨b, off + k, none⟩) hblt |>.trans (HC.out k hlt)
        by_cases hr : isPt (l.getD k 0)
        · have hPt := point_yes (l.getD k 0) wr hr
          have hEn := ref_encode_yes (l.getD k 0) wr hr
          have HS := Lib.hid (enc_take l k hkl)
          have hsz2 := enc_size (l.getD k 0)
          have hsz1 : t.size ≤ 4 * k := by rw [Ht.out]; exact enc_take_size l k
          have Ht2 : Hid (t ++ strOfNums (encZ (l.getD k 0)) = strOfNums (encL (l.take (k + 1)))) := by rw [Ht.out]; exact HS.out
          have Hk2 := Lib.hid (allPt_step hkl Hk.out hr)
          clear hr HS Ht
          generalize strOfNums (encZ (l.getD k 0)) = u at *
          generalize l.getD k 0 = r at *
          go_wp2_with (first
            | (go_at_call 12; refine hPt.mono ?_; rintro e w' ⟨rfl, rfl⟩)
            | (go_at_call 11; refine hEn.mono ?_; rintro e w3 ⟨rfl, hb3⟩))
          go_roundw
          case rel => exact ⟨k + 1, t ++ u, by omega, by go_num, rfl, HB.trans (hb3.mono HB.size), Ht2, Hk2⟩
          case measure => simp [intOf]; omega
        · have hPt := point_no (l.getD k 0) wr hr
          have hNum := num_range A wr (hE2.out.below HB)
          clear hr
          generalize l.getD k 0 = r at *
          go_wp2_with (first
            | (go_at_call 12; refine hPt.mono ?_; rintro e w' ⟨rfl, rfl⟩)
            | (go_at_call 19; refine hNum.mono ?_; rintro e w3 ⟨rfl, hb3⟩))
          go_ret
          exact ⟨ret_bool (by simp), (hb12.trans (HB.mono hz12)).trans (hb3.mono (Nat.le_trans hz12 HB.size))⟩
      · exfalso
        have := Hk.out
        rw [List.take_of_length_le (by have := HL.out; omega)] at this
        exact HALL.out this

theorem walk_in (a0 : Option Addr) (n c : Nat) (l : List Int) (w : World) (hsrc : Src w a0 n c l) (hn : n ≤ 500) (hT : Lib.Utf8Tabs 13 14 w) (A : Nat → Addr) (hE : Errs w A) :
    Calls Tryd.prog 6 #[.slice a0 n c] w fun e w' => e = .returned (.bool true) ∧ Below w.heap.size w w' := by
  rcases hsrc.rd.2 with rfl | ⟨b, off, rfl, hlt, hc⟩
  · have := hsrc.len
    obtain rfl : l = [] := List.eq_nil_of_length_eq_zero this
    exact walk_zero a0 c w hsrc hT A hE
  · exact walk_some n b off c l w hsrc hn hlt hc hT A hE

/-! ### STEP 1: THE WALK: the Go text returns true, AND WRITES NOTHING THAT WAS THERE: 'Below w.heap.size w w'' (Derived/Below.lean: '.refl', '.alloc', '.drew', '.setCell' at a new block, '.trans'). Open each 'IsRow' by 'rcases' AHEAD of 'go_enter'; part every test ahead of the walk. -/
set_option maxHeartbeats 1000000 in
theorem walk (a0 : Option Addr) (len0 cap0 : Nat) (z0 : List Int) (w : World) (w0 : IsRow .i64 w a0 len0 cap0 z0) (hT : Lib.Utf8Tabs 13 14 w ∧ ∃ A, Errs w A) :
    Calls Tryd.prog 6 #[.slice a0 len0 cap0] w fun e w' => e = .returned (.bool true) ∧ Below w.heap.size w w' := by
  obtain ⟨hT, A, hE⟩ := hT
  by_cases hlen : 500 < len0
  · go_enter Tryd.func6, Tryd.ntmps6
    go_wp2_with (go_at_call 7; refine (alive_any _).mono ?_; rintro e w' ⟨rfl, rfl⟩)
    go_ret
    exact ⟨rfl, Below.refl _ _⟩
  · obtain ⟨l, hsrc⟩ := src_of w0
    exact walk_in a0 len0 cap0 l w hsrc (by omega) hT A hE

/-! ### THE ROW's STEP: WRITTEN OUT: LEAVE IT -/
set_option maxRecDepth 100000 in
theorem lifted (os : Os) (started : os.Started) (H : Type) (enc : TypeId × Value → H) :
    ReturnsInHanded {} Tryd.checked os 6 .any (fun w args => (Rows.runesTextsSpec.pre enc Tryd.prog Tryd.f6 [] false w args ∧ laidMetH Tryd.prog Rows.runesTextsRow.laid w) ∧ sizedMet enc Tryd.prog Tryd.f6 (OpenSpec.ofChange Rows.runesTextsSpec) false w args)
      (Rows.runesTextsSpec.post enc Tryd.prog Tryd.f6 false true false false) := by
  refine returnsInHanded_of_change_and (C := Tryd.checked) (X := fun w _ => laidMetH Tryd.prog Rows.runesTextsRow.laid w) (fun _ _ _ hh h => h.of_heap hh) own started (by kernel_rfl) Tryd.func6
    (ChangeSpec.witness_shaped (enc := enc) (C := Tryd.checked) (os := os) (X := fun w _ => laidMetH Tryd.prog Rows.runesTextsRow.laid w) false (World.laidAll Tryd.prog os Rows.runesTextsRow.laid) #[.slice none 0 0] 8 (World.laidAll_os _ _ _)
      (World.shaped_of_ZipB (by kernel_rfl) (by kernel_rfl)) (by kernel_rfl) (by kernel_rfl) (by kernel_rfl)
      (by rw [MakeChecks.laidMetH_plain _ _ _ (by kernel_rfl)]; exact laidMet_laidAll _ (by kernel_rfl) (by kernel_rfl))) ?_
  intro W base args ds gs before hval0 hW _ _ hL _
  have hval : ∀ (j : Nat) t v, Tryd.f6.params[j]? = some t → args[j]? = some v → Value.okWide Tryd.prog W .any base t v := hval0
  have hW' := hW
  obtain ⟨p, q, hA0, hV, rfl, hfz, hnd⟩ := hW
  have hA : DataW.TrodAll enc Tryd.prog W 0 (fun _ => true) true Tryd.f6.params.toList args.toList ds p := hA0
  rw [Tryd.params6] at hA hval
  obtain ⟨v0, vs0, d0, ds0, p0, q0, hargs, rfl, rfl, h0, r0⟩ := trodAll_cons hA
  obtain ⟨rfl, rfl, rfl⟩ := trodAll_nil r0
  obtain rfl : args = #[v0] := by cases args; simp_all
  obtain ⟨rfl, rfl⟩ := trodVars_none hV
  obtain ⟨a0, len0, cap0, rfl⟩ := okWide_slice Tryd.underlying32 (hval 0 32 v0 rfl rfl)
  have k0 := h0
  have lt0 : ∀ x ∈ p0, x.block < W.heap.size := by obtain ⟨m, hm⟩ := k0; exact DataW.trod_lt m _ _ _ hm
  obtain ⟨z0, w0⟩ : ∃ zs, IsRow .i64 W a0 len0 cap0 zs := by
    obtain ⟨fuel, hf⟩ := h0
    rcases open_ints Tryd.underlying32 Tryd.underlying3 (by kernel_rfl) hf with ⟨hcs, _⟩ | ⟨x, l, c, zs, hcs, _, hl, hm, hz, _, hcell, hwz⟩
    · simp [Value.cells] at hcs
      obtain ⟨rfl, rfl, rfl⟩ := hcs
      exact ⟨[], .inl ⟨rfl, rfl, rfl, rfl⟩⟩
    · simp [Value.cells] at hcs
      obtain ⟨rfl, rfl, rfl⟩ := hcs
      exact ⟨zs, .inr ⟨_, rfl, hl, hm, by simpa using hz, hcell, hwz⟩⟩
  clear hA0 hval0
  refine (walk a0 len0 cap0 z0 W w0 (conds_of_row hL)).mono fun e W' ⟨he, bel⟩ => ?_
  subst he
  exact ⟨_, rfl, _, _, _, [], _, [], hW', trodAll_mk1 (shut_bool Tryd.underlying4 _), (trodAll_cons_mk (Below.trod laidOut (by kernel_rfl) (of_decide_eq_true (by kernel_rfl)) k0 bel lt0) trodAll_mk0), rfl, bel.frame _, fun h => by cases h⟩

theorem over : Rows.runesTextsRow.holds Tryd.pinned (OpenSpec.ofChange Rows.runesTextsSpec) :=
  OpenClaim.holds_of_wide 6 Tryd.f6 rfl rfl rfl rfl rfl rfl rfl ⟨rfl, rfl, rfl, rfl, rfl⟩ rfl rfl rfl rfl rfl (by kernel_rfl) Tryd.func6 (by kernel_rfl)
    (of_decide_eq_true (by kernel_rfl)) (by unfold Func.isWrapper; first | (rw [if_pos (by decide +kernel)]; kernel_rfl) | (rw [if_neg (by decide +kernel)]; exact ⟨rfl, rfl⟩))
    (fun os started H enc _ => lifted os started H enc)

theorem card : Rows.RunesTextsCardSaid :=
  Claim7.holds_tied_plain_at .later [] [.data, .sentinel, .sentinel, .sentinel, .sentinel, .sentinel, .sentinel, .sentinel, .sentinel, .sentinel, .sentinel, .sentinel, .sentinel, .sentinel, .pinned] true (true, "a7f6d6e156c724bf9ac27bc6024a9e3f04f09948258126a0db973123ac31e296") true
    over (fun _ h => by cases h) (by kernel_rfl) (fun _ h => by cases h) runesTexts_row_tie rfl ⟨rfl, rfl⟩ (by kernel_rfl) rfl
    (fun f fn hf hfn => by
      obtain rfl : f = 6 := Option.some.inj ((show Tryd.prog.funcNamed "haversack/haversacklaw01.RunesTexts" = some 6 by kernel_rfl).symm.trans hf) |>.symm
      obtain rfl : fn = Tryd.f6 := (Option.some.inj (Tryd.func6.symm.trans hfn)).symm
      exact ⟨by kernel_rfl, fun j t ht => by
        rw [Tryd.params6] at ht
        have hm : t ∈ [32] := by simpa using Array.mem_of_getElem? ht
        have hall : ([32].all fun u => !Tryd.prog.wantsStandIn u) = true := by kernel_rfl
        exact (show Tryd.prog.wantsStandIn t = false by simpa using List.all_eq_true.1 hall t hm)⟩)
    (by kernel_rfl)
#print axioms card
end Go.Proofs.YtmconmlfbgndoaaDoor.runesTexts
