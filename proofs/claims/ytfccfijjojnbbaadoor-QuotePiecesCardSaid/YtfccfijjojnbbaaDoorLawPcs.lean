/- QuotePieces: for all texts of at most 300 bytes each (of longer ones the statement asks nothing) that are strings when they stand between quotation marks, quote.Parse reads both together, one behind the other, between quotation marks, as the two texts one behind the other; the first text is code points. The error of wrong texts of package api, the table of texts of package quote and the two tables of package unicode/utf8 read as the program text lays them (the card ties them to the text). No other condition. -/
import Derived.Test.YtfccfijjojnbbaaDoorRows
import Derived.Test.YtfccfijjojnbbaaDoorQal
import Derived.Test.YtfccfijjojnbbaaDoorPtq
import Derived.Test.YtfccfijjojnbbaaDoorTie
import Derived.Test.YtfccfijjojnbbaaDoorCards
import Derived.Lay
import Derived.MakeChecks
import Derived.Stop.Joined
import Derived.SevenTiedAt
import Derived.WalkKit
import Derived.ProofKit
import Derived.OpenShut
import Derived.ShutString
namespace Go.Proofs.YtfccfijjojnbbaaDoor.quotePieces
open Go.ChangeShapes Go.WideShapes Go.ChangeAt Go.RowKit
open Go.ChangeMaps (open_string shut_string)
set_option linter.unusedVariables false      -- a walk need not use every 'w<i>' (that an integer argument fits its kind)

theorem own : ownKnob Tryd.prog.godebug = none := by kernel_rfl

/-! ### STEP 1: THE WALK: the Go text returns true. 'Grown w w'': the world has at most new blocks (Derived/RowKit3.lean). Part the cases AHEAD of 'go_enter' where a test parts the walk; take each callee by a contract of your own. -/
set_option maxHeartbeats 1000000 in
theorem walk (a0 : ByteArray) (a1 : ByteArray) (w0 : a0.size ≤ maxLen) (w1 : a1.size ≤ maxLen) (w : World) (hT : ∃ a, CondS w a) :
    Calls Tryd.prog 8 #[.string a0, .string a1] w fun e w' => e = .returned (.bool true) ∧ Below w.heap.size w w' := by
  obtain ⟨a, hC⟩ := hT
  have hL := fun w hC => alive_any w a hC
  have HC := Lib.hid hC
  clear hC
  by_cases hlen : 300 < a0.size
  · clear w0 w1
    go_enter Tryd.func8, Tryd.ntmps8
    go_wp2_with (go_at_call 9; refine (hL _ HC.out).mono ?_; rintro e w1 ⟨rfl, hb1⟩)
    go_ret
    exact ⟨rfl, hb1⟩
  · by_cases hlen2 : 300 < a1.size
    · clear w0 w1
      go_enter Tryd.func8, Tryd.ntmps8
      go_wp2_with (go_at_call 9; refine (hL _ HC.out).mono ?_; rintro e w1 ⟨rfl, hb1⟩)
      go_ret
      exact ⟨rfl, hb1⟩
    · clear w0 w1
      have hnl := fun (w : World) => @run_eql_nil_nil_at Tryd.prog w 24 (by kernel_rfl)
      have hnn := fun (w : World) => @run_neq_nil_nil_at Tryd.prog w 24 (by kernel_rfl)
      have hni := fun (w : World) (x : Value) => @run_neq_iface_nil Tryd.prog w 24 (by kernel_rfl) 97 x
      have hX := fun w hC => parse_any (inQ a0) w a hC (by rw [inQ_size]; omega) rfl
      have hY := fun w hC => parse_any (inQ a1) w a hC (by rw [inQ_size]; omega) rfl
      cases hv : parseR (inQ a0).data.toList with
      | none =>
        rw [hv] at hX
        cases hv2 : parseR (inQ a1).data.toList with
        | none =>
          rw [hv2] at hY
          simp only [parseV, synV, inQ] at hX hY
          clear hv2 hv
          go_enter Tryd.func8, Tryd.ntmps8
          go_wp2_with fail
          refine (hL _ HC.out).mono ?_
          rintro e w1 ⟨rfl, hb1⟩
          have HC1 := Lib.hid (HC.out.below hb1)
          go_wp2_with fail
          refine (hX _ HC1.out).mono ?_
          rintro e w2 ⟨rfl, hb2⟩
          have HC2 := Lib.hid (HC1.out.below hb2)
          clear hX
          go_wp2_with fail
          refine (hY _ HC2.out).mono ?_
          rintro e w3 ⟨rfl, hb3⟩
          clear hY
          go_wp2
          go_ret
          have h12 := hb1.trans (hb2.mono hb1.size)
          exact ⟨rfl, h12.trans (hb3.mono h12.size)⟩
        | some y =>
          rw [hv2] at hY
          simp only [parseV, synV, inQ] at hX hY
          clear hv2 hv
          generalize (⟨y.toArray⟩ : ByteArray) = Y at *
          go_enter Tryd.func8, Tryd.ntmps8
          go_wp2_with fail
          refine (hL _ HC.out).mono ?_
          rintro e w1 ⟨rfl, hb1⟩
          have HC1 := Lib.hid (HC.out.below hb1)
          go_wp2_with fail
          refine (hX _ HC1.out).mono ?_
          rintro e w2 ⟨rfl, hb2⟩
          have HC2 := Lib.hid (HC1.out.below hb2)
          clear hX
          go_wp2_with fail
          refine (hY _ HC2.out).mono ?_
          rintro e w3 ⟨rfl, hb3⟩
          clear hY
          go_wp2
          go_ret
          have h12 := hb1.trans (hb2.mono hb1.size)
          exact ⟨rfl, h12.trans (hb3.mono h12.size)⟩
      | some x =>
        rw [hv] at hX
        cases hv2 : parseR (inQ a1).data.toList with
        | none =>
          rw [hv2] at hY
          simp only [parseV, synV, inQ] at hX hY
          clear hv2 hv
          generalize (⟨x.toArray⟩ : ByteArray) = X at *
          go_enter Tryd.func8, Tryd.ntmps8
          go_wp2_with fail
          refine (hL _ HC.out).mono ?_
          rintro e w1 ⟨rfl, hb1⟩
          have HC1 := Lib.hid (HC.out.below hb1)
          go_wp2_with fail
          refine (hX _ HC1.out).mono ?_
          rintro e w2 ⟨rfl, hb2⟩
          have HC2 := Lib.hid (HC1.out.below hb2)
          clear hX
          go_wp2_with fail
          refine (hY _ HC2.out).mono ?_
          rintro e w3 ⟨rfl, hb3⟩
          clear hY
          go_wp2
          go_ret
          have h12 := hb1.trans (hb2.mono hb1.size)
          exact ⟨rfl, h12.trans (hb3.mono h12.size)⟩
        | some y =>
          rw [hv2] at hY
          have hT := parse_two hv hv2
          have hZs : (⟨#[34]⟩ ++ a0 ++ a1 ++ ⟨#[34]⟩ : ByteArray).data.toList = 34 :: (a0.data.toList ++ a1.data.toList ++ [34]) := by
            rw [app_list, app_list, app_list]
            simp
          have hsz : (⟨#[34]⟩ ++ a0 ++ a1 ++ ⟨#[34]⟩ : ByteArray).size ≤ 700 := by
            rw [← size_list, hZs]
            simp only [List.length_cons, List.length_append, List.length_nil, size_list]
            omega
          rw [← hZs] at hT
          have hZ := fun w hC => parse_any (⟨#[34]⟩ ++ a0 ++ a1 ++ ⟨#[34]⟩) w a hC (by omega) hT
          obtain ⟨hvx, hxl⟩ := parse_valid hv
          obtain ⟨_, hyl⟩ := parse_valid hv2
          have hxs : (⟨x.toArray⟩ : ByteArray).size = x.length := by rw [← size_list]
          have hys : (⟨y.toArray⟩ : ByteArray).size = y.length := by rw [← size_list]
          have hPt := fun w => ref_points_yes ⟨x.toArray⟩ w (by omega) hvx
          have hxy : (⟨(x ++ y).toArray⟩ : ByteArray) = ⟨x.toArray⟩ ++ ⟨y.toArray⟩ := ba_eq (by rw [app_list])
          simp only [parseV, inQ, hxy] at hX hY hZ
          rw [← hxs] at hxl
          rw [← hys] at hyl
          clear hv2 hv hT hZs hvx hxs hys hxy hsz
          generalize pts ⟨x.toArray⟩ = ps at *
          generalize (⟨x.toArray⟩ : ByteArray) = X at *
          generalize (⟨y.toArray⟩ : ByteArray) = Y at *
          go_enter Tryd.func8, Tryd.ntmps8
          go_wp2_with fail
          refine (hL _ HC.out).mono ?_
          rintro e w1 ⟨rfl, hb1⟩
          have HC1 := Lib.hid (HC.out.below hb1)
          go_wp2_with fail
          refine (hX _ HC1.out).mono ?_
          rintro e w2 ⟨rfl, hb2⟩
          have HC2 := Lib.hid (HC1.out.below hb2)
          clear hX
          go_wp2_with fail
          refine (hY _ HC2.out).mono ?_
          rintro e w3 ⟨rfl, hb3⟩
          have HC3 := Lib.hid (HC2.out.below hb3)
          clear hY
          go_wp2_with fail
          refine (hZ _ HC3.out).mono ?_
          rintro e w4 ⟨rfl, hb4⟩
          clear hZ
          go_wp2_with fail
          refine (hPt _).mono ?_
          rintro e w5 ⟨⟨B, c, rfl, _⟩, hb5⟩
          clear hPt
          go_wp2
          go_ret
          have h12 := hb1.trans (hb2.mono hb1.size)
          have h13 := h12.trans (hb3.mono h12.size)
          have h14 := h13.trans (hb4.mono h13.size)
          exact ⟨ret_bool (by simp), h14.trans (hb5.mono h14.size)⟩

/-! ### THE ROW's STEP: WRITTEN OUT: LEAVE IT -/
set_option maxRecDepth 100000 in
theorem lifted (os : Os) (started : os.Started) (H : Type) (enc : TypeId × Value → H) :
    ReturnsInHanded {} Tryd.checked os 8 .any (fun w args => (Rows.quotePiecesSpec.pre enc Tryd.prog Tryd.f8 [] false w args ∧ laidMetH Tryd.prog Rows.quotePiecesRow.laid w) ∧ sizedMet enc Tryd.prog Tryd.f8 (OpenSpec.ofChange Rows.quotePiecesSpec) false w args)
      (Rows.quotePiecesSpec.post enc Tryd.prog Tryd.f8 false true false false) := by
  refine returnsInHanded_of_change_and (C := Tryd.checked) (X := fun w _ => laidMetH Tryd.prog Rows.quotePiecesRow.laid w) (fun _ _ _ hh h => h.of_heap hh) own started (by kernel_rfl) Tryd.func8
    (ChangeSpec.witness_shaped (enc := enc) (C := Tryd.checked) (os := os) (X := fun w _ => laidMetH Tryd.prog Rows.quotePiecesRow.laid w) false (World.laidAll Tryd.prog os Rows.quotePiecesRow.laid) #[.string ByteArray.empty, .string ByteArray.empty] 8 (World.laidAll_os _ _ _)
      (World.shaped_of_ZipB (by kernel_rfl) (by kernel_rfl)) (by kernel_rfl) (by kernel_rfl) (by kernel_rfl)
      (by rw [MakeChecks.laidMetH_plain _ _ _ (by kernel_rfl)]; exact laidMet_laidAll _ (by kernel_rfl) (by kernel_rfl))) ?_
  intro W base args ds gs before hval0 hW _ _ hL _
  have hval : ∀ (j : Nat) t v, Tryd.f8.params[j]? = some t → args[j]? = some v → Value.okWide Tryd.prog W .any base t v := hval0
  have hW' := hW
  obtain ⟨p, q, hA0, hV, rfl, hfz, hnd⟩ := hW
  have hA : DataW.TrodAll enc Tryd.prog W 0 (fun _ => true) true Tryd.f8.params.toList args.toList ds p := hA0
  rw [Tryd.params8] at hA hval
  obtain ⟨v0, vs0, d0, ds0, p0, q0, hargs, rfl, rfl, h0, r0⟩ := trodAll_cons hA
  obtain ⟨v1, vs1, d1, ds1, p1, q1, rfl, rfl, rfl, h1, r1⟩ := trodAll_cons r0
  obtain ⟨rfl, rfl, rfl⟩ := trodAll_nil r1
  obtain rfl : args = #[v0, v1] := by cases args; simp_all
  obtain ⟨rfl, rfl⟩ := trodVars_none hV
  obtain ⟨a0, rfl, rfl, rfl, w0⟩ := open_string Tryd.underlying9 (hval 0 9 v0 rfl rfl) h0
  obtain ⟨a1, rfl, rfl, rfl, w1⟩ := open_string Tryd.underlying9 (hval 1 9 v1 rfl rfl) h1
  clear hA0 hval0
  simp only [List.append_nil] at hW'
  refine (walk a0 a1 w0 w1 W (conds_of rfl hL)).mono fun e W' ⟨he, hg⟩ => ?_
  subst he
  exact ⟨_, rfl, _, _, _, [], [], [], hW', (trodAll_cons_mk (shut_bool Tryd.underlying4 _) trodAll_mk0), (trodAll_cons_mk (shut_string Tryd.underlying9 w0) (trodAll_cons_mk (shut_string Tryd.underlying9 w1) trodAll_mk0)), rfl, hg.frame _, fun h => by cases h⟩

theorem over : Rows.quotePiecesRow.holds Tryd.pinned (OpenSpec.ofChange Rows.quotePiecesSpec) :=
  OpenClaim.holds_of_wide 8 Tryd.f8 rfl rfl rfl rfl rfl rfl rfl ⟨rfl, rfl, rfl, rfl, rfl⟩ rfl rfl rfl rfl rfl (by kernel_rfl) Tryd.func8 (by kernel_rfl)
    (of_decide_eq_true (by kernel_rfl)) (by unfold Func.isWrapper; first | (rw [if_pos (by decide +kernel)]; kernel_rfl) | (rw [if_neg (by decide +kernel)]; exact ⟨rfl, rfl⟩))
    (fun os started H enc _ => lifted os started H enc)

theorem card : Rows.QuotePiecesCardSaid :=
  Claim7.holds_tied_plain_at .later [] [.data, .sentinel, .data, .pinned] true (true, "45b6966f3514b8ab6811ceba13128226111f2861c04b384094fb2636060c4105") true
    over (fun _ h => by cases h) (by kernel_rfl) (fun _ h => by cases h) quotePieces_row_tie rfl ⟨rfl, rfl⟩ (by kernel_rfl) rfl
    (fun f fn hf hfn => by
      obtain rfl : f = 8 := Option.some.inj ((show Tryd.prog.funcNamed "haversack/haversacklaw03.QuotePieces" = some 8 by kernel_rfl).symm.trans hf) |>.symm
      obtain rfl : fn = Tryd.f8 := (Option.some.inj (Tryd.func8.symm.trans hfn)).symm
      exact ⟨by kernel_rfl, fun j t ht => by
        rw [Tryd.params8] at ht
        have hm : t ∈ [9] := by simpa using Array.mem_of_getElem? ht
        have hall : ([9].all fun u => !Tryd.prog.wantsStandIn u) = true := by kernel_rfl
        exact (show Tryd.prog.wantsStandIn t = false by simpa using List.all_eq_true.1 hall t hm)⟩)
    (by kernel_rfl)
#print axioms card
end Go.Proofs.YtfccfijjojnbbaaDoor.quotePieces
