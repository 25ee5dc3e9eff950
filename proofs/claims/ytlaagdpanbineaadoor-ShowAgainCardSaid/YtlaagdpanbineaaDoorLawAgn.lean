/- ShowAgain: for every text of at most 2000 bytes that json.Parse reads (of another one the statement asks nothing), show.Text of its value is a text that is read as the same value again, and whose value has the same text. The errors of package api that the program text lists, the two errors of package strconv, the table of powers of ten, the two tables of package unicode/utf8 (and two of package math/bits), the escapes of package quote and the words of package show read as the program text lays them (the card ties them to the text). No other condition. -/
import Derived.Test.YtlaagdpanbineaaDoorRows
import Derived.Test.YtlaagdpanbineaaDoorWg
import Derived.Test.YtlaagdpanbineaaDoorTie
import Derived.Test.YtlaagdpanbineaaDoorCards
import Derived.Lay
import Derived.MakeChecks
import Derived.Stop.Joined
import Derived.SevenTiedAt
import Derived.WalkKit
import Derived.ProofKit
import Derived.OpenShut
import Derived.ShutString
import Derived.ChangeOld
import Derived.Below
import Derived.Deep.Grids
namespace Go.Proofs.YtlaagdpanbineaaDoor.showAgain
open Go.ChangeShapes Go.WideShapes Go.ChangeAt Go.RowKit
open Go.ChangeMaps (open_string shut_string)
set_option linter.unusedVariables false

theorem has : I2.Has 6 Rows.showAgainRow.laid where
  errs := fun k hk => match k, hk with
    | 0, _ => by simp [Rows.showAgainRow, eName, eText, sentD, Rows.laid_haversack_api_ErrSyntax]
    | 1, _ => by simp [Rows.showAgainRow, eName, eText, sentD, Rows.laid_haversack_api_ErrDepth]
    | 2, _ => by simp [Rows.showAgainRow, eName, eText, sentD, Rows.laid_haversack_api_ErrSize]
    | 3, _ => by simp [Rows.showAgainRow, eName, eText, sentD, Rows.laid_haversack_api_ErrNumber]
    | 4, _ => by simp [Rows.showAgainRow, eName, eText, sentD, Rows.laid_haversack_api_ErrKey]
    | 5, _ => by simp [Rows.showAgainRow, eName, eText, sentD, Rows.laid_haversack_api_ErrType]
    | k + 6, h => absurd h (by omega)
  rng := by simp [Rows.showAgainRow, sentD, Rows.laid_strconv_ErrRange]
  tab := ⟨("math/bits.deBruijn32tab", Rows.laid_math_bits_deBruijn32tab), ("math/bits.deBruijn64tab", Rows.laid_math_bits_deBruijn64tab), Rows.showAgainRow.laid.drop 3, by kernel_rfl⟩
theorem cond_of {W : World} {l : List (String × DataW Unit)} (hl : l = Rows.showAgainRow.laid) (h : laidMetH Tryd.prog l W) : ∃ A, CondA W A := by
  subst hl
  rw [MakeChecks.laidMetH_plain _ _ _ (by kernel_rfl)] at h
  obtain ⟨A, h1, _⟩ := conds_of (K := 6) (by omega) (by omega) has (by simp [Rows.showAgainRow]) (by simp [Rows.showAgainRow]) h
  exact ⟨A, h1, h1.s.tabs, fun k hk => esc_of (Lib.laidMet.reads h (by simp [Rows.showAgainRow])) k hk, fun k hk => wrd_of (Lib.laidMet.reads h (by simp [Rows.showAgainRow])) k hk, h1.n.tab⟩

theorem own : ownKnob Tryd.prog.godebug = none := by kernel_rfl
theorem laidOut : laidOutB Tryd.prog = true := by kernel_rfl

set_option maxHeartbeats 1000000 in
theorem walk (w : World) (s0 : ByteArray) (hT : ∃ A, CondA w A) :
    Calls Tryd.prog 6 #[.string s0] w fun e w' => e = .returned (.bool true) ∧ Below w.heap.size w w' := by
  obtain ⟨A, hC⟩ := hT
  exact law_again w A hC s0

/-! ### THE ROW's STEP: WRITTEN OUT: LEAVE IT -/
set_option maxRecDepth 100000 in
theorem lifted (os : Os) (started : os.Started) (H : Type) (enc : TypeId × Value → H) :
    ReturnsInHanded {} Tryd.checked os 6 .any (fun w args => (Rows.showAgainSpec.pre enc Tryd.prog Tryd.f6 [] false w args ∧ laidMetH Tryd.prog Rows.showAgainRow.laid w) ∧ sizedMet enc Tryd.prog Tryd.f6 (OpenSpec.ofChange Rows.showAgainSpec) false w args)
      (Rows.showAgainSpec.post enc Tryd.prog Tryd.f6 false true false false) := by
  refine returnsInHanded_of_change_and (C := Tryd.checked) (X := fun w _ => laidMetH Tryd.prog Rows.showAgainRow.laid w) (fun _ _ _ hh h => h.of_heap hh) own started (by kernel_rfl) Tryd.func6
    (ChangeSpec.witness_shaped (enc := enc) (C := Tryd.checked) (os := os) (X := fun w _ => laidMetH Tryd.prog Rows.showAgainRow.laid w) false (World.laidAll Tryd.prog os Rows.showAgainRow.laid) #[.string ByteArray.empty] 8 (World.laidAll_os _ _ _)
      (World.shaped_of_ZipB (by kernel_rfl) (by kernel_rfl)) (by kernel_rfl) (by kernel_rfl) (by kernel_rfl)
      (by rw [MakeChecks.laidMetH_plain _ _ _ (by kernel_rfl)]; exact laidMet_laidAll _ (by kernel_rfl) (by kernel_rfl))) ?_
  intro W base args ds gs before hval0 hW _ _ hL _
  have hval : ∀ (j : Nat) t v, Tryd.f6.params[j]? = some t → args[j]? = some v → Value.okWide Tryd.prog W .any base t v := hval0
  have hW' := hW
  obtain ⟨p, q, hA0, hV, rfl, hfz, hnd⟩ := hW
  have hA : DataW.TrodAll enc Tryd.prog W 0 (fun _ => true) true Tryd.f6.params.toList args.toList ds p := hA0
  rw [Tryd.params6] at hA hval
  obtain ⟨v0, vs0, d0, ds0, p0, q0, hargs, rfl, rfl, h0, r0⟩ := trodAll_cons hA
  obtain ⟨rfl, rfl, rfl⟩ := trodAll_nil r0
  obtain rfl : args = #[v0] := by cases args; simp_all
  obtain ⟨rfl, rfl⟩ := trodVars_none hV
  obtain ⟨s0, rfl, rfl, rfl, hs0⟩ := open_string Tryd.underlying9 (hval 0 9 v0 rfl rfl) h0
  clear hA0 hval0
  refine (walk W s0 (cond_of rfl hL)).mono fun e W' ⟨he, bel⟩ => ?_
  subst he
  exact ⟨_, rfl, _, _, _, [], _, [], hW', trodAll_mk1 (shut_bool Tryd.underlying4 _), (trodAll_cons_mk (shut_string Tryd.underlying9 hs0) trodAll_mk0), rfl, bel.frame _, fun h => by cases h⟩

theorem over : Rows.showAgainRow.holds Tryd.pinned (OpenSpec.ofChange Rows.showAgainSpec) :=
  OpenClaim.holds_of_wide 6 Tryd.f6 rfl rfl rfl rfl rfl rfl rfl ⟨rfl, rfl, rfl, rfl, rfl⟩ rfl rfl rfl rfl rfl (by kernel_rfl) Tryd.func6 (by kernel_rfl)
    (of_decide_eq_true (by kernel_rfl)) (by unfold Func.isWrapper; first | (rw [if_pos (by decide +kernel)]; kernel_rfl) | (rw [if_neg (by decide +kernel)]; exact ⟨rfl, rfl⟩))
    (fun os started H enc _ => lifted os started H enc)

theorem card : Rows.ShowAgainCardSaid :=
  Claim7.holds_tied_plain_at .later [] [.data, .data, .data, .data, .sentinel, .sentinel, .sentinel, .sentinel, .sentinel, .sentinel, .sentinel, .sentinel, .data, .data, .pinned] true (true, "36de373d24486f3e23eec5c8264b0abc14ec4e746390189ff37c47e5235d49b1") true
    over (fun _ h => by cases h) (by kernel_rfl) (fun _ h => by cases h) showAgain_row_tie rfl ⟨rfl, rfl⟩ (by kernel_rfl) rfl
    (fun f fn hf hfn => by
      obtain rfl : f = 6 := Option.some.inj ((show Tryd.prog.funcNamed "haversack/haversacklaw05.ShowAgain" = some 6 by kernel_rfl).symm.trans hf) |>.symm
      obtain rfl : fn = Tryd.f6 := (Option.some.inj (Tryd.func6.symm.trans hfn)).symm
      exact ⟨by kernel_rfl, fun j t ht => by
        rw [Tryd.params6] at ht
        have hm : t ∈ [9] := by simpa using Array.mem_of_getElem? ht
        have hall : ([9].all fun u => !Tryd.prog.wantsStandIn u) = true := by kernel_rfl
        exact (show Tryd.prog.wantsStandIn t = false by simpa using List.all_eq_true.1 hall t hm)⟩)
    (by kernel_rfl)
#print axioms card
end Go.Proofs.YtlaagdpanbineaaDoor.showAgain
