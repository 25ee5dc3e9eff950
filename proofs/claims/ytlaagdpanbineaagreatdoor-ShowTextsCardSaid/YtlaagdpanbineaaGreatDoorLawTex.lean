/- ShowTexts: for every value that is not too great for the statement, show.Text answers the text that the document says, which json.Parse reads as the same value again, if the value is right, and no text and the error of a wrong type, if it is not. The errors of package api that the program text lists, the two errors of package strconv, the table of powers of ten, the two tables of package unicode/utf8 (and two of package math/bits), the escapes of package quote and the words of package show read as the program text lays them (the card ties them to the text). No other condition. -/
import Derived.Test.YtlaagdpanbineaaGreatDoorRows
import Derived.Test.YtlaagdpanbineaaGreatDoorLt
import Derived.Test.YtlaagdpanbineaaGreatDoorKo
import Derived.Test.YtlaagdpanbineaaGreatDoorTie
import Derived.Test.YtlaagdpanbineaaGreatDoorCards
import Derived.Lay
import Derived.MakeChecks
import Derived.Stop.Joined
import Derived.SevenTiedAt
import Derived.WalkKit
import Derived.ProofKit
import Derived.OpenShut
import Derived.ShutString
import Derived.ChangeOld
import Derived.Below
import Derived.Deep.Grids
namespace Go.Proofs.YtlaagdpanbineaaGreatDoor.showTexts
open Go.ChangeShapes Go.WideShapes Go.ChangeAt Go.RowKit
open Go.ChangeMaps (open_string shut_string)
set_option linter.unusedVariables false

theorem has : I2.Has 13 Rows.showTextsRow.laid where
  errs := fun k hk => match k, hk with
    | 0, _ => by simp [Rows.showTextsRow, eName, eText, sentD, Rows.laid_haversack_api_ErrSyntax]
    | 1, _ => by simp [Rows.showTextsRow, eName, eText, sentD, Rows.laid_haversack_api_ErrDepth]
    | 2, _ => by simp [Rows.showTextsRow, eName, eText, sentD, Rows.laid_haversack_api_ErrSize]
    | 3, _ => by simp [Rows.showTextsRow, eName, eText, sentD, Rows.laid_haversack_api_ErrNumber]
    | 4, _ => by simp [Rows.showTextsRow, eName, eText, sentD, Rows.laid_haversack_api_ErrKey]
    | 5, _ => by simp [Rows.showTextsRow, eName, eText, sentD, Rows.laid_haversack_api_ErrType]
    | 6, _ => by simp [Rows.showTextsRow, eName, eText, sentD, Rows.laid_haversack_api_ErrName]
    | 7, _ => by simp [Rows.showTextsRow, eName, eText, sentD, Rows.laid_haversack_api_ErrVersion]
    | 8, _ => by simp [Rows.showTextsRow, eName, eText, sentD, Rows.laid_haversack_api_ErrSpec]
    | 9, _ => by simp [Rows.showTextsRow, eName, eText, sentD, Rows.laid_haversack_api_ErrRange]
    | 10, _ => by simp [Rows.showTextsRow, eName, eText, sentD, Rows.laid_haversack_api_ErrNone]
    | 11, _ => by simp [Rows.showTextsRow, eName, eText, sentD, Rows.laid_haversack_api_ErrLimit]
    | 12, _ => by simp [Rows.showTextsRow, eName, eText, sentD, Rows.laid_haversack_api_ErrTwice]
    | k + 13, h => absurd h (by omega)
  rng := by simp [Rows.showTextsRow, sentD, Rows.laid_strconv_ErrRange]
  tab := ⟨("math/bits.deBruijn32tab", Rows.laid_math_bits_deBruijn32tab), ("math/bits.deBruijn64tab", Rows.laid_math_bits_deBruijn64tab), Rows.showTextsRow.laid.drop 3, by kernel_rfl⟩
theorem cond_of {W : World} {l : List (String × DataW Unit)} (hl : l = Rows.showTextsRow.laid) (h : laidMetH Tryz.prog l W) : ∃ A, CondT W A := by
  subst hl
  rw [MakeChecks.laidMetH_plain _ _ _ (by kernel_rfl)] at h
  obtain ⟨A, h1, h2⟩ := conds_of (K := 13) (by omega) (by omega) has (by simp [Rows.showTextsRow]) (by simp [Rows.showTextsRow]) h
  exact ⟨A, ⟨h1, h2⟩, h1.s.tabs, fun k hk => esc_of (Lib.laidMet.reads h (by simp [Rows.showTextsRow])) k hk, fun k hk => wrd_of (Lib.laidMet.reads h (by simp [Rows.showTextsRow])) k hk, h1.n.tab⟩

theorem own : ownKnob Tryz.prog.godebug = none := by kernel_rfl
theorem laidOut : laidOutB Tryz.prog = true := by kernel_rfl

set_option maxHeartbeats 1000000 in
theorem walk (w : World) (t : NT) (g : Nat) (kd nn : Int) (Y : ByteArray) (S1 : Option Addr) (l1 c1 : Nat) (S2 : Option Addr) (l2 c2 : Nat) (hN : NIs (fun _ => True) g w t (.agg #[.int .i64 kd, .int .i64 nn, .string Y, .slice S1 l1 c1, .slice S2 l2 c2])) (hK : KCap w.heap.size g w t (.agg #[.int .i64 kd, .int .i64 nn, .string Y, .slice S1 l1 c1, .slice S2 l2 c2])) (ho : okLen t) (hi : okInt t) (hT : ∃ A, CondT w A) :
    Calls Tryz.prog 4 #[.agg #[.int .i64 kd, .int .i64 nn, .string Y, .slice S1 l1 c1, .slice S2 l2 c2]] w fun e w' => e = .returned (.bool true) ∧ Below w.heap.size w w' := by
  obtain ⟨A, hC⟩ := hT
  exact law_texts w A hC g t kd nn Y S1 l1 c1 S2 l2 c2 hN hK ho hi

/-! ### THE ROW's STEP: WRITTEN OUT: LEAVE IT -/
set_option maxRecDepth 100000 in
theorem lifted (os : Os) (started : os.Started) (H : Type) (enc : TypeId × Value → H) :
    ReturnsInHanded {} Tryz.checked os 4 .any (fun w args => (Rows.showTextsSpec.pre enc Tryz.prog Tryz.f4 [] false w args ∧ laidMetH Tryz.prog Rows.showTextsRow.laid w) ∧ sizedMet enc Tryz.prog Tryz.f4 (OpenSpec.ofChange Rows.showTextsSpec) false w args)
      (Rows.showTextsSpec.post enc Tryz.prog Tryz.f4 false true false false) := by
  refine returnsInHanded_of_change_and (C := Tryz.checked) (X := fun w _ => laidMetH Tryz.prog Rows.showTextsRow.laid w) (fun _ _ _ hh h => h.of_heap hh) own started (by kernel_rfl) Tryz.func4
    (ChangeSpec.witness_shaped (enc := enc) (C := Tryz.checked) (os := os) (X := fun w _ => laidMetH Tryz.prog Rows.showTextsRow.laid w) false (World.laidAll Tryz.prog os Rows.showTextsRow.laid) #[.agg #[.int .i64 0, .int .i64 0, .string ⟨#[]⟩, .slice none 0 0, .slice none 0 0]] 8 (World.laidAll_os _ _ _)
      (World.shaped_of_ZipB (by kernel_rfl) (by kernel_rfl)) (by kernel_rfl) (by kernel_rfl) (by kernel_rfl)
      (by rw [MakeChecks.laidMetH_plain _ _ _ (by kernel_rfl)]; exact laidMet_laidAll _ (by kernel_rfl) (by kernel_rfl))) ?_
  intro W base args ds gs before hval0 hW _ _ hL _
  have hval : ∀ (j : Nat) t v, Tryz.f4.params[j]? = some t → args[j]? = some v → Value.okWide Tryz.prog W .any base t v := hval0
  have hW' := hW
  obtain ⟨p, q, hA0, hV, rfl, hfz, hnd⟩ := hW
  have hA : DataW.TrodAll enc Tryz.prog W 0 (fun _ => true) true Tryz.f4.params.toList args.toList ds p := hA0
  rw [Tryz.params4] at hA hval
  obtain ⟨v0, vs0, d0, ds0, p0, q0, hargs, rfl, rfl, h0, r0⟩ := trodAll_cons hA
  obtain ⟨rfl, rfl, rfl⟩ := trodAll_nil r0
  obtain rfl : args = #[v0] := by cases args; simp_all
  obtain ⟨rfl, rfl⟩ := trodVars_none hV
  have k0 := h0
  have lt0 : ∀ x ∈ p0, x.block < W.heap.size := by obtain ⟨m, hm⟩ := k0; exact DataW.trod_lt m _ _ _ hm
  obtain ⟨t, g, kd, nn, Y, S1, l1, c1, S2, l2, c2, rfl, hN, hK, ho, hi⟩ := open_whole h0
  clear hA0 hval0
  refine (walk W t g kd nn Y S1 l1 c1 S2 l2 c2 hN hK ho hi (cond_of rfl hL)).mono fun e W' ⟨he, bel⟩ => ?_
  subst he
  exact ⟨_, rfl, _, _, _, [], _, [], hW', trodAll_mk1 (shut_bool Tryz.underlying4 _), (trodAll_cons_mk (Below.trod laidOut (by kernel_rfl) (of_decide_eq_true (by kernel_rfl)) k0 bel lt0) trodAll_mk0), rfl, bel.frame _, fun h => by cases h⟩

theorem over : Rows.showTextsRow.holds Tryz.pinned (OpenSpec.ofChange Rows.showTextsSpec) :=
  OpenClaim.holds_of_wide 4 Tryz.f4 rfl rfl rfl rfl rfl rfl rfl ⟨rfl, rfl, rfl, rfl, rfl⟩ rfl rfl rfl rfl rfl (by kernel_rfl) Tryz.func4 (by kernel_rfl)
    (of_decide_eq_true (by kernel_rfl)) (by unfold Func.isWrapper; first | (rw [if_pos (by decide +kernel)]; kernel_rfl) | (rw [if_neg (by decide +kernel)]; exact ⟨rfl, rfl⟩))
    (fun os started H enc _ => lifted os started H enc)

theorem card : Rows.ShowTextsCardSaid :=
  Claim7.holds_tied_plain_at .later [] [.data, .data, .data, .data, .sentinel, .sentinel, .sentinel, .sentinel, .sentinel, .sentinel, .sentinel, .sentinel, .sentinel, .sentinel, .sentinel, .sentinel, .sentinel, .sentinel, .sentinel, .data, .data, .pinned] true (true, "863c6d8af1649235086d3a2e09edf8c657f2b31bb003afd06a77f3215990fb00") true
    over (fun _ h => by cases h) (by kernel_rfl) (fun _ h => by cases h) showTexts_row_tie rfl ⟨rfl, rfl⟩ (by kernel_rfl) rfl
    (fun f fn hf hfn => by
      obtain rfl : f = 4 := Option.some.inj ((show Tryz.prog.funcNamed "haversack/haversacklaw05.ShowTexts" = some 4 by kernel_rfl).symm.trans hf) |>.symm
      obtain rfl : fn = Tryz.f4 := (Option.some.inj (Tryz.func4.symm.trans hfn)).symm
      exact ⟨by kernel_rfl, fun j t ht => by
        rw [Tryz.params4] at ht
        have hm : t ∈ [26] := by simpa using Array.mem_of_getElem? ht
        have hall : ([26].all fun u => !Tryz.prog.wantsStandIn u) = true := by kernel_rfl
        exact (show Tryz.prog.wantsStandIn t = false by simpa using List.all_eq_true.1 hall t hm)⟩)
    (by kernel_rfl)
#print axioms card
end Go.Proofs.YtlaagdpanbineaaGreatDoor.showTexts
