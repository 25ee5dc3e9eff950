/- ShowObjects: for every list of keys and every list of values, if neither holds more than 50, the keys are not too long and no value is too great for the statement: where there are not as many keys as values show.Object answers ErrType, where a key stands twice ErrKey, and otherwise an Object whose keys are they and whose members are found by show.Get. The thirteen errors of package api, the table of powers of ten, the two tables of package unicode/utf8 (and two of package math/bits), the escapes of package quote and the words of package show read as the program text lays them (the card ties them to the text). No other condition. -/
import Derived.Test.YtlaagdpanbineaaDoorRows
import Derived.Test.YtlaagdpanbineaaDoorOg
import Derived.Test.YtlaagdpanbineaaDoorTie
import Derived.Test.YtlaagdpanbineaaDoorCards
import Derived.Lay
import Derived.MakeChecks
import Derived.Stop.Joined
import Derived.SevenTiedAt
import Derived.WalkKit
import Derived.ProofKit
import Derived.OpenShut
import Derived.ShutString
import Derived.ChangeOld
import Derived.Below
import Derived.Deep.Grids
namespace Go.Proofs.YtlaagdpanbineaaDoor.showObjects
open Go.ChangeShapes Go.WideShapes Go.ChangeAt Go.RowKit
open Go.ChangeMaps (open_string shut_string)
set_option linter.unusedVariables false

theorem errs_in : ∀ k, k < 13 → (eName k, sentD "*errors.errorString" (eText k)) ∈ Rows.showObjectsRow.laid := fun k hk => match k, hk with
  | 0, _ => by simp [Rows.showObjectsRow, eName, eText, sentD, Rows.laid_haversack_api_ErrSyntax]
  | 1, _ => by simp [Rows.showObjectsRow, eName, eText, sentD, Rows.laid_haversack_api_ErrDepth]
  | 2, _ => by simp [Rows.showObjectsRow, eName, eText, sentD, Rows.laid_haversack_api_ErrSize]
  | 3, _ => by simp [Rows.showObjectsRow, eName, eText, sentD, Rows.laid_haversack_api_ErrNumber]
  | 4, _ => by simp [Rows.showObjectsRow, eName, eText, sentD, Rows.laid_haversack_api_ErrKey]
  | 5, _ => by simp [Rows.showObjectsRow, eName, eText, sentD, Rows.laid_haversack_api_ErrType]
  | 6, _ => by simp [Rows.showObjectsRow, eName, eText, sentD, Rows.laid_haversack_api_ErrName]
  | 7, _ => by simp [Rows.showObjectsRow, eName, eText, sentD, Rows.laid_haversack_api_ErrVersion]
  | 8, _ => by simp [Rows.showObjectsRow, eName, eText, sentD, Rows.laid_haversack_api_ErrSpec]
  | 9, _ => by simp [Rows.showObjectsRow, eName, eText, sentD, Rows.laid_haversack_api_ErrRange]
  | 10, _ => by simp [Rows.showObjectsRow, eName, eText, sentD, Rows.laid_haversack_api_ErrNone]
  | 11, _ => by simp [Rows.showObjectsRow, eName, eText, sentD, Rows.laid_haversack_api_ErrLimit]
  | 12, _ => by simp [Rows.showObjectsRow, eName, eText, sentD, Rows.laid_haversack_api_ErrTwice]
  | k + 13, h => absurd h (by omega)
theorem cond_of {W : World} {l : List (String × DataW Unit)} (hl : l = Rows.showObjectsRow.laid) (h : laidMetH Tryd.prog l W) : ∃ A, CondO W A := by
  subst hl
  rw [MakeChecks.laidMetH_plain _ _ _ (by kernel_rfl)] at h
  obtain ⟨A, hA⟩ := errs_of (K := 13) (by omega) errs_in h
  have h2 := h
  have ht : Rows.showObjectsRow.laid = ("math/bits.deBruijn32tab", Rows.laid_math_bits_deBruijn32tab) :: ("math/bits.deBruijn64tab", Rows.laid_math_bits_deBruijn64tab) :: ("internal/strconv.uint64pow10", Lib.tabData .u64 Lib.pow10Tab) :: Rows.showObjectsRow.laid.drop 3 := by kernel_rfl
  rw [ht] at h2
  exact ⟨A, hA, tabs_of _ h (by simp [Rows.showObjectsRow]) (by simp [Rows.showObjectsRow]), fun k hk => esc_of (Lib.laidMet.reads h (by simp [Rows.showObjectsRow])) k hk, fun k hk => wrd_of (Lib.laidMet.reads h (by simp [Rows.showObjectsRow])) k hk,
    Lib.tabIs_of_head (t := 159) (e := 132) (n := 20) (g := 19) (by kernel_rfl) (by kernel_rfl) Tryd.underlying159 Tryd.underlying132 (by kernel_rfl) (by kernel_rfl) h2.tail.tail⟩

theorem own : ownKnob Tryd.prog.godebug = none := by kernel_rfl
theorem laidOut : laidOutB Tryd.prog = true := by kernel_rfl

set_option maxHeartbeats 1000000 in
theorem walk (w : World) (S1 S : Option Addr) (ks : List (List UInt8)) (kids : List NT) (c0 c1 g : Nat) (hKs : StrAt (fun _ => True) w (.slice S1 ks.length c0) ks) (hKd : KidsAt (fun _ => True) g w S kids) (hcap : ks.length ≤ c0) (hall : ∀ t ∈ kids, okLen t) (hT : ∃ A, CondO w A) :
    Calls Tryd.prog 5 #[.slice S1 ks.length c0, .slice S kids.length c1] w fun e w' => e = .returned (.bool true) ∧ Below w.heap.size w w' := by
  obtain ⟨A, hC⟩ := hT
  exact law_objects w A hC g S1 S ks kids c0 c1 hKs hKd hcap hall

/-! ### THE ROW's STEP: WRITTEN OUT: LEAVE IT -/
set_option maxRecDepth 100000 in
theorem lifted (os : Os) (started : os.Started) (H : Type) (enc : TypeId × Value → H) :
    ReturnsInHanded {} Tryd.checked os 5 .any (fun w args => (Rows.showObjectsSpec.pre enc Tryd.prog Tryd.f5 [] false w args ∧ laidMetH Tryd.prog Rows.showObjectsRow.laid w) ∧ sizedMet enc Tryd.prog Tryd.f5 (OpenSpec.ofChange Rows.showObjectsSpec) false w args)
      (Rows.showObjectsSpec.post enc Tryd.prog Tryd.f5 false true false false) := by
  refine returnsInHanded_of_change_and (C := Tryd.checked) (X := fun w _ => laidMetH Tryd.prog Rows.showObjectsRow.laid w) (fun _ _ _ hh h => h.of_heap hh) own started (by kernel_rfl) Tryd.func5
    (ChangeSpec.witness_shaped (enc := enc) (C := Tryd.checked) (os := os) (X := fun w _ => laidMetH Tryd.prog Rows.showObjectsRow.laid w) false (World.laidAll Tryd.prog os Rows.showObjectsRow.laid) #[.slice none 0 0, .slice none 0 0] 8 (World.laidAll_os _ _ _)
      (World.shaped_of_ZipB (by kernel_rfl) (by kernel_rfl)) (by kernel_rfl) (by kernel_rfl) (by kernel_rfl)
      (by rw [MakeChecks.laidMetH_plain _ _ _ (by kernel_rfl)]; exact laidMet_laidAll _ (by kernel_rfl) (by kernel_rfl))) ?_
  intro W base args ds gs before hval0 hW _ _ hL _
  have hval : ∀ (j : Nat) t v, Tryd.f5.params[j]? = some t → args[j]? = some v → Value.okWide Tryd.prog W .any base t v := hval0
  have hW' := hW
  obtain ⟨p, q, hA0, hV, rfl, hfz, hnd⟩ := hW
  have hA : DataW.TrodAll enc Tryd.prog W 0 (fun _ => true) true Tryd.f5.params.toList args.toList ds p := hA0
  rw [Tryd.params5] at hA hval
  obtain ⟨v0, vs0, d0, ds0, p0, q0, hargs, rfl, rfl, h0, r0⟩ := trodAll_cons hA
  obtain ⟨v1, vs1, d1, ds1, p1, q1, rfl, rfl, rfl, h1, r1⟩ := trodAll_cons r0
  obtain ⟨rfl, rfl, rfl⟩ := trodAll_nil r1
  obtain rfl : args = #[v0, v1] := by cases args; simp_all
  obtain ⟨rfl, rfl⟩ := trodVars_none hV
  have k0 := h0
  have k1 := h1
  have lt0 : ∀ x ∈ p0, x.block < W.heap.size := by obtain ⟨m, hm⟩ := k0; exact DataW.trod_lt m _ _ _ hm
  have lt1 : ∀ x ∈ p1, x.block < W.heap.size := by obtain ⟨m, hm⟩ := k1; exact DataW.trod_lt m _ _ _ hm
  obtain ⟨a0, len0, cap0, rfl⟩ := okWide_slice Tryd.underlying22 (hval 0 22 v0 rfl rfl)
  obtain ⟨a1, len1, cap1, rfl⟩ := okWide_slice Tryd.underlying23 (hval 1 23 v1 rfl rfl)
  obtain ⟨m0, hm0⟩ := h0
  obtain ⟨m1, hm1⟩ := h1
  have hcap := strs_cap hm0
  obtain ⟨ks, hks0, _⟩ := strs_open (c := .slice a0 len0 cap0) hm0
  obtain ⟨A0, C0, hv0, _⟩ := id hks0
  obtain ⟨rfl, rfl, rfl⟩ : a0 = A0 ∧ len0 = ks.length ∧ cap0 = C0 := by simpa using hv0
  obtain ⟨S, kids, cap, g, hv, hK, _, hall⟩ := open_nodes (c := .slice a1 len1 cap1) hm1
  obtain ⟨rfl, rfl, rfl⟩ : a1 = S ∧ len1 = kids.length ∧ cap1 = cap := by simpa using hv
  clear hA0 hval0
  refine (walk W a0 a1 ks kids cap0 cap1 g hks0 hK hcap (fun t ht => (hall t ht).1) (cond_of rfl hL)).mono fun e W' ⟨he, bel⟩ => ?_
  subst he
  exact ⟨_, rfl, _, _, _, [], _, [], hW', trodAll_mk1 (shut_bool Tryd.underlying4 _), (trodAll_cons_mk (Below.trod laidOut (by kernel_rfl) (of_decide_eq_true (by kernel_rfl)) k0 bel lt0) (trodAll_cons_mk (Below.trod laidOut (by kernel_rfl) (of_decide_eq_true (by kernel_rfl)) k1 bel lt1) trodAll_mk0)), rfl, bel.frame _, fun h => by cases h⟩

theorem over : Rows.showObjectsRow.holds Tryd.pinned (OpenSpec.ofChange Rows.showObjectsSpec) :=
  OpenClaim.holds_of_wide 5 Tryd.f5 rfl rfl rfl rfl rfl rfl rfl ⟨rfl, rfl, rfl, rfl, rfl⟩ rfl rfl rfl rfl rfl (by kernel_rfl) Tryd.func5 (by kernel_rfl)
    (of_decide_eq_true (by kernel_rfl)) (by unfold Func.isWrapper; first | (rw [if_pos (by decide +kernel)]; kernel_rfl) | (rw [if_neg (by decide +kernel)]; exact ⟨rfl, rfl⟩))
    (fun os started H enc _ => lifted os started H enc)

theorem card : Rows.ShowObjectsCardSaid :=
  Claim7.holds_tied_plain_at .later [] [.data, .data, .data, .data, .sentinel, .sentinel, .sentinel, .sentinel, .sentinel, .sentinel, .sentinel, .sentinel, .sentinel, .sentinel, .sentinel, .sentinel, .sentinel, .data, .data, .pinned] true (true, "36de373d24486f3e23eec5c8264b0abc14ec4e746390189ff37c47e5235d49b1") true
    over (fun _ h => by cases h) (by kernel_rfl) (fun _ h => by cases h) showObjects_row_tie rfl ⟨rfl, rfl⟩ (by kernel_rfl) rfl
    (fun f fn hf hfn => by
      obtain rfl : f = 5 := Option.some.inj ((show Tryd.prog.funcNamed "haversack/haversacklaw05.ShowObjects" = some 5 by kernel_rfl).symm.trans hf) |>.symm
      obtain rfl : fn = Tryd.f5 := (Option.some.inj (Tryd.func5.symm.trans hfn)).symm
      exact ⟨by kernel_rfl, fun j t ht => by
        rw [Tryd.params5] at ht
        have hm : t ∈ [22, 23] := by simpa using Array.mem_of_getElem? ht
        have hall : ([22, 23].all fun u => !Tryd.prog.wantsStandIn u) = true := by kernel_rfl
        exact (show Tryd.prog.wantsStandIn t = false by simpa using List.all_eq_true.1 hall t hm)⟩)
    (by kernel_rfl)
#print axioms card
end Go.Proofs.YtlaagdpanbineaaDoor.showObjects
