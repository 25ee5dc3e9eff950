/- ShowParts: for every list of values, if it holds at most 30 of them, each of which is not too great for the statement and has a text, show.Text of the Array of them is their texts with commas between, between brackets. The error ErrType of package api (and ErrSyntax), the table of powers of ten, the two tables of package unicode/utf8 (and two of package math/bits), the escapes of package quote and the words of package show read as the program text lays them (the card ties them to the text). No other condition. -/
import Derived.Test.YtlaagdpanbineaaDoorRows
import Derived.Test.YtlaagdpanbineaaDoorPl
import Derived.Test.YtlaagdpanbineaaDoorTie
import Derived.Test.YtlaagdpanbineaaDoorCards
import Derived.Lay
import Derived.MakeChecks
import Derived.Stop.Joined
import Derived.SevenTiedAt
import Derived.WalkKit
import Derived.ProofKit
import Derived.OpenShut
import Derived.ShutString
import Derived.ChangeOld
import Derived.Below
import Derived.Deep.Grids
namespace Go.Proofs.YtlaagdpanbineaaDoor.showParts
open Go.ChangeShapes Go.WideShapes Go.ChangeAt Go.RowKit
open Go.ChangeMaps (open_string shut_string)
set_option linter.unusedVariables false

theorem cond_of {W : World} {l : List (String × DataW Unit)} (hl : l = Rows.showPartsRow.laid) (h : laidMetH Tryd.prog l W) : ∃ a, CondP W a := by
  subst hl
  rw [MakeChecks.laidMetH_plain _ _ _ (by kernel_rfl)] at h
  have h0 := h
  have h2 := h
  obtain ⟨ps, hv, hnd, hr⟩ := h0
  have hm : ("haversack/api.ErrType", sentD "*errors.errorString" (eText 5)) ∈ Rows.showPartsRow.laid := by simp [Rows.showPartsRow, eText, sentD, Rows.laid_haversack_api_ErrType]
  obtain ⟨a, h1, _, _⟩ := sent_mem errTypes hv hr hm (g := 5) (by kernel_rfl) (by kernel_rfl)
  have hc := World.var?_cell (P := Tryd.prog) (n := "haversack/api.ErrType") (g := 5) (by kernel_rfl) h1 0
  have ht : Rows.showPartsRow.laid = ("math/bits.deBruijn32tab", Rows.laid_math_bits_deBruijn32tab) :: ("math/bits.deBruijn64tab", Rows.laid_math_bits_deBruijn64tab) :: ("internal/strconv.uint64pow10", Lib.tabData .u64 Lib.pow10Tab) :: Rows.showPartsRow.laid.drop 3 := by kernel_rfl
  rw [ht] at h2
  exact ⟨_, ⟨tabs_of _ h (by simp [Rows.showPartsRow]) (by simp [Rows.showPartsRow]), fun k hk => esc_of (Lib.laidMet.reads h (by simp [Rows.showPartsRow])) k hk, fun k hk => wrd_of (Lib.laidMet.reads h (by simp [Rows.showPartsRow])) k hk,
    Lib.tabIs_of_head (t := 159) (e := 132) (n := 20) (g := 19) (by kernel_rfl) (by kernel_rfl) Tryd.underlying159 Tryd.underlying132 (by kernel_rfl) (by kernel_rfl) h2.tail.tail⟩, by simpa using hc⟩

theorem own : ownKnob Tryd.prog.godebug = none := by kernel_rfl
theorem laidOut : laidOutB Tryd.prog = true := by kernel_rfl

set_option maxHeartbeats 1000000 in
theorem walk (w : World) (S : Option Addr) (kids : List NT) (cap g : Nat) (hK : KidsAt (fun _ => True) g w S kids) (hall : ∀ t ∈ kids, okLen t ∧ okInt t) (hT : ∃ A, CondP w A) :
    Calls Tryd.prog 7 #[.slice S kids.length cap] w fun e w' => e = .returned (.bool true) ∧ Below w.heap.size w w' := by
  obtain ⟨a, hC⟩ := hT
  exact law_parts w hC.e a hC.ty S kids cap g hK hall

/-! ### THE ROW's STEP: WRITTEN OUT: LEAVE IT -/
set_option maxRecDepth 100000 in
theorem lifted (os : Os) (started : os.Started) (H : Type) (enc : TypeId × Value → H) :
    ReturnsInHanded {} Tryd.checked os 7 .any (fun w args => (Rows.showPartsSpec.pre enc Tryd.prog Tryd.f7 [] false w args ∧ laidMetH Tryd.prog Rows.showPartsRow.laid w) ∧ sizedMet enc Tryd.prog Tryd.f7 (OpenSpec.ofChange Rows.showPartsSpec) false w args)
      (Rows.showPartsSpec.post enc Tryd.prog Tryd.f7 false true false false) := by
  refine returnsInHanded_of_change_and (C := Tryd.checked) (X := fun w _ => laidMetH Tryd.prog Rows.showPartsRow.laid w) (fun _ _ _ hh h => h.of_heap hh) own started (by kernel_rfl) Tryd.func7
    (ChangeSpec.witness_shaped (enc := enc) (C := Tryd.checked) (os := os) (X := fun w _ => laidMetH Tryd.prog Rows.showPartsRow.laid w) false (World.laidAll Tryd.prog os Rows.showPartsRow.laid) #[.slice none 0 0] 8 (World.laidAll_os _ _ _)
      (World.shaped_of_ZipB (by kernel_rfl) (by kernel_rfl)) (by kernel_rfl) (by kernel_rfl) (by kernel_rfl)
      (by rw [MakeChecks.laidMetH_plain _ _ _ (by kernel_rfl)]; exact laidMet_laidAll _ (by kernel_rfl) (by kernel_rfl))) ?_
  intro W base args ds gs before hval0 hW _ _ hL _
  have hval : ∀ (j : Nat) t v, Tryd.f7.params[j]? = some t → args[j]? = some v → Value.okWide Tryd.prog W .any base t v := hval0
  have hW' := hW
  obtain ⟨p, q, hA0, hV, rfl, hfz, hnd⟩ := hW
  have hA : DataW.TrodAll enc Tryd.prog W 0 (fun _ => true) true Tryd.f7.params.toList args.toList ds p := hA0
  rw [Tryd.params7] at hA hval
  obtain ⟨v0, vs0, d0, ds0, p0, q0, hargs, rfl, rfl, h0, r0⟩ := trodAll_cons hA
  obtain ⟨rfl, rfl, rfl⟩ := trodAll_nil r0
  obtain rfl : args = #[v0] := by cases args; simp_all
  obtain ⟨rfl, rfl⟩ := trodVars_none hV
  have k0 := h0
  have lt0 : ∀ x ∈ p0, x.block < W.heap.size := by obtain ⟨m, hm⟩ := k0; exact DataW.trod_lt m _ _ _ hm
  obtain ⟨a0, len0, cap0, rfl⟩ := okWide_slice Tryd.underlying23 (hval 0 23 v0 rfl rfl)
  obtain ⟨m0, hm0⟩ := h0
  obtain ⟨S, kids, cap, g, hv, hK, _, hall⟩ := open_nodes (c := .slice a0 len0 cap0) hm0
  obtain ⟨rfl, rfl, rfl⟩ : a0 = S ∧ len0 = kids.length ∧ cap0 = cap := by simpa using hv
  clear hA0 hval0
  refine (walk W a0 kids cap0 g hK hall (cond_of rfl hL)).mono fun e W' ⟨he, bel⟩ => ?_
  subst he
  exact ⟨_, rfl, _, _, _, [], _, [], hW', trodAll_mk1 (shut_bool Tryd.underlying4 _), (trodAll_cons_mk (Below.trod laidOut (by kernel_rfl) (of_decide_eq_true (by kernel_rfl)) k0 bel lt0) trodAll_mk0), rfl, bel.frame _, fun h => by cases h⟩

theorem over : Rows.showPartsRow.holds Tryd.pinned (OpenSpec.ofChange Rows.showPartsSpec) :=
  OpenClaim.holds_of_wide 7 Tryd.f7 rfl rfl rfl rfl rfl rfl rfl ⟨rfl, rfl, rfl, rfl, rfl⟩ rfl rfl rfl rfl rfl (by kernel_rfl) Tryd.func7 (by kernel_rfl)
    (of_decide_eq_true (by kernel_rfl)) (by unfold Func.isWrapper; first | (rw [if_pos (by decide +kernel)]; kernel_rfl) | (rw [if_neg (by decide +kernel)]; exact ⟨rfl, rfl⟩))
    (fun os started H enc _ => lifted os started H enc)

theorem card : Rows.ShowPartsCardSaid :=
  Claim7.holds_tied_plain_at .later [] [.data, .data, .data, .data, .sentinel, .sentinel, .data, .data, .pinned] true (true, "36de373d24486f3e23eec5c8264b0abc14ec4e746390189ff37c47e5235d49b1") true
    over (fun _ h => by cases h) (by kernel_rfl) (fun _ h => by cases h) showParts_row_tie rfl ⟨rfl, rfl⟩ (by kernel_rfl) rfl
    (fun f fn hf hfn => by
      obtain rfl : f = 7 := Option.some.inj ((show Tryd.prog.funcNamed "haversack/haversacklaw05.ShowParts" = some 7 by kernel_rfl).symm.trans hf) |>.symm
      obtain rfl : fn = Tryd.f7 := (Option.some.inj (Tryd.func7.symm.trans hfn)).symm
      exact ⟨by kernel_rfl, fun j t ht => by
        rw [Tryd.params7] at ht
        have hm : t ∈ [23] := by simpa using Array.mem_of_getElem? ht
        have hall : ([23].all fun u => !Tryd.prog.wantsStandIn u) = true := by kernel_rfl
        exact (show Tryd.prog.wantsStandIn t = false by simpa using List.all_eq_true.1 hall t hm)⟩)
    (by kernel_rfl)
#print axioms card
end Go.Proofs.YtlaagdpanbineaaDoor.showParts
