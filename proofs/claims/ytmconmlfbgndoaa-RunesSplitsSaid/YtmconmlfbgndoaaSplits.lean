/- RunesSplits: for every number, runes.Split answers true just if runes.Encode gives it four bytes, and then runes.Join of what it answers is the number; else 0, 0 and false. No condition. -/
import Derived.Test.YtmconmlfbgndoaaRows
import Derived.Test.YtmconmlfbgndoaaWalks
import Derived.WalkKit
import Derived.ProofKit
import Derived.OpenShut
namespace Go.Proofs.Ytmconmlfbgndoaa.runesSplits
open Go.ChangeShapes Go.WideShapes Go.ChangeAt Go.RowKit
set_option linter.unusedVariables false      -- a walk need not use every 'w<i>' (that an integer argument fits its kind)

theorem own : ownKnob Try.prog.godebug = none := by kernel_rfl

/-! ### STEP 1: THE WALK: the Go text returns true. 'Grown w w'': the world has at most new blocks (Derived/RowKit3.lean). Part the cases AHEAD of 'go_enter' where a test parts the walk; take each callee by a contract of your own. -/
set_option maxHeartbeats 400000 in
theorem walk (a0 : Int) (w0 : (Lit.int .i64 a0).wf = true) (w : World) :
    Calls Try.prog 5 #[.int .i64 a0] w fun e w' => e = .returned (.bool true) ∧ Grown w w' := by
  by_cases h : 65536 ≤ a0 ∧ a0 ≤ 1114111
  · obtain ⟨h1, h2⟩ := h
    have hpt : isPt a0 := by unfold isPt; omega
    have hsz : (Utf8.encode a0).size = 4 := by
      have hv : Utf8.valid a0 = true := by simp [Utf8.valid]; omega
      have n1 : ¬ a0.toNat < 128 := by omega
      have n2 : ¬ a0.toNat < 2048 := by omega
      have n3 : ¬ a0.toNat < 65536 := by omega
      unfold Utf8.encode
      simp only [hv, if_true, n1, n2, n3, if_false]
      rfl
    have hE := encode_yes a0 w hpt
    generalize Utf8.encode a0 = s at hE hsz
    have hj : 65536 + (55296 + (a0 - 65536) / 1024 - 55296) * 1024 + (56320 + (a0 - 65536) % 1024 - 56320) = a0 := by omega
    have hJ := join_yes (55296 + (a0 - 65536) / 1024) (56320 + (a0 - 65536) % 1024) w (by omega) (by omega) (by omega) (by omega)
    rw [hj] at hJ
    clear hj hpt
    go_enter Try.func5, Try.ntmps5
    go_wp2_with (first
      | (go_at_call 6; refine (alive_any _).mono ?_; rintro e w' ⟨rfl, rfl⟩)
      | (go_at_call 10; refine (split_yes _ _ h1 h2).mono ?_; rintro e w' ⟨rfl, rfl⟩)
      | (go_at_call 11; refine hE.mono ?_; rintro e w' ⟨rfl, rfl⟩)
      | (go_at_call 9; refine hJ.mono ?_; rintro e w' ⟨rfl, rfl⟩))
    go_ret
    exact ⟨ret_bool (by simp), Grown.refl _⟩
  · have h' : a0 < 65536 ∨ 1114111 < a0 := by omega
    have hS := split_no a0 w h'
    have hJ := join_no 0 0 w (by omega)
    by_cases hpt : isPt a0
    · have hsz : (Utf8.encode a0).size ≠ 4 := by
        have hv : Utf8.valid a0 = true := by unfold isPt at hpt; simp [Utf8.valid]; omega
        have n3 : a0.toNat < 65536 := by unfold isPt at hpt; omega
        unfold Utf8.encode
        simp only [hv, if_true, n3]
        split
        · show 1 ≠ 4; omega
        · split
          · show 2 ≠ 4; omega
          · show 3 ≠ 4; omega
      have hE := encode_yes a0 w hpt
      generalize Utf8.encode a0 = s at hE hsz
      have hz : ((s.size : Int) == 4) = false := by rw [beq_eq_false_iff_ne]; omega
      clear hsz h h' hpt
      go_enter Try.func5, Try.ntmps5
      go_wp2_with (first
        | (go_at_call 6; refine (alive_any _).mono ?_; rintro e w' ⟨rfl, rfl⟩)
        | (go_at_call 10; refine hS.mono ?_; rintro e w' ⟨rfl, rfl⟩)
        | (go_at_call 11; refine hE.mono ?_; rintro e w' ⟨rfl, rfl⟩)
        | (go_at_call 9; refine hJ.mono ?_; rintro e w' ⟨rfl, rfl⟩))
      go_ret
      exact ⟨ret_bool (by simp), Grown.refl _⟩
    · have hE := encode_no a0 w hpt
      clear h h' hpt
      go_enter Try.func5, Try.ntmps5
      go_wp2_with (first
        | (go_at_call 6; refine (alive_any _).mono ?_; rintro e w' ⟨rfl, rfl⟩)
        | (go_at_call 10; refine hS.mono ?_; rintro e w' ⟨rfl, rfl⟩)
        | (go_at_call 11; refine hE.mono ?_; rintro e w' ⟨rfl, rfl⟩)
        | (go_at_call 9; refine hJ.mono ?_; rintro e w' ⟨rfl, rfl⟩))
      go_ret
      exact ⟨ret_bool (by simp), Grown.refl _⟩

/-! ### THE ROW's STEP: WRITTEN OUT: LEAVE IT -/
set_option maxRecDepth 100000 in
theorem lifted (os : Os) (started : os.Started) (H : Type) (enc : TypeId × Value → H) :
    ReturnsInHanded {} Try.checked os 5 .any (Rows.runesSplitsSpec.pre6 enc Try.prog Try.f5 Rows.runesSplitsRow.domain false) (Rows.runesSplitsSpec.post enc Try.prog Try.f5 false true false false) := by
  refine returnsInHanded_of_change (C := Try.checked) own started (by kernel_rfl) Try.func5
    (ChangeSpec.witness6 (enc := enc) (C := Try.checked) false ⟨#[], #[.int .i64 0], []⟩ 8 (by kernel_rfl) (by kernel_rfl) (by kernel_rfl) (by kernel_rfl)) ?_
  intro W base args ds gs before hval0 hW hcnd _
  have hval : ∀ (j : Nat) t v, Try.f5.params[j]? = some t → args[j]? = some v → Value.okWide Try.prog W .any base t v := hval0
  have hW' := hW
  obtain ⟨p, q, hA0, hV, rfl, hfz, hnd⟩ := hW
  have hA : DataW.TrodAll enc Try.prog W 0 (fun _ => true) true Try.f5.params.toList args.toList ds p := hA0
  rw [Try.params5] at hA hval
  obtain ⟨v0, vs0, d0, ds0, p0, q0, hargs, rfl, rfl, h0, r0⟩ := trodAll_cons hA
  obtain ⟨rfl, rfl, rfl⟩ := trodAll_nil r0
  obtain rfl : args = #[v0] := by cases args; simp_all
  obtain ⟨rfl, rfl⟩ := trodVars_none hV
  obtain ⟨a0, rfl, rfl, rfl, w0⟩ := open_int Try.underlying3 (hval 0 3 v0 rfl rfl) h0
  clear hA0 hval0
  simp only [List.append_nil] at hW'
  refine (walk a0 w0 W).mono fun e W' ⟨he, hg⟩ => ?_
  subst he
  exact ⟨_, rfl, post_of_same (pa := []) (pv := []) hW' (fun _ _ _ => (trodAll_cons_mk (shut_bool Try.underlying4 _) trodAll_mk0)) (fun sp _ => (trodAll_cons_mk (shut_int Try.underlying3 w0) trodAll_mk0)) (fun _ _ => rfl) rfl
    (hg.frame _) hg.2.1 (ok_one (by kernel_rfl) rfl (okWide_bool_mk Try.underlying4 _))⟩

theorem over : Rows.runesSplitsRow.holds Try.pinned (OpenSpec.ofChange Rows.runesSplitsSpec) :=
  OpenClaim.holds_of_wide 5 Try.f5 rfl rfl rfl rfl rfl rfl rfl ⟨rfl, rfl, rfl, rfl, rfl⟩ rfl rfl rfl rfl rfl (by kernel_rfl) Try.func5 (by kernel_rfl)
    (of_decide_eq_true (by kernel_rfl)) (by unfold Func.isWrapper; first | (rw [if_pos (by decide +kernel)]; kernel_rfl) | (rw [if_neg (by decide +kernel)]; exact ⟨rfl, rfl⟩))
    (fun os started H enc _ => lifted os started H enc)

/-- ████ THE STATEMENT ████ -/
theorem proved : Rows.RunesSplitsSaid :=
  over
#print axioms proved
end Go.Proofs.Ytmconmlfbgndoaa.runesSplits
