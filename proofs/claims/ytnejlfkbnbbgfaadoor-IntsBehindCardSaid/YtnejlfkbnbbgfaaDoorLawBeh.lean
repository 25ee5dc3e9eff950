/- IntsBehind: for every number and all texts ahead and behind of at most 300 bytes each (of longer ones, and of a text behind that begins with a digit, a point or an e, the statement asks nothing), ints.Take finds behind the first text the number whose text ints.Text tells, and its size, without an error. The thirteen errors of package api, strconv.ErrRange and the table of powers of ten read as the program text lays them (the card ties them to the text). No other condition. -/
import Derived.Test.YtnejlfkbnbbgfaaDoorRows
import Derived.Test.YtnejlfkbnbbgfaaDoorRtx
import Derived.Test.YtnejlfkbnbbgfaaDoorTak
import Derived.Test.YtnejlfkbnbbgfaaDoorTie
import Derived.Test.YtnejlfkbnbbgfaaDoorCards
import Derived.Lay
import Derived.MakeChecks
import Derived.Stop.Joined
import Derived.SevenTiedAt
import Derived.WalkKit
import Derived.ProofKit
import Derived.OpenShut
import Derived.ShutString
namespace Go.Proofs.YtnejlfkbnbbgfaaDoor.intsBehind
open Go.ChangeShapes Go.WideShapes Go.ChangeAt Go.RowKit
open Go.ChangeMaps (open_string shut_string)
set_option linter.unusedVariables false      -- a walk need not use every 'w<i>' (that an integer argument fits its kind)

theorem own : ownKnob Tryd.prog.godebug = none := by kernel_rfl

theorem itoa_size (n : Int) (h0 : -9223372036854775808 ≤ n) (h1 : n ≤ 9223372036854775807) : (⟨(Lib.itoa n).toArray⟩ : ByteArray).size ≤ 21 := by
  show (Lib.itoa n).toArray.size ≤ 21
  rw [List.size_toArray]; exact Lib.itoa_length_le n h0 h1
theorem take_behind (n : Int) (p b : ByteArray) (h0 : -9223372036854775808 ≤ n) (h1 : n ≤ 9223372036854775807) (hp : p.size ≤ 300) (hb : b.size ≤ 300) (hE : Ends b.data.toList) (w : World) (A : Nat → Addr) (hC : Cond w A) :
    Calls Tryd.prog 10 #[.string (p ++ ⟨(Lib.itoa n).toArray⟩ ++ b), .int .i64 p.size] w fun e w' => e = .returned (.tuple #[.int .i64 n, .int .i64 (⟨(Lib.itoa n).toArray⟩ : ByteArray).size, .nilIface]) ∧ Below w.heap.size w w' := by
  have hts := itoa_size n h0 h1
  have hd : (p ++ ⟨(Lib.itoa n).toArray⟩ ++ b : ByteArray).data.toList.drop p.size = Lib.itoa n ++ b.data.toList := by
    rw [ByteArray.data_append, ByteArray.data_append, Array.toList_append, Array.toList_append, List.append_assoc, ← size_list p, List.drop_left]
  have h := take_any (p ++ ⟨(Lib.itoa n).toArray⟩ ++ b) p.size w A hC (v := n) (z := (Lib.itoa n).length) (o := none) (by rw [ByteArray.size_append, ByteArray.size_append]; omega) (by rw [restL_in, hd]; exact takeR_itoa n hE h0 h1)
  have e : (⟨(Lib.itoa n).toArray⟩ : ByteArray).size = (Lib.itoa n).length := by
    show (Lib.itoa n).toArray.size = _
    rw [List.size_toArray]
  rw [e]
  exact h

/-! ### STEP 1: THE WALK: the Go text returns true. 'Grown w w'': the world has at most new blocks (Derived/RowKit3.lean). Part the cases AHEAD of 'go_enter' where a test parts the walk; take each callee by a contract of your own. -/
set_option maxHeartbeats 1000000 in
theorem walk (a0 : Int) (a1 : ByteArray) (a2 : ByteArray) (w0 : (Lit.int .i64 a0).wf = true) (w1 : a1.size ≤ maxLen) (w2 : a2.size ≤ maxLen) (w : World) (hT : ∃ A, Cond w A) :
    Calls Tryd.prog 7 #[.int .i64 a0, .string a1, .string a2] w fun e w' => e = .returned (.bool true) ∧ Below w.heap.size w w' := by
  obtain ⟨A, hC⟩ := hT
  obtain ⟨hb0, hb1⟩ := wf_bd w0
  have hL := fun w hC => alive_any w A hC
  have HC := Lib.hid hC
  clear hC
  unfold maxLen at w1 w2
  by_cases h300 : 300 < a1.size
  · clear w0
    all_goals
      go_enter Tryd.func7, Tryd.ntmps7
      go_wp2_with (go_at_call 9; refine (hL _ HC.out).mono ?_; rintro e w1 ⟨rfl, hb1⟩)
      go_ret
      exact ⟨rfl, hb1⟩
  · by_cases h301 : 300 < a2.size
    · clear w0
      all_goals
        go_enter Tryd.func7, Tryd.ntmps7
        go_wp2_with (go_at_call 9; refine (hL _ HC.out).mono ?_; rintro e w1 ⟨rfl, hb1⟩)
        go_ret
        exact ⟨rfl, hb1⟩
    · by_cases hz : a2.size = 0
      · have hl := nil_list hz
        have hlb := nil_listB hz
        have hE : Ends a2.data.toList := by
          have : a2.data.toList = [] := by apply List.eq_nil_of_length_eq_zero; rw [size_list]; exact hz
          rw [this]; exact ends_nil
        have hX := fun w hC => text_any a0 hb0 hb1 w A hC
        have hP := fun w hC => take_behind a0 a1 a2 hb0 hb1 (by omega) (by omega) hE w A hC
        have hts := itoa_size a0 hb0 hb1
        have hnl := fun (w : World) => @run_eql_nil_nil_at Tryd.prog w 24 (by kernel_rfl)
        clear hE
        generalize (⟨(Lib.itoa a0).toArray⟩ : ByteArray) = t at *
        go_enter Tryd.func7, Tryd.ntmps7
        go_wp2_with (first
          | (go_at_call 9; refine (hL _ HC.out).mono ?_; rintro e w1 ⟨rfl, hb1⟩; have HC1 := Lib.hid (HC.out.below hb1))
          | (go_at_call 15; refine (hX _ HC1.out).mono ?_; rintro e w2 ⟨rfl, hb2⟩; have HC2 := Lib.hid (HC1.out.below hb2))
          | (go_at_call 10; refine (hP _ HC2.out).mono ?_; rintro e w3 ⟨rfl, hb3⟩))
        go_ret
        have h12 := hb1.trans (hb2.mono hb1.size)
        exact ⟨ret_bool (by simp), h12.trans (hb3.mono h12.size)⟩
      · have hl := ne_list (s := a2) (by omega)
        have hlb := ne_listB (s := a2) (by omega)
        have h0 : 0 < a2.size := by omega
        by_cases hd : 48 ≤ a2[0].toNat ∧ a2[0].toNat ≤ 57
        · obtain ⟨hd1, hd2⟩ := hd
          go_enter Tryd.func7, Tryd.ntmps7
          go_wp2_with (go_at_call 9; refine (hL _ HC.out).mono ?_; rintro e w1 ⟨rfl, hb1⟩)
          go_ret
          exact ⟨rfl, hb1⟩
        · by_cases hp : a2[0].toNat = 46 ∨ a2[0].toNat = 101 ∨ a2[0].toNat = 69
          · have hd' : a2[0].toNat < 48 ∨ 57 < a2[0].toNat := by omega
            clear hd
            rcases hp with hp | hp | hp <;> rcases hd' with hd' | hd'
            all_goals first | (exfalso; omega) | skip
            all_goals
              go_enter Tryd.func7, Tryd.ntmps7
              go_wp2_with (go_at_call 9; refine (hL _ HC.out).mono ?_; rintro e w1 ⟨rfl, hb1⟩)
              go_ret
              exact ⟨rfl, hb1⟩
          · have hE : Ends a2.data.toList := by
              unfold Ends isDg
              rw [← bAt_in a2 0 h0]
              exact ⟨hd, fun e => hp (.inl e), fun e => hp (.inr (.inl e)), fun e => hp (.inr (.inr e))⟩
            have g1 : ((a2[0].toNat : Int) == 46) = false := by simp; omega
            have g2 : ((a2[0].toNat : Int) == 101) = false := by simp; omega
            have g3 : ((a2[0].toNat : Int) == 69) = false := by simp; omega
            have hd' : a2[0].toNat < 48 ∨ 57 < a2[0].toNat := by omega
            clear hd hp
            rcases hd' with hd' | hd'
            all_goals
              have hX := fun w hC => text_any a0 hb0 hb1 w A hC
              have hP := fun w hC => take_behind a0 a1 a2 hb0 hb1 (by omega) (by omega) hE w A hC
              have hts := itoa_size a0 hb0 hb1
              have hnl := fun (w : World) => @run_eql_nil_nil_at Tryd.prog w 24 (by kernel_rfl)
              clear hE
              generalize (⟨(Lib.itoa a0).toArray⟩ : ByteArray) = t at *
              go_enter Tryd.func7, Tryd.ntmps7
              go_wp2_with (first
                | (go_at_call 9; refine (hL _ HC.out).mono ?_; rintro e w1 ⟨rfl, hb1⟩; have HC1 := Lib.hid (HC.out.below hb1))
                | (go_at_call 15; refine (hX _ HC1.out).mono ?_; rintro e w2 ⟨rfl, hb2⟩; have HC2 := Lib.hid (HC1.out.below hb2))
                | (go_at_call 10; refine (hP _ HC2.out).mono ?_; rintro e w3 ⟨rfl, hb3⟩))
              go_ret
              have h12 := hb1.trans (hb2.mono hb1.size)
              exact ⟨ret_bool (by simp), h12.trans (hb3.mono h12.size)⟩

/-! ### THE ROW's STEP: WRITTEN OUT: LEAVE IT -/
set_option maxRecDepth 100000 in
theorem lifted (os : Os) (started : os.Started) (H : Type) (enc : TypeId × Value → H) :
    ReturnsInHanded {} Tryd.checked os 7 .any (fun w args => (Rows.intsBehindSpec.pre enc Tryd.prog Tryd.f7 [] false w args ∧ laidMetH Tryd.prog Rows.intsBehindRow.laid w) ∧ sizedMet enc Tryd.prog Tryd.f7 (OpenSpec.ofChange Rows.intsBehindSpec) false w args)
      (Rows.intsBehindSpec.post enc Tryd.prog Tryd.f7 false true false false) := by
  refine returnsInHanded_of_change_and (C := Tryd.checked) (X := fun w _ => laidMetH Tryd.prog Rows.intsBehindRow.laid w) (fun _ _ _ hh h => h.of_heap hh) own started (by kernel_rfl) Tryd.func7
    (ChangeSpec.witness_shaped (enc := enc) (C := Tryd.checked) (os := os) (X := fun w _ => laidMetH Tryd.prog Rows.intsBehindRow.laid w) false (World.laidAll Tryd.prog os Rows.intsBehindRow.laid) #[.int .i64 0, .string ByteArray.empty, .string ByteArray.empty] 8 (World.laidAll_os _ _ _)
      (World.shaped_of_ZipB (by kernel_rfl) (by kernel_rfl)) (by kernel_rfl) (by kernel_rfl) (by kernel_rfl)
      (by rw [MakeChecks.laidMetH_plain _ _ _ (by kernel_rfl)]; exact laidMet_laidAll _ (by kernel_rfl) (by kernel_rfl))) ?_
  intro W base args ds gs before hval0 hW _ _ hL _
  have hval : ∀ (j : Nat) t v, Tryd.f7.params[j]? = some t → args[j]? = some v → Value.okWide Tryd.prog W .any base t v := hval0
  have hW' := hW
  obtain ⟨p, q, hA0, hV, rfl, hfz, hnd⟩ := hW
  have hA : DataW.TrodAll enc Tryd.prog W 0 (fun _ => true) true Tryd.f7.params.toList args.toList ds p := hA0
  rw [Tryd.params7] at hA hval
  obtain ⟨v0, vs0, d0, ds0, p0, q0, hargs, rfl, rfl, h0, r0⟩ := trodAll_cons hA
  obtain ⟨v1, vs1, d1, ds1, p1, q1, rfl, rfl, rfl, h1, r1⟩ := trodAll_cons r0
  obtain ⟨v2, vs2, d2, ds2, p2, q2, rfl, rfl, rfl, h2, r2⟩ := trodAll_cons r1
  obtain ⟨rfl, rfl, rfl⟩ := trodAll_nil r2
  obtain rfl : args = #[v0, v1, v2] := by cases args; simp_all
  obtain ⟨rfl, rfl⟩ := trodVars_none hV
  obtain ⟨a0, rfl, rfl, rfl, w0⟩ := open_int Tryd.underlying3 (hval 0 3 v0 rfl rfl) h0
  obtain ⟨a1, rfl, rfl, rfl, w1⟩ := open_string Tryd.underlying9 (hval 1 9 v1 rfl rfl) h1
  obtain ⟨a2, rfl, rfl, rfl, w2⟩ := open_string Tryd.underlying9 (hval 2 9 v2 rfl rfl) h2
  clear hA0 hval0
  simp only [List.append_nil] at hW'
  refine (walk a0 a1 a2 w0 w1 w2 W (cond_of rfl hL)).mono fun e W' ⟨he, hg⟩ => ?_
  subst he
  exact ⟨_, rfl, _, _, _, [], [], [], hW', (trodAll_cons_mk (shut_bool Tryd.underlying4 _) trodAll_mk0), (trodAll_cons_mk (shut_int Tryd.underlying3 w0) (trodAll_cons_mk (shut_string Tryd.underlying9 w1) (trodAll_cons_mk (shut_string Tryd.underlying9 w2) trodAll_mk0))), rfl, hg.frame _, fun h => by cases h⟩

theorem over : Rows.intsBehindRow.holds Tryd.pinned (OpenSpec.ofChange Rows.intsBehindSpec) :=
  OpenClaim.holds_of_wide 7 Tryd.f7 rfl rfl rfl rfl rfl rfl rfl ⟨rfl, rfl, rfl, rfl, rfl⟩ rfl rfl rfl rfl rfl (by kernel_rfl) Tryd.func7 (by kernel_rfl)
    (of_decide_eq_true (by kernel_rfl)) (by unfold Func.isWrapper; first | (rw [if_pos (by decide +kernel)]; kernel_rfl) | (rw [if_neg (by decide +kernel)]; exact ⟨rfl, rfl⟩))
    (fun os started H enc _ => lifted os started H enc)

theorem card : Rows.IntsBehindCardSaid :=
  Claim7.holds_tied_plain_at .later [] [.data, .data, .data, .sentinel, .sentinel, .sentinel, .sentinel, .sentinel, .sentinel, .sentinel, .sentinel, .sentinel, .sentinel, .sentinel, .sentinel, .sentinel, .sentinel, .sentinel] true (true, "711736cd7bfddaaf6309674943df8eaa2f4e43a6458e748fa3a5736fac8bf4af") true
    over (fun _ h => by cases h) (by kernel_rfl) (fun _ h => by cases h) intsBehind_row_tie rfl ⟨rfl, rfl⟩ (by kernel_rfl) rfl
    (fun f fn hf hfn => by
      obtain rfl : f = 7 := Option.some.inj ((show Tryd.prog.funcNamed "haversack/haversacklaw02.IntsBehind" = some 7 by kernel_rfl).symm.trans hf) |>.symm
      obtain rfl : fn = Tryd.f7 := (Option.some.inj (Tryd.func7.symm.trans hfn)).symm
      exact ⟨by kernel_rfl, fun j t ht => by
        rw [Tryd.params7] at ht
        have hm : t ∈ [3, 9] := by simpa using Array.mem_of_getElem? ht
        have hall : ([3, 9].all fun u => !Tryd.prog.wantsStandIn u) = true := by kernel_rfl
        exact (show Tryd.prog.wantsStandIn t = false by simpa using List.all_eq_true.1 hall t hm)⟩)
    (by kernel_rfl)
#print axioms card
end Go.Proofs.YtnejlfkbnbbgfaaDoor.intsBehind
