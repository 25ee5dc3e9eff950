/- json.Right's parts: runes.Valid, keyed. -/
import Derived.Test.YtlaagdpanbineaaDoorGd
import Derived.Test.YtlaagdpanbineaaDoorQc
import Derived.Test.YtlaagdpanbineaaDoorSm
import Derived.Test.YtlaagdpanbineaaDoorShelfB
import Derived.StillTailTactics
import Derived.Maps.OwnOps
import Derived.Maps.OwnSet
namespace Go.Proofs.YtlaagdpanbineaaDoor
open Go.RowKit Go.Maps

set_option maxHeartbeats 400000 in
theorem valid_any (s : ByteArray) (w : World) (hs : s.size ≤ maxLen) (hT : Lib.Utf8Tabs 15 16 w) :
    Calls Tryd.prog 65 #[.string s] w fun e w' => e = .returned (.bool (vld s s.size 0)) ∧ Below w.heap.size w w' := by
  have hV := Tryd.utf8_ValidString s w (by unfold maxLen at hs; omega) hT
  rw [validD_eq] at hV
  generalize vld s s.size 0 = b at *
  clear hT
  go_enter Tryd.func65, Tryd.ntmps65
  go_wp2_with (go_at_call 78; refine hV.mono ?_; rintro e w1 ⟨rfl, hb1⟩)
  go_ret
  exact ⟨rfl, hb1⟩

instance (x : List UInt8) : Decidable (VdL x) := by unfold VdL; infer_instance
/-- all keys are valid, and no two the same -/
def kyB (ks : List (List UInt8)) : Bool := decide ((∀ x ∈ ks, VdL x) ∧ ks.Nodup)
theorem kyB_nil : kyB [] = true := by simp [kyB]
theorem kyB_step {ks : List (List UInt8)} {k : Nat} (hk : k < ks.length) (h : kyB (ks.take k) = true) (hn : ks[k] ∉ ks.take k) (hv : VdL ks[k]) : kyB (ks.take (k + 1)) = true := by
  unfold kyB at *
  rw [decide_eq_true_eq] at *
  rw [List.take_succ_eq_append_getElem hk]
  refine ⟨fun x hx => ?_, ?_⟩
  · rcases List.mem_append.1 hx with e | e
    · exact h.1 x e
    · simp only [List.mem_singleton] at e; rw [e]; exact hv
  · rw [List.nodup_append]
    exact ⟨h.2, by simp, fun a ha b hb => by simp only [List.mem_singleton] at hb; rw [hb]; exact fun e => hn (e ▸ ha)⟩
theorem kyB_twice {ks : List (List UInt8)} {k : Nat} (hk : k < ks.length) (hn : ks[k] ∈ ks.take k) : kyB ks = false := by
  unfold kyB
  rw [decide_eq_false_iff_not]
  rintro ⟨_, h⟩
  rw [← List.take_append_drop k ks, List.nodup_append] at h
  have hd : ks.drop k = ks[k] :: ks.drop (k + 1) := List.drop_eq_getElem_cons hk
  exact h.2.2 _ hn ks[k] (by rw [hd]; exact List.mem_cons_self) rfl
theorem kyB_bad {ks : List (List UInt8)} {k : Nat} (hk : k < ks.length) (hv : ¬ VdL ks[k]) : kyB ks = false := by
  unfold kyB
  rw [decide_eq_false_iff_not]
  rintro ⟨h, _⟩
  exact hv (h _ (List.getElem_mem hk))

theorem kLaw : Keyed Tryd.prog 9 := string_keyed Tryd.underlying9
theorem kZero (w : World) : (zeroValue 3).run Tryd.prog w = .ok (.int .i64 0) w := by kernel_rfl
theorem kStr (x : List UInt8) (h : x.length ≤ 1000000) : keyOf Tryd.prog 9 (.string ⟨x.toArray⟩) = some (.string x) := by
  have := WideMaps.keyOf_string_mk (P := Tryd.prog) (k := 9) Tryd.underlying9 (s := ⟨x.toArray⟩) (by show x.toArray.size ≤ maxLen; unfold maxLen; simp; omega)
  rw [this]
theorem run_makeHint (w : World) (n : Int) : (Instr.makeMap 76 (some (.int .i64 n))).run Tryd.prog w = .ok (.map (some w.heap.size)) (w.alloc (.map #[] 0)) := by
  simp [Instr.makeMap, run_underlying Tryd.underlying76, asInt, asIntOf, Result.andThen]

/-- the keys' lengths together -/
def kySum (ks : List (List UInt8)) : Nat := (ks.map fun k => k.length + 1).sum
theorem kySum_mem : ∀ {ks : List (List UInt8)} {x : List UInt8}, x ∈ ks → x.length + 1 ≤ kySum ks
  | a :: l, x, h => by
    have e : kySum (a :: l) = a.length + 1 + kySum l := by simp [kySum]
    rw [e]
    rcases List.mem_cons.1 h with rfl | h
    · omega
    · have := kySum_mem h; omega
theorem kySum_at {ks : List (List UInt8)} {k : Nat} (hk : k < ks.length) : ks[k].length + 1 ≤ kySum ks := kySum_mem (List.getElem_mem hk)
theorem kySum_len (ks : List (List UInt8)) : ks.length ≤ kySum ks := by
  unfold kySum
  induction ks with
  | nil => simp
  | cons a l ih => simp only [List.length_cons, List.map_cons, List.sum_cons]; omega

set_option maxRecDepth 100000 in
set_option maxHeartbeats 4000000 in
theorem keyed_any (ok : Nat → Prop) (v : Value) (ks : List (List UInt8)) (w : World) (h1 : StrAt ok w v ks) (hl : kySum ks ≤ 1000000) (hT : Lib.Utf8Tabs 15 16 w) :
    Calls Tryd.prog 66 #[v] w fun e w' => e = .returned (.bool (kyB ks)) ∧ Below w.heap.size w w' := by
  obtain ⟨A, c, rfl, hk⟩ := h1
  have hlen := kySum_len ks
  have HK := Lib.hid hk
  have HT := Lib.hid hT
  have hmm := run_makeHint
  clear hk hT
  go_enter Tryd.func66, Tryd.ntmps66
  go_wp2
  go_loopw [13] (fun i wr => ∃ (k m0 : Nat) (D : DataW Unit), k ≤ ks.length ∧ i = .int .i64 k ∧ Hid (wr.ownsMap Tryd.prog 9 (plainElem Tryd.prog 3) w.heap.size m0 D) ∧ m0 ≤ k ∧ Hid (IsMap D) ∧ Hid (∀ y, has D (.string y) = decide (y ∈ ks.take k)) ∧ Hid (Below w.heap.size w wr) ∧ Hid (kyB (ks.take k) = true)) (fun i _ => ks.length - (intOf i).toNat)
  case atStart =>
    exact ⟨0, 0, .map [], Nat.zero_le _, rfl, World.ownsMap_made w _ _ _, Nat.le_refl _, isMap_empty, fun y => by rw [List.take_zero]; rfl, (Below.refl _ _).alloc (Nat.le_refl _) _, kyB_nil⟩
  case round =>
    obtain ⟨k, m0, D, hkl, rfl, HM, hm0, HD, HH, HB, HY⟩ := hrel
    by_cases hlt : k < ks.length
    · obtain ⟨b, off, rfl, _, hbl, hc⟩ : ∃ b off, A = some ⟨b, off, none⟩ ∧ ok b ∧ b < w.heap.size ∧ ∀ j (hj : j < ks.length), w.cell? ⟨b, off + j, none⟩ = some (.string ⟨ks[j].toArray⟩) := by
        rcases HK.out with e | ⟨b, off, h1, h2, h3, h4⟩
        · rw [e] at hlt; simp at hlt
        · exact ⟨b, off, h1, h2, h3, fun j hj => by have := h4 j hj; rwa [List.getD_eq_getElem?_getD, List.getElem?_eq_getElem hj] at this⟩
      have hkx := kySum_at hlt
      have hkey := kStr ks[k] (by omega)
      have hxs := HH.out ks[k]
      have hxv : VdL ks[k] ↔ vld ⟨ks[k].toArray⟩ (⟨ks[k].toArray⟩ : ByteArray).size 0 = true := Iff.rfl
      have HTr := Lib.hid (Utf8Tabs_below HT.out HB.out)
      have hV := valid_any ⟨ks[k].toArray⟩ wr (by show ks[k].toArray.size ≤ _; unfold maxLen; simp; omega) HTr.out
      have ck : wr.cell? ⟨b, off + k, none⟩ = some (.string ⟨ks[k].toArray⟩) := (HB.out.cell (p := ⟨b, off + k, none⟩) hbl).trans (hc k hlt)
      have hst := fun h1 h2 => kyB_step hlt HY.out h1 h2
      have htw := fun h1 => kyB_twice (ks := ks) hlt h1
      have hbd := fun h1 => kyB_bad (ks := ks) hlt h1
      have htk : ∀ y, y ∈ ks.take (k + 1) ↔ y ∈ ks.take k ∨ y = ks[k] := fun y => by rw [List.take_succ_eq_append_getElem hlt, List.mem_append, List.mem_singleton]
      have HST := Lib.hid hst
      have HTW := Lib.hid htw
      have HBD := Lib.hid hbd
      have HTK := Lib.hid htk
      have HXV := Lib.hid hxv
      obtain ⟨X, hX⟩ : ∃ X : ByteArray, (⟨ks[k].toArray⟩ : ByteArray) = X := ⟨_, rfl⟩
      rw [hX] at hkey hV ck
      have HX := Lib.hid hX
      clear hc hst htw hbd htk hxv hX hkx
      by_cases hin : ks[k] ∈ ks.take k
      · rw [decide_eq_true hin] at hxs
        have HIN := Lib.hid hin
        have hres := HTW.out hin
        clear hin hV
        go_wp2_with (at_lookup; refine wpList_lookup_own_ok_int _ rfl _ _ 76 rfl 9 3 .i64 kLaw Tryd.underlying76 Tryd.underlying3 (kZero _) w.heap.size m0 D rfl HM.out _ _ rfl hkey ?_; intro c9 hat hwc)
        go_ret
        exact ⟨ret_bool hres.symm, HB.out⟩
      · rw [decide_eq_false hin] at hxs
        have HIN := Lib.hid hin
        clear hin
        cases hvv : vld X X.size 0 with
        | false =>
          rw [hvv] at hV
          have hres := HBD.out (fun e => by have := HXV.out.1 e; rw [HX.out, hvv] at this; cases this)
          clear hvv
          go_wp2_with (first
            | (at_lookup; refine wpList_lookup_own_ok_int _ rfl _ _ 76 rfl 9 3 .i64 kLaw Tryd.underlying76 Tryd.underlying3 (kZero _) w.heap.size m0 D rfl HM.out _ _ rfl hkey ?_; intro c9 hat hwc)
            | (go_at_call 65; refine hV.mono ?_; rintro e w5 ⟨rfl, hb5⟩))
          go_ret
          exact ⟨ret_bool hres.symm, HB.out.trans (hb5.mono HB.out.size)⟩
        | true =>
          rw [hvv] at hV
          have hky := HST.out HIN.out (HXV.out.2 (by rw [HX.out]; exact hvv))
          have HKY := Lib.hid hky
          clear hvv hky
          have hwf : (Lit.int .i64 (k : Int)).wf = true := by
            simp only [Lit.wf, Bool.and_eq_true, decide_eq_true_eq]
            constructor
            · show (-9223372036854775808 : Int) ≤ _; omega
            · show _ ≤ (9223372036854775807 : Int); omega
          go_wp2_with (first
            | (at_lookup; refine wpList_lookup_own_ok_int _ rfl _ _ 76 rfl 9 3 .i64 kLaw Tryd.underlying76 Tryd.underlying3 (kZero _) w.heap.size m0 D rfl HM.out _ _ rfl hkey ?_; intro c9 hat hwc)
            | (go_at_call 65; refine hV.mono ?_; rintro e w5 ⟨rfl, hb5⟩; obtain ⟨w6, hrun, hown6, hgrow6⟩ := World.ownsMap.update (w := w5) (t := 76) (key := .string X) (val := .int .i64 k) (map_of_block HM.out (hb5.block _ HM.out.lt)) kLaw Tryd.underlying76 (by unfold maxLen; omega) hkey (plainElem_int Tryd.underlying3 hwf)))
          go_roundw
          case rel =>
            refine ⟨k + 1, m0 + 1, _, by omega, by go_num, hown6, by omega, HD.out.put _ _, fun y => ?_, ?_, HKY⟩
            · by_cases e : y = ks[k]
              · subst e
                rw [has_put_same HD.out (by trivial)]
                exact (decide_eq_true ((HTK.out _).2 (.inr rfl))).symm
              · rw [has_put_other (by simp; exact e), HH.out]
                exact decide_eq_decide.2 ⟨fun h => (HTK.out y).2 (.inl h), fun h => ((HTK.out y).1 h).resolve_right e⟩
            · exact (HB.out.trans (hb5.mono HB.out.size)).trans (below_of_gb hgrow6 (by have := HB.out.size; have := hb5.size; omega) (fun g e => by injection e with e; omega))
          case measure => simp [intOf]; omega
    · obtain rfl : k = ks.length := by omega
      have hy := HY.out
      rw [List.take_length] at hy
      have HY2 := Lib.hid hy
      clear hy
      go_wp2
      go_ret
      exact ⟨ret_bool HY2.out.symm, HB.out⟩

end Go.Proofs.YtlaagdpanbineaaDoor

