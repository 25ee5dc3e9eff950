/- show: twice (are two keys the same?), and copies of lists. -/
import Derived.Test.YtlaagdpanbineaaDoorRga
import Derived.Test.YtlaagdpanbineaaDoorSa
import Derived.Test.YtlaagdpanbineaaDoorShelfC
import Derived.OwnWalk
import Derived.Laws.OwnMore
import Derived.Maps.Views
namespace Go.Proofs.YtlaagdpanbineaaDoor
open Go.RowKit Go.Maps

/-- how many keys the first k are, and whether two of them are the same -/
def TwP (ks : List (List UInt8)) (k : Nat) (D : DataW Unit) : Prop := Tidy D ∧ (∀ y, has D (.string y) = decide (y ∈ ks.take k)) ∧ size D ≤ k ∧ (size D = k ↔ (ks.take k).Nodup)
theorem TwP.zero (ks : List (List UInt8)) : TwP ks 0 (.map []) := ⟨tidy_empty, fun y => by rw [List.take_zero]; rfl, Nat.le_refl _, by simp [size]⟩
theorem TwP.next {ks : List (List UInt8)} {k : Nat} {D : DataW Unit} (h : TwP ks k D) (hk : k < ks.length) (d : DataW Unit) : TwP ks (k + 1) (D.put (.string ks[k]) d) := by
  obtain ⟨h1, h2, h3, h4⟩ := h
  have htk : ks.take (k + 1) = ks.take k ++ [ks[k]] := List.take_succ_eq_append_getElem hk
  have hs := size_put (k := .string ks[k]) h1 d
  rw [h2] at hs
  refine ⟨h1.put (by trivial) d, fun y => ?_, ?_, ?_⟩
  · by_cases e : y = ks[k]
    · subst e
      rw [has_put_same h1.isMap (by trivial), htk]
      exact (decide_eq_true (List.mem_append.2 (.inr (List.mem_singleton.2 rfl)))).symm
    · rw [has_put_other (by simp; exact e), h2, htk]
      exact decide_eq_decide.2 (by simp only [List.mem_append, List.mem_singleton, e, or_false])
  · rw [hs]; split <;> omega
  · by_cases hin : ks[k] ∈ ks.take k
    · rw [decide_eq_true hin, if_pos rfl] at hs
      rw [hs, htk]
      constructor
      · intro e; omega
      · intro e
        rw [List.nodup_append] at e
        exact absurd rfl (e.2.2 _ hin ks[k] (by simp))
    · rw [decide_eq_false hin, if_neg (by simp)] at hs
      rw [hs, htk, List.nodup_append]
      constructor
      · intro e
        exact ⟨h4.1 (by omega), by simp, fun a ha b hb => by
          obtain rfl : b = ks[k] := by simpa using hb
          intro e2; subst e2; exact hin ha⟩
      · intro e
        have := h4.2 e.1; omega
theorem TwP.end {ks : List (List UInt8)} {D : DataW Unit} (h : TwP ks ks.length D) : decide ((size D : Int) < (ks.length : Int)) = decide (¬ ks.Nodup) := by
  obtain ⟨_, _, h3, h4⟩ := h
  rw [List.take_length] at h4
  apply decide_eq_decide.2
  rw [← h4]
  omega

set_option maxRecDepth 100000 in
set_option maxHeartbeats 4000000 in
theorem twice_any (ok : Nat → Prop) (v : Value) (ks : List (List UInt8)) (w : World) (h1 : StrAt ok w v ks) (hl : kySum ks ≤ 1000000) :
    Calls Tryd.prog 26 #[v] w fun e w' => e = .returned (.bool (decide (¬ ks.Nodup))) ∧ Below w.heap.size w w' := by
  obtain ⟨A, c, rfl, hk⟩ := h1
  have hlen := kySum_len ks
  have HK := Lib.hid hk
  have hmm := run_makeHint
  clear hk
  obtain ⟨R, hR⟩ : ∃ b, decide (¬ ks.Nodup) = b := ⟨_, rfl⟩
  rw [hR]
  have HR := Lib.hid hR
  clear hR
  go_enter Tryd.func26, Tryd.ntmps26
  go_wp2
  go_loopw [4, 5, 11] (fun _ _ i wr => ∃ (k m0 : Nat) (D : DataW Unit), k ≤ ks.length ∧ i = .int .i64 k ∧ Hid (wr.ownsMap Tryd.prog 9 (plainElem Tryd.prog 3) w.heap.size m0 D) ∧ m0 ≤ k ∧ Hid (TwP ks k D) ∧ Hid (Below w.heap.size w wr)) (fun _ _ i _ => ks.length - (intOf i).toNat)
  case atStart =>
    exact ⟨0, 0, .map [], Nat.zero_le _, rfl, World.ownsMap_made w _ _ _, Nat.le_refl _, TwP.zero ks, (Below.refl _ _).alloc (Nat.le_refl _) _⟩
  case round =>
    obtain ⟨k, m0, D, hkl, rfl, HM, hm0, HT, HB⟩ := hrel
    by_cases hlt : k < ks.length
    · obtain ⟨b, off, rfl, _, hbl, hc⟩ : ∃ b off, A = some ⟨b, off, none⟩ ∧ ok b ∧ b < w.heap.size ∧ ∀ j (hj : j < ks.length), w.cell? ⟨b, off + j, none⟩ = some (.string ⟨ks[j].toArray⟩) := by
        rcases HK.out with e | ⟨b, off, h1, h2, h3, h4⟩
        · rw [e] at hlt; simp at hlt
        · exact ⟨b, off, h1, h2, h3, fun j hj => by have := h4 j hj; rwa [List.getD_eq_getElem?_getD, List.getElem?_eq_getElem hj] at this⟩
      have hkx := kySum_at hlt
      have hkey := kStr ks[k] (by omega)
      have ck : wr.cell? ⟨b, off + k, none⟩ = some (.string ⟨ks[k].toArray⟩) := (HB.out.cell (p := ⟨b, off + k, none⟩) hbl).trans (hc k hlt)
      have HN := Lib.hid (fun d => HT.out.next hlt d)
      obtain ⟨X, hX⟩ : ∃ X : ByteArray, (⟨ks[k].toArray⟩ : ByteArray) = X := ⟨_, rfl⟩
      rw [hX] at hkey ck
      have hwf : (Lit.int .i64 (k : Int)).wf = true := by
        simp only [Lit.wf, Bool.and_eq_true, decide_eq_true_eq]
        constructor
        · show (-9223372036854775808 : Int) ≤ _; omega
        · show _ ≤ (9223372036854775807 : Int); omega
      clear hc hX hkx HT
      obtain ⟨w6, hrun, hown6, hgrow6⟩ := World.ownsMap.update (w := wr) (t := 76) (key := .string X) (val := .int .i64 k) HM.out kLaw Tryd.underlying76 (by unfold maxLen; omega) hkey (plainElem_int Tryd.underlying3 hwf)
      have HO6 := Lib.hid hown6
      have HG6 := Lib.hid hgrow6
      clear hown6 hgrow6
      go_wp2
      go_roundw
      case rel => exact ⟨k + 1, m0 + 1, _, by omega, by go_num, HO6, by omega, HN.out _, HB.out.trans (below_of_gb HG6.out HB.out.size (fun g e => by injection e with e; omega))⟩
      case measure => simp [intOf]; omega
    · obtain rfl : k = ks.length := by omega
      have hlm := (HM.out).len (t := 76) Tryd.underlying76 3
      have HE : Hid (decide ((size D : Int) < (ks.length : Int)) = R) := by
        refine Lib.hid ?_
        rw [HT.out.end]; exact HR.out
      clear HT
      obtain ⟨n, hn⟩ : ∃ n, size D = n := ⟨_, rfl⟩
      rw [hn] at hlm HE
      clear hn
      go_wp2
      go_ret
      exact ⟨ret_bool (by rw [← HE.out]; simp), HB.out⟩

end Go.Proofs.YtlaagdpanbineaaDoor
