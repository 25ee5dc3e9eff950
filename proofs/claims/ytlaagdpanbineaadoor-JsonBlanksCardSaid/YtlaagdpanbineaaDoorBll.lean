/- JsonBlanks' walk. -/
import Derived.Test.YtlaagdpanbineaaDoorBlc
import Derived.Test.YtlaagdpanbineaaDoorSm
import Derived.Test.YtlaagdpanbineaaDoorSa
import Derived.Test.YtlaagdpanbineaaDoorLa
namespace Go.Proofs.YtlaagdpanbineaaDoor
open Go.RowKit

mutual
theorem okLen_of : ∀ t : NT, szT t ≤ 1000000 → okLen t
  | .mk k n tx ks kids, h => by
    have hL := okLen_ofL kids
    unfold szT at h
    have h1 : ks.length ≤ (ks.map fun k => k.length + 1).sum := by
      clear hL h
      induction ks with
      | nil => simp
      | cons a l ih => simp only [List.length_cons, List.map_cons, List.sum_cons]; omega
    have h2 : kids.length ≤ szL kids := by
      clear hL h h1
      induction kids with
      | nil => simp
      | cons a l ih =>
        obtain ⟨_, _, _, _, _⟩ := a
        simp only [List.length_cons, szL, szT]; omega
    unfold okLen
    exact ⟨by omega, by omega, hL (by omega)⟩
termination_by t => SizeOf.sizeOf t
theorem okLen_ofL : ∀ l : List NT, szL l ≤ 1000000 → ∀ t ∈ l, okLen t
  | [], _, t, ht => by simp at ht
  | a :: l, h, t, ht => by
    unfold szL at h
    have h1 := okLen_of a (by omega)
    have h2 := okLen_ofL l (by omega)
    rcases List.mem_cons.1 ht with e | e
    · rw [e]; exact h1
    · exact h2 t e
termination_by l => SizeOf.sizeOf l
end
mutual
theorem dep_cnt : ∀ t : NT, dep t + 1 ≤ cnt t
  | .mk k n tx ks kids => by
    have := dep_cntL kids
    unfold dep cnt
    omega
termination_by t => SizeOf.sizeOf t
theorem dep_cntL : ∀ l : List NT, depL l ≤ cntL l
  | [] => by simp [depL, cntL]
  | a :: l => by
    have h1 := dep_cnt a
    have h2 := dep_cntL l
    unfold depL cntL
    omega
termination_by l => SizeOf.sizeOf l
end

set_option maxRecDepth 100000 in
theorem law_blanks (w : World) (A : Nat → Addr) (hC : CondN w A) (s : ByteArray) (a1 : Int) :
    Calls Tryd.prog 4 #[.string s, .int .i64 a1] w fun e w' => e = .returned (.bool true) ∧ Below w.heap.size w w' := by
  refine blanks_core w s a1 A (fun w' hb => alive_any w' A (hC.below hb)) (fun w' S t hb hs hp => parse_ok S w' A (hC.c.below hb) (by omega) hp) (fun w' S e0 hb hs hp => parse_bad S w' A (hC.c.below hb) (by omega) hp)
    (fun w' k hk hb => num_any A w' (hC.e.below hb) k (by omega)) ?_ ?_
  · intro w' ok1 ok2 t v1 v2 ht h1 h2
    have ho : okLen t := by
      rcases ht with ht | rfl
      · refine okLen_of t ?_
        have h3 := (text_fit ht).2.2
        have h4 := (text_ok ht).1
        omega
      · exact okLen_of _ (by simp [szT, szL])
    exact (same_any 33 ok1 ok2 t t v1 v2 w' h1 h2 ho ho).mono fun e w'' h => ⟨h.1.trans (ret_bool (eqT_self t)), h.2⟩
  · intro w' ok t v ht hN
    have h3 := (text_fit ht).2.1
    have h4 := dep_cnt t
    exact depth_any ok 33 t v w' hN (by omega) (by omega)

end Go.Proofs.YtlaagdpanbineaaDoor

