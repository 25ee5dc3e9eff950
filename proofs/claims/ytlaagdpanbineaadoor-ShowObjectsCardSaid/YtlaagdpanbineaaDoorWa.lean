/- the chapter's example of show, shown; what is right has numbers that fit. -/
import Derived.Test.YtlaagdpanbineaaDoorWt
import Derived.Test.YtlaagdpanbineaaDoorSa
namespace Go.Proofs.YtlaagdpanbineaaDoor
open Go.RowKit

mutual
theorem okLen_of : ∀ t : NT, szT t ≤ 1000000 → okLen t
  | .mk k n tx ks kids, h => by
    have hL := okLen_ofL kids
    unfold szT at h
    have h1 : ks.length ≤ (ks.map fun k => k.length + 1).sum := by
      clear hL h
      induction ks with
      | nil => simp
      | cons a l ih => simp only [List.length_cons, List.map_cons, List.sum_cons]; omega
    have h2 : kids.length ≤ szL kids := by
      clear hL h h1
      induction kids with
      | nil => simp
      | cons a l ih =>
        obtain ⟨_, _, _, _, _⟩ := a
        simp only [List.length_cons, szL, szT]; omega
    unfold okLen
    exact ⟨by omega, by omega, hL (by omega)⟩
termination_by t => SizeOf.sizeOf t
theorem okLen_ofL : ∀ l : List NT, szL l ≤ 1000000 → ∀ t ∈ l, okLen t
  | [], _, t, ht => by simp at ht
  | a :: l, h, t, ht => by
    unfold szL at h
    have h1 := okLen_of a (by omega)
    have h2 := okLen_ofL l (by omega)
    rcases List.mem_cons.1 ht with e | e
    · rw [e]; exact h1
    · exact h2 t e
termination_by l => SizeOf.sizeOf l
end
mutual
theorem rgt_okInt : ∀ (d : Nat) (t : NT), rgt d t → okInt t
  | d, .mk k n tx ks kids, h => by
    have hL := rgt_okIntL (d + 1) kids
    unfold rgt at h
    unfold okInt
    exact ⟨h.2.2.2.2.2.2.1, h.2.2.2.2.2.2.2.1, hL h.2.2.2.2.2.2.2.2.2.2.2.2.2⟩
termination_by _ t => SizeOf.sizeOf t
theorem rgt_okIntL : ∀ (d : Nat) (l : List NT), rgtL d l → okIntL l
  | _, [], _ => trivial
  | d, a :: l, h => ⟨rgt_okInt d a h.1, rgt_okIntL d l h.2⟩
termination_by _ l => SizeOf.sizeOf l
end
/-- the chapter's example -/
def ex5 : NT := .mk 6 0 [] [] [.mk 4 1 [] [] [], .mk 7 0 [] [[97]] [.mk 1 0 [] [] []]]
theorem ex5_text : showT ex5 = [91, 49, 44, 123, 34, 97, 34, 58, 110, 117, 108, 108, 125, 93] := by decide +kernel
theorem ex5_rgt : rgt 0 ex5 := by
  have h1 : VdL [97] := by unfold VdL; decide +kernel
  unfold ex5
  refine rgt_arr (by omega) ⟨?_, ?_, trivial⟩
  · unfold rgt
    exact ⟨.inl rfl, .inr rfl, .inr rfl, .inr (.inr rfl), by omega, by omega, by omega, by omega, vdL_nil, by omega, by omega, by simp, by simp, trivial⟩
  · refine rgt_obj (by omega) rfl (by simpa using h1) (by simp) ⟨rgt_lit _ 1 (.inl rfl), trivial⟩
theorem ex5_nis (w : World) (X Y Z : Nat) (hx : w.heap[X]? = some (.cells #[.string ⟨#[97]⟩] 9 (0, 0))) (hy : Blk w Y (.int .i64 1) (.int .i64 0) (.string ⟨#[]⟩) (.slice none 0 0) (.slice none 0 0))
    (hz : w.heap[Z]? = some (.cells #[.int .i64 4, .int .i64 1, .string ⟨#[]⟩, .slice none 0 0, .slice none 0 0, .int .i64 7, .int .i64 0, .string ⟨#[]⟩, .slice (some ⟨X, 0, none⟩) 1 1, .slice (some ⟨Y, 0, none⟩) 1 1] 25 (0, 0))) :
    NIs (fun _ => True) 4 w ex5 (.agg #[.int .i64 6, .int .i64 0, .string ⟨#[]⟩, .slice none 0 0, .slice (some ⟨Z, 0, none⟩) 2 2]) := by
  have lt : ∀ {k : Nat} {o : Obj}, w.heap[k]? = some o → k < w.heap.size := fun h => (Array.getElem?_eq_some_iff.1 h).1
  have cz : ∀ j, w.cell? ⟨Z, j, none⟩ = (#[Value.int .i64 4, .int .i64 1, .string ⟨#[]⟩, .slice none 0 0, .slice none 0 0, .int .i64 7, .int .i64 0, .string ⟨#[]⟩, .slice (some ⟨X, 0, none⟩) 1 1, .slice (some ⟨Y, 0, none⟩) 1 1] : Array Value)[j]? := fun j => by simp only [World.cell?]; rw [hz]; rfl
  have cx : w.cell? ⟨X, 0, none⟩ = some (.string ⟨#[97]⟩) := by simp only [World.cell?]; rw [hx]; rfl
  have n1 : NIs (fun _ => True) 3 w (.mk 4 1 [] [] []) (.agg #[.int .i64 4, .int .i64 1, .string ⟨#[]⟩, .slice none 0 0, .slice none 0 0]) := ⟨.slice none 0 0, none, 0, rfl, ⟨none, 0, rfl, .inl rfl⟩, .inl rfl⟩
  have n3 : NIs (fun _ => True) 2 w (.mk 1 0 [] [] []) (.agg #[.int .i64 1, .int .i64 0, .string ⟨#[]⟩, .slice none 0 0, .slice none 0 0]) := ⟨.slice none 0 0, none, 0, rfl, ⟨none, 0, rfl, .inl rfl⟩, .inl rfl⟩
  have n2 : NIs (fun _ => True) 3 w (.mk 7 0 [] [[97]] [.mk 1 0 [] [] []]) (.agg #[.int .i64 7, .int .i64 0, .string ⟨#[]⟩, .slice (some ⟨X, 0, none⟩) 1 1, .slice (some ⟨Y, 0, none⟩) 1 1]) := by
    refine ⟨.slice (some ⟨X, 0, none⟩) 1 1, some ⟨Y, 0, none⟩, 1, rfl, ⟨some ⟨X, 0, none⟩, 1, rfl, .inr ⟨X, 0, rfl, trivial, lt hx, fun j hj => ?_⟩⟩, .inr ⟨Y, 0, rfl, trivial, hy.lt, fun j hj => ?_⟩⟩
    · obtain rfl : j = 0 := by simp at hj; omega
      exact cx
    · obtain rfl : j = 0 := by simp at hj; omega
      exact ⟨_, _, _, _, _, hy.cell 0 (by omega), hy.cell 1 (by omega), hy.cell 2 (by omega), hy.cell 3 (by omega), hy.cell 4 (by omega), n3⟩
  refine ⟨.slice none 0 0, some ⟨Z, 0, none⟩, 2, rfl, ⟨none, 0, rfl, .inl rfl⟩, .inr ⟨Z, 0, rfl, trivial, lt hz, fun j hj => ?_⟩⟩
  have hj2 : j = 0 ∨ j = 1 := by simp at hj; omega
  rcases hj2 with rfl | rfl
  · exact ⟨_, _, _, _, _, cz 0, cz 1, cz 2, cz 3, cz 4, n1⟩
  · exact ⟨_, _, _, _, _, cz 5, cz 6, cz 7, cz 8, cz 9, n2⟩

set_option maxRecDepth 100000 in
set_option maxHeartbeats 4000000 in
theorem alive5_any (w : World) (hC : CondE w) :
    Calls Tryd.prog 15 #[] w fun e w' => e = .returned (.bool true) ∧ Below w.heap.size w w' := by
  have hT := fun (W : World) v (hb : Below w.heap.size w W) (hN : NIs (fun _ => True) 4 W ex5 v) => Text_yes 4 _ ex5 v W hN ex5_rgt (by decide) (by decide) (rgt_okInt 0 ex5 ex5_rgt) (hC.below hb)
  rw [ex5_text] at hT
  have HT := Lib.hid hT
  have hne := fun (w : World) => @run_eql_nil_nil_at Tryd.prog w 31 (by kernel_rfl)
  clear hT hC
  go_enter Tryd.func15, Tryd.ntmps15
  go_wp2_with fail
  refine (HT.out _ _ ?_ (ex5_nis _ w.heap.size (w.heap.size + 1) (w.heap.size + 2) ?_ ?_ ?_)).mono ?_
  · exact ((al0 w _).alloc (by simp) _).alloc (by first | (simp; done) | (simp; omega)) _
  · exact (Below.heap_alloc _ _ _ (by first | (simp; done) | (simp; omega))).trans ((Below.heap_alloc _ _ _ (by simp)).trans (heap_alloc_new w _))
  · exact (Below.heap_alloc _ _ _ (by first | (simp; done) | (simp; omega))).trans (heap_alloc_new2 w _ _)
  · have := heap_alloc_new ((w.alloc (.cells #[.string ⟨#[97]⟩] 9 (0, 0))).alloc (.cells #[.int .i64 1, .int .i64 0, .string ⟨#[]⟩, .slice none 0 0, .slice none 0 0] 25 (0, 0)))
    simpa using this _
  rintro e w4 ⟨rfl, hb4⟩
  go_wp2
  go_ret
  exact ⟨rfl, (((al0 w _).alloc (by simp) _).alloc (by first | (simp; done) | (simp; omega)) _).trans (hb4.mono (by first | (simp; done) | (simp; omega)))⟩

end Go.Proofs.YtlaagdpanbineaaDoor
