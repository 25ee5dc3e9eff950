/- ShowAgain's walk. -/
import Derived.Test.YtlaagdpanbineaaDoorWt
import Derived.Test.YtlaagdpanbineaaDoorLa
import Derived.Test.YtlaagdpanbineaaDoorSa
namespace Go.Proofs.YtlaagdpanbineaaDoor
open Go.RowKit
open I2 (errVal errVal_some errVal_none)

mutual
theorem okLen_of : ∀ t : NT, szT t ≤ 1000000 → okLen t
  | .mk k n tx ks kids, h => by
    have hL := okLen_ofL kids
    unfold szT at h
    have h1 : ks.length ≤ (ks.map fun k => k.length + 1).sum := by
      clear hL h
      induction ks with
      | nil => simp
      | cons a l ih => simp only [List.length_cons, List.map_cons, List.sum_cons]; omega
    have h2 : kids.length ≤ szL kids := by
      clear hL h h1
      induction kids with
      | nil => simp
      | cons a l ih =>
        obtain ⟨_, _, _, _, _⟩ := a
        simp only [List.length_cons, szL, szT]; omega
    unfold okLen
    exact ⟨by omega, by omega, hL (by omega)⟩
termination_by t => SizeOf.sizeOf t
theorem okLen_ofL : ∀ l : List NT, szL l ≤ 1000000 → ∀ t ∈ l, okLen t
  | [], _, t, ht => by simp at ht
  | a :: l, h, t, ht => by
    unfold szL at h
    have h1 := okLen_of a (by omega)
    have h2 := okLen_ofL l (by omega)
    rcases List.mem_cons.1 ht with e | e
    · rw [e]; exact h1
    · exact h2 t e
termination_by l => SizeOf.sizeOf l
end
mutual
theorem rgt_okInt : ∀ (d : Nat) (t : NT), rgt d t → okInt t
  | d, .mk k n tx ks kids, h => by
    have hL := rgt_okIntL (d + 1) kids
    unfold rgt at h
    unfold okInt
    exact ⟨h.2.2.2.2.2.2.1, h.2.2.2.2.2.2.2.1, hL h.2.2.2.2.2.2.2.2.2.2.2.2.2⟩
termination_by _ t => SizeOf.sizeOf t
theorem rgt_okIntL : ∀ (d : Nat) (l : List NT), rgtL d l → okIntL l
  | _, [], _ => trivial
  | d, a :: l, h => ⟨rgt_okInt d a h.1, rgt_okIntL d l h.2⟩
termination_by _ l => SizeOf.sizeOf l
end
/-- the chapter's example -/
def ex5 : NT := .mk 6 0 [] [] [.mk 4 1 [] [] [], .mk 7 0 [] [[97]] [.mk 1 0 [] [] []]]
theorem ex5_text : showT ex5 = [91, 49, 44, 123, 34, 97, 34, 58, 110, 117, 108, 108, 125, 93] := by decide +kernel
theorem ex5_rgt : rgt 0 ex5 := by
  have h1 : VdL [97] := by unfold VdL; decide +kernel
  unfold ex5
  refine rgt_arr (by omega) ⟨?_, ?_, trivial⟩
  · unfold rgt
    exact ⟨.inl rfl, .inr rfl, .inr rfl, .inr (.inr rfl), by omega, by omega, by omega, by omega, vdL_nil, by omega, by omega, by simp, by simp, trivial⟩
  · refine rgt_obj (by omega) rfl (by simpa using h1) (by simp) ⟨rgt_lit _ 1 (.inl rfl), trivial⟩
structure CondA (w : World) (A : Nat → Addr) : Prop where
  c : Cond w A
  e : CondE w
theorem CondA.below {w w' : World} {A : Nat → Addr} (h : CondA w A) (hb : Below w.heap.size w w') : CondA w' A := ⟨h.c.below hb, h.e.below hb⟩

theorem ex5_nis (w : World) (X Y Z : Nat) (hx : w.heap[X]? = some (.cells #[.string ⟨#[97]⟩] 9 (0, 0))) (hy : Blk w Y (.int .i64 1) (.int .i64 0) (.string ⟨#[]⟩) (.slice none 0 0) (.slice none 0 0))
    (hz : w.heap[Z]? = some (.cells #[.int .i64 4, .int .i64 1, .string ⟨#[]⟩, .slice none 0 0, .slice none 0 0, .int .i64 7, .int .i64 0, .string ⟨#[]⟩, .slice (some ⟨X, 0, none⟩) 1 1, .slice (some ⟨Y, 0, none⟩) 1 1] 25 (0, 0))) :
    NIs (fun _ => True) 4 w ex5 (.agg #[.int .i64 6, .int .i64 0, .string ⟨#[]⟩, .slice none 0 0, .slice (some ⟨Z, 0, none⟩) 2 2]) := by
  have lt : ∀ {k : Nat} {o : Obj}, w.heap[k]? = some o → k < w.heap.size := fun h => (Array.getElem?_eq_some_iff.1 h).1
  have cz : ∀ j, w.cell? ⟨Z, j, none⟩ = (#[Value.int .i64 4, .int .i64 1, .string ⟨#[]⟩, .slice none 0 0, .slice none 0 0, .int .i64 7, .int .i64 0, .string ⟨#[]⟩, .slice (some ⟨X, 0, none⟩) 1 1, .slice (some ⟨Y, 0, none⟩) 1 1] : Array Value)[j]? := fun j => by simp only [World.cell?]; rw [hz]; rfl
  have cx : w.cell? ⟨X, 0, none⟩ = some (.string ⟨#[97]⟩) := by simp only [World.cell?]; rw [hx]; rfl
  have n1 : NIs (fun _ => True) 3 w (.mk 4 1 [] [] []) (.agg #[.int .i64 4, .int .i64 1, .string ⟨#[]⟩, .slice none 0 0, .slice none 0 0]) := ⟨.slice none 0 0, none, 0, rfl, ⟨none, 0, rfl, .inl rfl⟩, .inl rfl⟩
  have n3 : NIs (fun _ => True) 2 w (.mk 1 0 [] [] []) (.agg #[.int .i64 1, .int .i64 0, .string ⟨#[]⟩, .slice none 0 0, .slice none 0 0]) := ⟨.slice none 0 0, none, 0, rfl, ⟨none, 0, rfl, .inl rfl⟩, .inl rfl⟩
  have n2 : NIs (fun _ => True) 3 w (.mk 7 0 [] [[97]] [.mk 1 0 [] [] []]) (.agg #[.int .i64 7, .int .i64 0, .string ⟨#[]⟩, .slice (some ⟨X, 0, none⟩) 1 1, .slice (some ⟨Y, 0, none⟩) 1 1]) := by
    refine ⟨.slice (some ⟨X, 0, none⟩) 1 1, some ⟨Y, 0, none⟩, 1, rfl, ⟨some ⟨X, 0, none⟩, 1, rfl, .inr ⟨X, 0, rfl, trivial, lt hx, fun j hj => ?_⟩⟩, .inr ⟨Y, 0, rfl, trivial, hy.lt, fun j hj => ?_⟩⟩
    · obtain rfl : j = 0 := by simp at hj; omega
      exact cx
    · obtain rfl : j = 0 := by simp at hj; omega
      exact ⟨_, _, _, _, _, hy.cell 0 (by omega), hy.cell 1 (by omega), hy.cell 2 (by omega), hy.cell 3 (by omega), hy.cell 4 (by omega), n3⟩
  refine ⟨.slice none 0 0, some ⟨Z, 0, none⟩, 2, rfl, ⟨none, 0, rfl, .inl rfl⟩, .inr ⟨Z, 0, rfl, trivial, lt hz, fun j hj => ?_⟩⟩
  have hj2 : j = 0 ∨ j = 1 := by simp at hj; omega
  rcases hj2 with rfl | rfl
  · exact ⟨_, _, _, _, _, cz 0, cz 1, cz 2, cz 3, cz 4, n1⟩
  · exact ⟨_, _, _, _, _, cz 5, cz 6, cz 7, cz 8, cz 9, n2⟩

set_option maxRecDepth 100000 in
set_option maxHeartbeats 4000000 in
theorem alive5_any (w : World) (hC : CondE w) :
    Calls Tryd.prog 15 #[] w fun e w' => e = .returned (.bool true) ∧ Below w.heap.size w w' := by
  have hT := fun (W : World) v (hb : Below w.heap.size w W) (hN : NIs (fun _ => True) 4 W ex5 v) => Text_yes 4 _ ex5 v W hN ex5_rgt (by decide) (by decide) (rgt_okInt 0 ex5 ex5_rgt) (hC.below hb)
  rw [ex5_text] at hT
  have HT := Lib.hid hT
  have hne := fun (w : World) => @run_eql_nil_nil_at Tryd.prog w 31 (by kernel_rfl)
  clear hT hC
  go_enter Tryd.func15, Tryd.ntmps15
  go_wp2_with fail
  refine (HT.out _ _ ?_ (ex5_nis _ w.heap.size (w.heap.size + 1) (w.heap.size + 2) ?_ ?_ ?_)).mono ?_
  · exact ((al0 w _).alloc (by simp) _).alloc (by first | (simp; done) | (simp; omega)) _
  · exact (Below.heap_alloc _ _ _ (by first | (simp; done) | (simp; omega))).trans ((Below.heap_alloc _ _ _ (by simp)).trans (heap_alloc_new w _))
  · exact (Below.heap_alloc _ _ _ (by first | (simp; done) | (simp; omega))).trans (heap_alloc_new2 w _ _)
  · have := heap_alloc_new ((w.alloc (.cells #[.string ⟨#[97]⟩] 9 (0, 0))).alloc (.cells #[.int .i64 1, .int .i64 0, .string ⟨#[]⟩, .slice none 0 0, .slice none 0 0] 25 (0, 0)))
    simpa using this _
  rintro e w4 ⟨rfl, hb4⟩
  go_wp2
  go_ret
  exact ⟨rfl, (((al0 w _).alloc (by simp) _).alloc (by first | (simp; done) | (simp; omega)) _).trans (hb4.mono (by first | (simp; done) | (simp; omega)))⟩

set_option maxRecDepth 100000 in
set_option maxHeartbeats 4000000 in
theorem law_again (w : World) (A : Nat → Addr) (hC : CondA w A) (s : ByteArray) :
    Calls Tryd.prog 6 #[.string s] w fun e w' => e = .returned (.bool true) ∧ Below w.heap.size w w' := by
  have hl0 := alive5_any w hC.e
  have HC := Lib.hid hC
  clear hC
  go_enter Tryd.func6, Tryd.ntmps6
  go_wp2_with fail
  refine hl0.mono ?_
  rintro e w1 ⟨rfl, hb1⟩
  have HB1 := Lib.hid hb1
  clear hl0 hb1
  by_cases hlen : 2000 < s.size
  · have q : decide ((2000 : Int) < s.size) = true := decide_eq_true (by omega)
    go_wp2
    go_ret
    exact ⟨rfl, HB1.out⟩
  have q : decide ((2000 : Int) < s.size) = false := decide_eq_false (by omega)
  have HC1 := Lib.hid (HC.out.below HB1.out)
  cases hp : pText s.data.toList with
  | bad e0 =>
    have p1 := parse_bad s w1 A HC1.out.c (by omega) hp
    have hnn := fun (w : World) (x : Value) => @run_neq_iface_nil Tryd.prog w 31 (by kernel_rfl) 164 x
    clear hp
    go_upto_region 5 with fail
    go_wp2_with fail
    refine p1.mono ?_
    rintro e w2 ⟨rfl, HB2⟩
    go_wp2
    go_ret
    have h12 := HB1.out.trans (HB2.out.mono HB1.out.size)
    exact ⟨rfl, h12.alloc h12.size _⟩
  | ok v =>
    have p1 := parse_ok s w1 A HC1.out.c (by omega) hp
    have hfit := text_fit hp
    have hsz := hfit.2.2
    rw [size_list] at hsz
    have hsl := show_len 0 v hfit.1
    have hst := show_text hfit.1 hfit.2.1 (by omega)
    have HFIT := Lib.hid hfit
    have HST := Lib.hid hst
    have hnl := fun (w : World) => @run_neq_nil_nil_at Tryd.prog w 31 (by kernel_rfl)
    have hne := fun (w : World) => @run_eql_nil_nil_at Tryd.prog w 31 (by kernel_rfl)
    obtain ⟨Y, hY⟩ : ∃ Y : ByteArray, (⟨(showT v).toArray⟩ : ByteArray) = Y := ⟨_, rfl⟩
    have hYl : Y.data.toList = showT v := by rw [← hY]
    have hYs : Y.size ≤ 200000 := by rw [← size_list, hYl]; omega
    have HY := Lib.hid hY
    have HYL := Lib.hid hYl
    clear hp hfit hst hsl hY hYl
    go_upto_region 5 with fail
    go_wp2_with fail
    refine p1.mono ?_
    rintro e w2 ⟨k1, n1, x1, A1, l1, c1, B1, m1, d1, rfl, HN2, HB2⟩
    clear p1
    go_upto_region 8 with fail
    refine wp_gen (fun w3 => Hid (Below w.heap.size w w3) ∧ Hid (Blk w3 w2.heap.size (.int .i64 k1) (.int .i64 n1) (.string ⟨x1.toArray⟩) (.slice A1 l1 c1) (.slice B1 m1 d1)) ∧ Hid (NIs (fun b => w1.heap.size ≤ b) 33 w3 v (.agg #[.int .i64 k1, .int .i64 n1, .string ⟨x1.toArray⟩, .slice A1 l1 c1, .slice B1 m1 d1]))) ⟨?_, heap_alloc_new w2 _, HN2.out.below ((Below.refl _ _).alloc (Nat.le_refl _) _)⟩ ?_
    · have h12 := HB1.out.trans (HB2.out.mono HB1.out.size)
      exact h12.alloc h12.size _
    rintro w3 ⟨HB3, HX3, HN3⟩
    clear HN2 HB2
    have hx3 := HX3.out.lt
    have u0 : w3.cell? ⟨w2.heap.size, 0, none⟩ = some (.int .i64 k1) := HX3.out.cell 0 (by omega)
    have u1 : w3.cell? ⟨w2.heap.size, 1, none⟩ = some (.int .i64 n1) := HX3.out.cell 1 (by omega)
    have u2 : w3.cell? ⟨w2.heap.size, 2, none⟩ = some (.string ⟨x1.toArray⟩) := HX3.out.cell 2 (by omega)
    have u3 : w3.cell? ⟨w2.heap.size, 3, none⟩ = some (.slice A1 l1 c1) := HX3.out.cell 3 (by omega)
    have u4 : w3.cell? ⟨w2.heap.size, 4, none⟩ = some (.slice B1 m1 d1) := HX3.out.cell 4 (by omega)
    have t1 := Text_yes 33 _ v _ w3 HN3.out HFIT.out.1 HFIT.out.2.1 (by omega) (rgt_okInt 0 v HFIT.out.1) (HC.out.below HB3.out).e
    rw [HY.out] at t1
    go_wp2_with fail
    refine t1.mono ?_
    rintro e w4 ⟨rfl, hb4⟩
    have HB4 : Hid (Below w.heap.size w w4) := HB3.out.trans (hb4.mono HB3.out.size)
    have HX4 : Hid (Blk w4 w2.heap.size (.int .i64 k1) (.int .i64 n1) (.string ⟨x1.toArray⟩) (.slice A1 l1 c1) (.slice B1 m1 d1)) := (hb4.block _ hx3).trans HX3.out
    have HN4 := Lib.hid (HN3.out.below hb4)
    clear t1 hb4 HX3 HN3 u0 u1 u2 u3 u4
    have p2 := parse_ok Y w4 A (HC.out.below HB4.out).c hYs (by rw [HYL.out]; exact HST.out)
    go_wp2_with fail
    refine p2.mono ?_
    rintro e w5 ⟨k2, n2, x2, A2, l2, c2, B2, m2, d2, rfl, HM5, HB5⟩
    clear p2
    go_upto_region 10 with fail
    refine wp_gen (fun w6 => Hid (Below w.heap.size w w6) ∧ Hid (Blk w6 w2.heap.size (.int .i64 k1) (.int .i64 n1) (.string ⟨x1.toArray⟩) (.slice A1 l1 c1) (.slice B1 m1 d1)) ∧ Hid (Blk w6 w5.heap.size (.int .i64 k2) (.int .i64 n2) (.string ⟨x2.toArray⟩) (.slice A2 l2 c2) (.slice B2 m2 d2)) ∧ Hid (NIs (fun b => w1.heap.size ≤ b) 33 w6 v (.agg #[.int .i64 k1, .int .i64 n1, .string ⟨x1.toArray⟩, .slice A1 l1 c1, .slice B1 m1 d1])) ∧ Hid (NIs (fun b => w4.heap.size ≤ b) 33 w6 v (.agg #[.int .i64 k2, .int .i64 n2, .string ⟨x2.toArray⟩, .slice A2 l2 c2, .slice B2 m2 d2]))) ⟨?_, ?_, heap_alloc_new w5 _, ?_, HM5.out.below ((Below.refl _ _).alloc (Nat.le_refl _) _)⟩ ?_
    · have h12 := HB4.out.trans (HB5.out.mono HB4.out.size)
      exact h12.alloc h12.size _
    · exact ((Below.heap_alloc w5 _ _ (by have := HB5.out.size; have := HX4.out.lt; omega)).trans (HB5.out.block _ HX4.out.lt)).trans HX4.out
    · exact (HN4.out.below HB5.out).below ((Below.refl _ _).alloc (Nat.le_refl _) _)
    rintro w6 ⟨HB6, HX6, HZ6, HN6, HM6⟩
    clear HX4 HN4 HM5 HB5
    have z0 : w6.cell? ⟨w5.heap.size, 0, none⟩ = some (.int .i64 k2) := HZ6.out.cell 0 (by omega)
    have z1 : w6.cell? ⟨w5.heap.size, 1, none⟩ = some (.int .i64 n2) := HZ6.out.cell 1 (by omega)
    have z2 : w6.cell? ⟨w5.heap.size, 2, none⟩ = some (.string ⟨x2.toArray⟩) := HZ6.out.cell 2 (by omega)
    have z3 : w6.cell? ⟨w5.heap.size, 3, none⟩ = some (.slice A2 l2 c2) := HZ6.out.cell 3 (by omega)
    have z4 : w6.cell? ⟨w5.heap.size, 4, none⟩ = some (.slice B2 m2 d2) := HZ6.out.cell 4 (by omega)
    have t2 := Text_yes 33 _ v _ w6 HM6.out HFIT.out.1 HFIT.out.2.1 (by omega) (rgt_okInt 0 v HFIT.out.1) (HC.out.below HB6.out).e
    rw [HY.out] at t2
    go_wp2_with fail
    refine t2.mono ?_
    rintro e w7 ⟨rfl, hb7⟩
    have HB7 : Hid (Below w.heap.size w w7) := HB6.out.trans (hb7.mono HB6.out.size)
    have HX7 : Hid (Blk w7 w2.heap.size (.int .i64 k1) (.int .i64 n1) (.string ⟨x1.toArray⟩) (.slice A1 l1 c1) (.slice B1 m1 d1)) := (hb7.block _ HX6.out.lt).trans HX6.out
    have HZ7 : Hid (Blk w7 w5.heap.size (.int .i64 k2) (.int .i64 n2) (.string ⟨x2.toArray⟩) (.slice A2 l2 c2) (.slice B2 m2 d2)) := (hb7.block _ HZ6.out.lt).trans HZ6.out
    have HN7 := Lib.hid (HN6.out.below hb7)
    have HM7 := Lib.hid (HM6.out.below hb7)
    clear t2 hb7 HX6 HZ6 HN6 HM6 z0 z1 z2 z3 z4
    have u0 : w7.cell? ⟨w2.heap.size, 0, none⟩ = some (.int .i64 k1) := HX7.out.cell 0 (by omega)
    have u1 : w7.cell? ⟨w2.heap.size, 1, none⟩ = some (.int .i64 n1) := HX7.out.cell 1 (by omega)
    have u2 : w7.cell? ⟨w2.heap.size, 2, none⟩ = some (.string ⟨x1.toArray⟩) := HX7.out.cell 2 (by omega)
    have u3 : w7.cell? ⟨w2.heap.size, 3, none⟩ = some (.slice A1 l1 c1) := HX7.out.cell 3 (by omega)
    have u4 : w7.cell? ⟨w2.heap.size, 4, none⟩ = some (.slice B1 m1 d1) := HX7.out.cell 4 (by omega)
    have z0 : w7.cell? ⟨w5.heap.size, 0, none⟩ = some (.int .i64 k2) := HZ7.out.cell 0 (by omega)
    have z1 : w7.cell? ⟨w5.heap.size, 1, none⟩ = some (.int .i64 n2) := HZ7.out.cell 1 (by omega)
    have z2 : w7.cell? ⟨w5.heap.size, 2, none⟩ = some (.string ⟨x2.toArray⟩) := HZ7.out.cell 2 (by omega)
    have z3 : w7.cell? ⟨w5.heap.size, 3, none⟩ = some (.slice A2 l2 c2) := HZ7.out.cell 3 (by omega)
    have z4 : w7.cell? ⟨w5.heap.size, 4, none⟩ = some (.slice B2 m2 d2) := HZ7.out.cell 4 (by omega)
    have ho : okLen v := okLen_of v (by omega)
    have ps := same_any 33 _ _ v v _ _ w7 HM7.out HN7.out ho ho
    rw [eqT_self] at ps
    clear ho
    go_wp2_with fail
    refine ps.mono ?_
    rintro e w8 ⟨rfl, hb8⟩
    go_wp2
    go_ret
    exact ⟨rfl, HB7.out.trans (hb8.mono HB7.out.size)⟩

end Go.Proofs.YtlaagdpanbineaaDoor

