/- JsonParses' walk. -/
import Derived.Test.YtlaagdpanbineaaGreatDoorJp
import Derived.Test.YtlaagdpanbineaaGreatDoorLa
import Derived.Test.YtlaagdpanbineaaGreatDoorLsr
import Derived.Test.YtlaagdpanbineaaGreatDoorRgc
namespace Go.Proofs.YtlaagdpanbineaaGreatDoor
open Go.RowKit
open I2 (errVal errVal_some errVal_none)

mutual
theorem okLen_of : ∀ t : NT, szT t ≤ 1000000 → okLen t
  | .mk k n tx ks kids, h => by
    have hL := okLen_ofL kids
    unfold szT at h
    have h1 : ks.length ≤ (ks.map fun k => k.length + 1).sum := by
      clear hL h
      induction ks with
      | nil => simp
      | cons a l ih => simp only [List.length_cons, List.map_cons, List.sum_cons]; omega
    have h2 : kids.length ≤ szL kids := by
      clear hL h h1
      induction kids with
      | nil => simp
      | cons a l ih =>
        obtain ⟨_, _, _, _, _⟩ := a
        simp only [List.length_cons, szL, szT]; omega
    unfold okLen
    exact ⟨by omega, by omega, hL (by omega)⟩
termination_by t => SizeOf.sizeOf t
theorem okLen_ofL : ∀ l : List NT, szL l ≤ 1000000 → ∀ t ∈ l, okLen t
  | [], _, t, ht => by simp at ht
  | a :: l, h, t, ht => by
    unfold szL at h
    have h1 := okLen_of a (by omega)
    have h2 := okLen_ofL l (by omega)
    rcases List.mem_cons.1 ht with e | e
    · rw [e]; exact h1
    · exact h2 t e
termination_by l => SizeOf.sizeOf l
end
theorem pJ_bad_le : ∀ (f : Nat) (m : Md) (d c : Nat) (l : List UInt8) (e : Nat), pJ f m d c l = .bad e → e ≤ 5
  | 0, _, _, _, _, _, h => by simp only [pJ, Res.bad.injEq] at h; omega
  | f + 1, .val, d, c, l, e, h => by
    have ih := pJ_bad_le f
    have word : ∀ w k l c, wordR w k l c = .bad e → e ≤ 5 := fun w k l c e => by
      unfold wordR at e
      split at e
      · cases e
      · simp only [Res.bad.injEq] at e; omega
    unfold pJ at h
    split at h
    · simp only [Res.bad.injEq] at h; omega
    split at h
    · simp only [Res.bad.injEq] at h; omega
    split at h
    · exact word _ _ _ _ h
    split at h
    · exact word _ _ _ _ h
    split at h
    · exact word _ _ _ _ h
    split at h
    · unfold strR at h
      split at h
      · cases h
      · simp only [Res.bad.injEq] at h; omega
    split at h
    · split at h
      · simp only [Res.bad.injEq] at h; omega
      · split at h
        · exact ih _ _ _ _ _ h
        · split at h
          · cases h
          · exact ih _ _ _ _ _ h
    split at h
    · split at h
      · simp only [Res.bad.injEq] at h; omega
      · split at h
        · exact ih _ _ _ _ _ h
        · split at h
          · cases h
          · exact ih _ _ _ _ _ h
    · unfold numR I2.takeR at h
      split at h
      · cases h
      · rename_i hR
        simp only [Res.bad.injEq] at h
        split at hR
        · simp only [Prod.mk.injEq, Option.some.injEq] at hR; omega
        · split at hR
          · simp at hR
          · simp only [Prod.mk.injEq, Option.some.injEq] at hR; omega
  | f + 1, .arr acc, d, c, l, e, h => by
    have ih := pJ_bad_le f
    unfold pJ at h
    split at h
    · rename_i hv
      simp only [Res.bad.injEq] at h
      rw [← h]; exact ih _ _ _ _ _ hv
    split at h
    · simp only [Res.bad.injEq] at h; omega
    split at h
    · cases h
    split at h
    · exact ih _ _ _ _ _ h
    · simp only [Res.bad.injEq] at h; omega
  | f + 1, .obj ks acc, d, c, l, e, h => by
    have ih := pJ_bad_le f
    unfold pJ at h
    split at h
    · simp only [Res.bad.injEq] at h; omega
    split at h
    · simp only [Res.bad.injEq] at h; omega
    split at h
    · simp only [Res.bad.injEq] at h; omega
    split at h
    · split at h
      · rename_i hv
        simp only [Res.bad.injEq] at h
        rw [← h]; exact ih _ _ _ _ _ hv
      split at h
      · simp only [Res.bad.injEq] at h; omega
      split at h
      · cases h
      split at h
      · exact ih _ _ _ _ _ h
      · simp only [Res.bad.injEq] at h; omega
    · simp only [Res.bad.injEq] at h; omega
theorem pText_bad_le {l : List UInt8} {e : Nat} (h : pText l = .bad e) : e ≤ 5 := by
  rw [pText_eq] at h
  split at h
  · simp only [Ans.bad.injEq] at h; omega
  · cases hp : pI .val 0 0 l with
    | bad e1 => rw [hp] at h; simp only [after, Ans.bad.injEq] at h; rw [← h]; exact pJ_bad_le _ _ _ _ _ _ hp
    | ok v r c =>
      rw [hp] at h
      simp only [after] at h
      split at h
      · cases h
      · simp only [Ans.bad.injEq] at h; omega

mutual
theorem rgt_okInt : ∀ (d : Nat) (t : NT), rgt d t → okInt t
  | d, .mk k n tx ks kids, h => by
    have hL := rgt_okIntL (d + 1) kids
    unfold rgt at h
    unfold okInt
    exact ⟨h.2.2.2.2.2.2.1, h.2.2.2.2.2.2.2.1, hL h.2.2.2.2.2.2.2.2.2.2.2.2.2⟩
termination_by _ t => SizeOf.sizeOf t
theorem rgt_okIntL : ∀ (d : Nat) (l : List NT), rgtL d l → okIntL l
  | _, [], _ => trivial
  | d, a :: l, h => ⟨rgt_okInt d a h.1, rgt_okIntL d l h.2⟩
termination_by _ l => SizeOf.sizeOf l
end
theorem zero_nisZ (ok : Nat → Prop) (w : World) : NIs ok 33 w (.mk 0 0 [] [] []) (.agg #[.int .i64 0, .int .i64 0, .string ⟨#[]⟩, .slice none 0 0, .slice none 0 0]) :=
  ⟨.slice none 0 0, none, 0, rfl, ⟨none, 0, rfl, .inl rfl⟩, .inl rfl⟩

set_option maxRecDepth 100000 in
set_option maxHeartbeats 4000000 in
theorem law_parses (w : World) (A : Nat → Addr) (hC : CondN w A) (s : ByteArray) :
    Calls Tryz.prog 3 #[.string s] w fun e w' => e = .returned (.bool true) ∧ Below w.heap.size w w' := by
  have hl0 := alive_any w A hC
  have HC := Lib.hid hC
  clear hC
  go_enter Tryz.func3, Tryz.ntmps3
  go_wp2_with fail
  refine hl0.mono ?_
  rintro e w1 ⟨rfl, hb1⟩
  have HB1 := Lib.hid hb1
  clear hl0 hb1
  by_cases hlen : 3000 < s.size
  · have q : decide ((3000 : Int) < s.size) = true := decide_eq_true (by omega)
    go_wp2
    go_ret
    exact ⟨rfl, HB1.out⟩
  have q : decide ((3000 : Int) < s.size) = false := decide_eq_false (by omega)
  have HC1 := Lib.hid (HC.out.below HB1.out)
  cases hp : pText s.data.toList with
  | bad e0 =>
    have p1 := parse_bad s w1 A HC1.out.c (by omega) hp
    have he5 : e0 ≤ 5 := pText_bad_le hp
    have p2 := fun W => (rparse_any s W (by omega)).mono (R' := fun e w' => 0 < e0 ∧ e = .returned (.tuple #[.agg #[.int .i64 0, .int .i64 0, .string ⟨#[]⟩, .slice none 0 0, .slice none 0 0], .int .i64 e0]) ∧ Below W.heap.size W w') (by intro e w' h; unfold RefPost at h; rw [hp] at h; exact h)
    clear hp
    go_upto_region 5 with fail
    go_wp2_with fail
    refine p1.mono ?_
    rintro e w2 ⟨rfl, HB2⟩
    clear p1
    go_upto_region 6 with fail
    refine wp_gen (fun w3 => Hid (Below w.heap.size w w3) ∧ Hid (zeroBlk w3 w2.heap.size) ∧ w2.heap.size < w3.heap.size) ⟨?_, heap_alloc_new w2 _, by simp⟩ ?_
    · have h12 := HB1.out.trans (HB2.out.mono HB1.out.size)
      exact h12.alloc h12.size _
    rintro w3 ⟨HB3, HX3, hx3⟩
    go_wp2_with fail
    refine (p2 w3).mono ?_
    rintro e w4 ⟨he0, rfl, hb4⟩
    have HB4 := Lib.hid hb4
    clear p2 hb4
    obtain ⟨e1, rfl⟩ : ∃ e1, e0 = e1 + 1 := ⟨e0 - 1, by omega⟩
    simp only [Nat.add_sub_cancel]
    go_upto_region 7 with fail
    refine wp_gen (fun w5 => Hid (Below w.heap.size w w5) ∧ Hid (zeroBlk w5 w2.heap.size) ∧ Hid (zeroBlk w5 w4.heap.size)) ⟨?_, ?_, heap_alloc_new w4 _⟩ ?_
    · have h12 := HB3.out.trans (HB4.out.mono HB3.out.size)
      exact h12.alloc h12.size _
    · exact ((Below.heap_alloc w4 _ _ (by have := HB4.out.size; omega)).trans (HB4.out.block _ hx3)).trans HX3.out
    rintro w5 ⟨HB5, HX5, HY5⟩
    clear HX3
    have x0 : w5.cell? ⟨w2.heap.size, 0, none⟩ = some (.int .i64 0) := HX5.out.cell 0 (by omega)
    have x1 : w5.cell? ⟨w2.heap.size, 1, none⟩ = some (.int .i64 0) := HX5.out.cell 1 (by omega)
    have x2 : w5.cell? ⟨w2.heap.size, 2, none⟩ = some (.string ⟨#[]⟩) := HX5.out.cell 2 (by omega)
    have x3 : w5.cell? ⟨w2.heap.size, 3, none⟩ = some (.slice none 0 0) := HX5.out.cell 3 (by omega)
    have x4 : w5.cell? ⟨w2.heap.size, 4, none⟩ = some (.slice none 0 0) := HX5.out.cell 4 (by omega)
    have y0 : w5.cell? ⟨w4.heap.size, 0, none⟩ = some (.int .i64 0) := HY5.out.cell 0 (by omega)
    have y1 : w5.cell? ⟨w4.heap.size, 1, none⟩ = some (.int .i64 0) := HY5.out.cell 1 (by omega)
    have y2 : w5.cell? ⟨w4.heap.size, 2, none⟩ = some (.string ⟨#[]⟩) := HY5.out.cell 2 (by omega)
    have y3 : w5.cell? ⟨w4.heap.size, 3, none⟩ = some (.slice none 0 0) := HY5.out.cell 3 (by omega)
    have y4 : w5.cell? ⟨w4.heap.size, 4, none⟩ = some (.slice none 0 0) := HY5.out.cell 4 (by omega)
    have ps := ref_any 33 (fun _ => True) (fun _ => True) (.mk 0 0 [] [] []) (.mk 0 0 [] [] []) (.agg #[.int .i64 0, .int .i64 0, .string ⟨#[]⟩, .slice none 0 0, .slice none 0 0]) (.agg #[.int .i64 0, .int .i64 0, .string ⟨#[]⟩, .slice none 0 0, .slice none 0 0]) w5 (zero_nisZ _ _) (zero_nisZ _ _) (okLen_of _ (by simp [szT, szL])) (okLen_of _ (by simp [szT, szL]))
    rw [eqT_self] at ps
    go_wp2_with fail
    refine ps.mono ?_
    rintro e w6 ⟨rfl, hb6⟩
    have HB6 : Hid (Below w.heap.size w w6) := HB5.out.trans (hb6.mono HB5.out.size)
    clear ps hb6 x0 x1 x2 x3 x4 y0 y1 y2 y3 y4
    have pn := num_any A w6 (HC.out.e.below HB6.out) e1 (by omega)
    have qe : (((e1 : Nat) : Int) + 1 == ((e1 + 1 : Nat) : Int)) = true := by simp
    have qn : (((e1 + 1 : Nat) : Int) != 0) = true := by simp; omega
    go_wp2_with fail
    refine pn.mono ?_
    rintro e w7 ⟨rfl, hb7⟩
    clear pn
    go_wp2
    go_ret
    exact ⟨rfl, HB6.out.trans (hb7.mono HB6.out.size)⟩
  | ok v =>
    have p1 := parse_ok s w1 A HC1.out.c (by omega) hp
    have hfit := text_fit hp
    have hsz := hfit.2.2
    rw [size_list] at hsz
    have HFIT := Lib.hid hfit
    have p2 := fun W => (rparse_any s W (by omega)).mono (R' := fun e w' => ∃ v', e = .returned (.tuple #[v', .int .i64 0]) ∧ NIs (fun b => W.heap.size ≤ b) (2 * s.size + 3) w' v v' ∧ Below W.heap.size W w') (by intro e w' h; unfold RefPost at h; rw [hp] at h; exact h)
    clear hp hfit
    go_upto_region 5 with fail
    go_wp2_with fail
    refine p1.mono ?_
    rintro e w2 ⟨k1, n1, x1, A1, l1, c1, B1, m1, d1, rfl, HN2, HB2⟩
    clear p1
    go_upto_region 6 with fail
    refine wp_gen (fun w3 => Hid (Below w.heap.size w w3) ∧ Hid (Blk w3 w2.heap.size (.int .i64 k1) (.int .i64 n1) (.string ⟨x1.toArray⟩) (.slice A1 l1 c1) (.slice B1 m1 d1)) ∧ Hid (NIs (fun b => w1.heap.size ≤ b) 33 w3 v (.agg #[.int .i64 k1, .int .i64 n1, .string ⟨x1.toArray⟩, .slice A1 l1 c1, .slice B1 m1 d1])) ∧ w2.heap.size < w3.heap.size) ⟨?_, heap_alloc_new w2 _, HN2.out.below ((Below.refl _ _).alloc (Nat.le_refl _) _), by simp⟩ ?_
    · have h12 := HB1.out.trans (HB2.out.mono HB1.out.size)
      exact h12.alloc h12.size _
    rintro w3 ⟨HB3, HX3, HN3, hx3⟩
    clear HN2
    go_wp2_with fail
    refine (p2 w3).mono ?_
    rintro e w4 ⟨v', rfl, hM4, hb4⟩
    obtain ⟨k2, n2, x2, A2, l2, c2, B2, m2, d2, rfl⟩ := hM4.nd
    have HB4 := Lib.hid hb4
    have HM4 := Lib.hid hM4
    clear p2 hb4 hM4
    go_upto_region 7 with fail
    refine wp_gen (fun w5 => Hid (Below w.heap.size w w5) ∧ Hid (Blk w5 w2.heap.size (.int .i64 k1) (.int .i64 n1) (.string ⟨x1.toArray⟩) (.slice A1 l1 c1) (.slice B1 m1 d1)) ∧ Hid (Blk w5 w4.heap.size (.int .i64 k2) (.int .i64 n2) (.string ⟨x2.toArray⟩) (.slice A2 l2 c2) (.slice B2 m2 d2)) ∧ Hid (NIs (fun b => w1.heap.size ≤ b) 33 w5 v (.agg #[.int .i64 k1, .int .i64 n1, .string ⟨x1.toArray⟩, .slice A1 l1 c1, .slice B1 m1 d1])) ∧ Hid (NIs (fun b => w3.heap.size ≤ b) (2 * s.size + 3) w5 v (.agg #[.int .i64 k2, .int .i64 n2, .string ⟨x2.toArray⟩, .slice A2 l2 c2, .slice B2 m2 d2]))) ⟨?_, ?_, heap_alloc_new w4 _, ?_, HM4.out.below ((Below.refl _ _).alloc (Nat.le_refl _) _)⟩ ?_
    · have h12 := HB3.out.trans (HB4.out.mono HB3.out.size)
      exact h12.alloc h12.size _
    · exact ((Below.heap_alloc w4 _ _ (by have := HB4.out.size; omega)).trans (HB4.out.block _ hx3)).trans HX3.out
    · exact (HN3.out.below HB4.out).below ((Below.refl _ _).alloc (Nat.le_refl _) _)
    rintro w5 ⟨HB5, HX5, HY5, HN5, HM5⟩
    clear HN3 HM4 HX3
    have u0 : w5.cell? ⟨w2.heap.size, 0, none⟩ = some (.int .i64 k1) := HX5.out.cell 0 (by omega)
    have u1 : w5.cell? ⟨w2.heap.size, 1, none⟩ = some (.int .i64 n1) := HX5.out.cell 1 (by omega)
    have u2 : w5.cell? ⟨w2.heap.size, 2, none⟩ = some (.string ⟨x1.toArray⟩) := HX5.out.cell 2 (by omega)
    have u3 : w5.cell? ⟨w2.heap.size, 3, none⟩ = some (.slice A1 l1 c1) := HX5.out.cell 3 (by omega)
    have u4 : w5.cell? ⟨w2.heap.size, 4, none⟩ = some (.slice B1 m1 d1) := HX5.out.cell 4 (by omega)
    have y0 : w5.cell? ⟨w4.heap.size, 0, none⟩ = some (.int .i64 k2) := HY5.out.cell 0 (by omega)
    have y1 : w5.cell? ⟨w4.heap.size, 1, none⟩ = some (.int .i64 n2) := HY5.out.cell 1 (by omega)
    have y2 : w5.cell? ⟨w4.heap.size, 2, none⟩ = some (.string ⟨x2.toArray⟩) := HY5.out.cell 2 (by omega)
    have y3 : w5.cell? ⟨w4.heap.size, 3, none⟩ = some (.slice A2 l2 c2) := HY5.out.cell 3 (by omega)
    have y4 : w5.cell? ⟨w4.heap.size, 4, none⟩ = some (.slice B2 m2 d2) := HY5.out.cell 4 (by omega)
    have ho : okLen v := okLen_of v (by omega)
    have ps := ref_any (max 33 (2 * s.size + 3)) _ _ v v _ _ w5 (HN5.out.mono (Nat.le_max_left _ _)) (HM5.out.mono (Nat.le_max_right _ _)) ho ho
    rw [eqT_self] at ps
    clear ho
    go_wp2_with fail
    refine ps.mono ?_
    rintro e w6 ⟨rfl, hb6⟩
    have HB6 : Hid (Below w.heap.size w w6) := HB5.out.trans (hb6.mono HB5.out.size)
    have HX6 : Hid (Blk w6 w2.heap.size (.int .i64 k1) (.int .i64 n1) (.string ⟨x1.toArray⟩) (.slice A1 l1 c1) (.slice B1 m1 d1)) := (hb6.block _ HX5.out.lt).trans HX5.out
    have HN6 := Lib.hid (HN5.out.below hb6)
    clear ps hb6 u0 u1 u2 u3 u4 y0 y1 y2 y3 y4 HY5 HM5 HN5 HX5
    have u0 : w6.cell? ⟨w2.heap.size, 0, none⟩ = some (.int .i64 k1) := HX6.out.cell 0 (by omega)
    have u1 : w6.cell? ⟨w2.heap.size, 1, none⟩ = some (.int .i64 n1) := HX6.out.cell 1 (by omega)
    have u2 : w6.cell? ⟨w2.heap.size, 2, none⟩ = some (.string ⟨x1.toArray⟩) := HX6.out.cell 2 (by omega)
    have u3 : w6.cell? ⟨w2.heap.size, 3, none⟩ = some (.slice A1 l1 c1) := HX6.out.cell 3 (by omega)
    have u4 : w6.cell? ⟨w2.heap.size, 4, none⟩ = some (.slice B1 m1 d1) := HX6.out.cell 4 (by omega)
    have pr := Right_any 33 _ v _ w6 HN6.out (by omega) (rgt_okInt 0 v HFIT.out.1) (HC.out.below HB6.out).c.s.tabs
    go_wp2_with (first
      | (go_at_call 9; refine (num_nil _).mono ?_; rintro e wx ⟨rfl, rfl⟩)
      | (go_at_call 10; refine pr.mono ?_; rintro e w8 ⟨⟨b, rfl, hb⟩, hb8⟩; obtain rfl : b = true := hb.2 ⟨HFIT.out.1, HFIT.out.2.1⟩))
    go_ret
    exact ⟨rfl, HB6.out.trans (hb8.mono HB6.out.size)⟩

end Go.Proofs.YtlaagdpanbineaaGreatDoor

