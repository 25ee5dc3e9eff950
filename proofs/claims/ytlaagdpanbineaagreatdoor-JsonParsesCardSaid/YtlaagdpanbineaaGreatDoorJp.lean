/- The document's Parse of JSON. -/
import Derived.Test.YtlaagdpanbineaaGreatDoorJv
import Derived.Test.YtlaagdpanbineaaGreatDoorGh
namespace Go.Proofs.YtlaagdpanbineaaGreatDoor
open Go.RowKit

theorem gb_of_below' {w w' : World} (h : Below w.heap.size w w') (r : Option Nat) : w.grownBy w' r := ⟨h.os, h.tape, h.output, h.size, fun k hk _ => h.block k hk⟩
def RefPost (s : ByteArray) (F : Nat) (w : World) (e : Ending) (w' : World) : Prop := match pText s.data.toList with
  | .bad e0 => 0 < e0 ∧ e = .returned (.tuple #[LV.zero.v, .int .i64 e0]) ∧ Below w.heap.size w w'
  | .ok v => ∃ v', e = .returned (.tuple #[v', .int .i64 0]) ∧ NIs (fun b => w.heap.size ≤ b) F w' v v' ∧ Below w.heap.size w w'

set_option maxRecDepth 100000 in
set_option maxHeartbeats 8000000 in
theorem rparse_any (s : ByteArray) (w : World) (hs : s.size ≤ 100000) : Calls Tryz.prog 7 #[.string s] w (RefPost s (2 * s.size + 3) w) := by
  have HP : Hid (pText s.data.toList = after [] (pI .val 0 0 s.data.toList)) := by
    show _ = _
    rw [pText_eq, if_neg (by rw [size_list]; omega)]
  have q : decide ((100000 : Int) < s.size) = false := decide_eq_false (by omega)
  go_enter Tryz.func7, Tryz.ntmps7
  go_upto_region 4 with fail
  refine wp_gen (fun w3 => Hid (zeroBlk w3 w.heap.size) ∧ Hid (RdA w3 (w.heap.size + 1) s 0 0 0) ∧ Hid (w.grownBy w3 none)) ⟨(Below.heap_alloc _ _ _ (by simp)).trans (heap_alloc_new w _), heap_alloc_new2 w _ _, gb_alloc (gb_alloc (gb_refl w none) _) _⟩ ?_
  intro w3 ⟨HZ3, HR3, HG3⟩
  obtain ⟨R, hRR⟩ : ∃ R, w.heap.size + 1 = R := ⟨_, rfl⟩
  rw [hRR] at HR3 ⊢
  have hV := value_any (2 * s.size + 3) R s 0 0 0 w3 (by omega) (by omega) HR3.out (Nat.zero_le _) (by omega) (by omega)
  rw [List.drop_zero] at hV
  have hpi : pJ (2 * s.size + 3) .val 0 0 s.data.toList = pI .val 0 0 s.data.toList := rfl
  rw [hpi] at hV
  have e0 : ((0 : Nat) : Int) = 0 := rfl
  rw [e0] at hV
  have hG := HG3.out.size
  have HRR := Lib.hid hRR
  have hRl : w.heap.size < R := by omega
  have HNE : Hid (w.heap.size ≠ R ∧ R ≠ w.heap.size) := ⟨by omega, by omega⟩
  have hzl := HZ3.out.lt
  clear hRR hpi e0
  cases hp : pI .val 0 0 s.data.toList with
  | bad e0 =>
    rw [hp] at hV
    have HPT : Hid (pText s.data.toList = .bad e0) := by show _ = _; rw [HP.out, hp]; rfl
    clear hp
    go_wp2_with fail
    refine hV.mono ?_
    rintro y w4 ⟨v4, rfl, ⟨kk, nn, tt, A1, l1, m1, A2, l2, m2, rfl⟩, hg4, he0, k4, c4, hR4⟩
    have HZ4 : Hid (zeroBlk w4 w.heap.size) := (hg4.block _ hzl (by simp; omega)).trans HZ3.out
    have HB4 : Hid (Below w.heap.size w w4) := (below_of_gb HG3.out (Nat.le_refl _) (fun g e => by cases e)).trans (below_of_gb hg4 (by omega) (fun g e => by injection e with e; omega))
    have HR4 := Lib.hid hR4
    have hb4 := HB4.out.size
    have c2 : ∀ o, (w4.alloc o).cell? ⟨R, 2, none⟩ = some (.int .i64 e0) := fun o => (HR4.out.alloc o).c2
    have q1 : ((e0 : Int) == 0) = false := by simp; omega
    have q2 : ((e0 : Int) != 0) = true := by simp; omega
    clear hV hR4 hg4
    go_upto_region 10 with fail
    refine wp_gen (fun w5 => Hid (zeroBlk w5 w.heap.size) ∧ Hid (RdA w5 R s k4 e0 c4) ∧ Hid (Below w.heap.size w w5)) ⟨(Below.heap_alloc w4 _ _ HZ4.out.lt).trans HZ4.out, HR4.out.alloc _, HB4.out.alloc hb4 _⟩ ?_
    intro w5 ⟨HZ5, HR5, HB5⟩
    clear c2 q1 q2
    have z0 := HZ5.out.cell 0 (by omega)
    have z1 := HZ5.out.cell 1 (by omega)
    have z2 := HZ5.out.cell 2 (by omega)
    have z3 := HZ5.out.cell 3 (by omega)
    have z4 := HZ5.out.cell 4 (by omega)
    have f0 := HZ5.out.fz
    have c2 := HR5.out.c2
    have hne := HNE.out
    go_region
    all_goals
      go_wp2
      refine bp_gen (fun w6 => Hid (zeroBlk w6 w.heap.size) ∧ Hid (Below w.heap.size w w6)) ⟨HZ5.out.store _ _ _ _ _, below_drew1 (parse_set5 HB5.out)⟩ ?_
      intro w6 ⟨HZ6, HB6⟩
      have y0 := HZ6.out.cell 0 (by omega)
      have y1 := HZ6.out.cell 1 (by omega)
      have y2 := HZ6.out.cell 2 (by omega)
      have y3 := HZ6.out.cell 3 (by omega)
      have y4 := HZ6.out.cell 4 (by omega)
      (try simp only [Exit.inBlock, Exit.then])
      refine bodyPost_ret (v := .tuple #[LV.zero.v, .int .i64 e0]) ?_ rfl ?_
      · simp [results, Tryz.results7, go_sem, y0, y1, y2, y3, y4]
        try rfl
      · unfold RefPost
        rw [HPT.out]
        exact ⟨he0, rfl, HB6.out⟩
  | ok t rest c9 =>
    rw [hp] at hV
    have HPT : Hid (pText s.data.toList = if skipB rest = [] then .ok t else .bad 1) := by show _ = _; rw [HP.out, hp]; rfl
    clear hp
    go_wp2_with fail
    refine hV.mono ?_
    rintro y w4 ⟨v4, rfl, hN4, hg4, k4, hR4, hk4, hd4⟩
    obtain ⟨kk, nn, tt, A1, l1, m1, A2, l2, m2, rfl⟩ := hN4.nd
    have HZ4 : Hid (zeroBlk w4 w.heap.size) := (hg4.block _ hzl (by simp; omega)).trans HZ3.out
    have HB4 : Hid (Below w.heap.size w w4) := (below_of_gb HG3.out (Nat.le_refl _) (fun g e => by cases e)).trans (below_of_gb hg4 (by omega) (fun g e => by injection e with e; omega))
    have HR4 := Lib.hid hR4
    have HD4 := Lib.hid hd4
    have HN4 := Lib.hid hN4
    have hb4 := HB4.out.size
    have hRl4 := HR4.out.lt
    clear hV hR4 hg4 hN4 hd4
    have c2 : ∀ o, (w4.alloc o).cell? ⟨R, 2, none⟩ = some (.int .i64 0) := fun o => (HR4.out.alloc o).c2
    go_upto_region 6 with fail
    refine wp_gen (fun w5 => Hid (zeroBlk w5 w.heap.size) ∧ Hid (Blk w5 w4.heap.size (.int .i64 kk) (.int .i64 nn) (.string ⟨tt.toArray⟩) (.slice A1 l1 m1) (.slice A2 l2 m2)) ∧ Hid (RdA w5 R s k4 0 c9) ∧ Hid (Below w.heap.size w w5) ∧ Hid (Below w4.heap.size w4 w5)) ⟨(Below.heap_alloc w4 _ _ HZ4.out.lt).trans HZ4.out, heap_alloc_new w4 _, HR4.out.alloc _, HB4.out.alloc hb4 _, (Below.refl _ _).alloc (Nat.le_refl _) _⟩ ?_
    intro w5 ⟨HZ5, HX5, HR5, HB5, HB45⟩
    clear c2
    have hN := next_any R s k4 0 c9 w5 HR5.out (by omega) hk4
    have hxl := HX5.out.lt
    have hzl5 := HZ5.out.lt
    have hX4R : R ≠ w4.heap.size := by omega
    go_wp2_with fail
    refine hN.mono ?_
    rintro y w6 ⟨k6, rfl, hR6, _, hk6, hd6, hg6⟩
    have HZ6 : Hid (zeroBlk w6 w.heap.size) := (hg6.block _ hzl5 (by simp; omega)).trans HZ5.out
    have HX6 : Hid (Blk w6 w4.heap.size (.int .i64 kk) (.int .i64 nn) (.string ⟨tt.toArray⟩) (.slice A1 l1 m1) (.slice A2 l2 m2)) := (hg6.block _ hxl (by simp; omega)).trans HX5.out
    have HB6 : Hid (Below w.heap.size w w6) := HB5.out.trans (below_of_gb hg6 HB5.out.size (fun g e => by injection e with e; omega))
    have HG46 : Hid (w4.grownBy w6 (some R)) := gb_trans (gb_of_below' HB45.out _) hg6
    have HR6 := Lib.hid hR6
    have HD6 : Hid (s.data.toList.drop k6 = skipB rest) := by show _ = _; rw [hd6, HD4.out]
    clear hN hR6 hd6 hg6 HZ5 HX5 HR5 HB5 HB45 HZ4 HB4
    have c1 := HR6.out.c1
    by_cases hlt : k6 < s.size
    · have hne : skipB rest ≠ [] := fun e => by
        have := congrArg List.length (HD6.out.trans e)
        rw [List.length_drop, size_list] at this
        simp at this; omega
      have HPT2 : Hid (pText s.data.toList = .bad 1) := by show _ = _; rw [HPT.out, if_neg hne]
      have q3 : decide ((k6 : Int) < s.size) = true := decide_eq_true (by omega)
      have hF := fail_any R s k6 c9 1 w6 HR6.out
      clear hne
      go_wp2_with fail
      refine hF.mono ?_
      rintro y w7 ⟨rfl, hw⟩
      have HZ7 : Hid (zeroBlk w7 w.heap.size) := by show zeroBlk _ _; rw [hw]; exact Blk.other HZ6.out (by omega) _
      have HR7 : Hid (RdA w7 R s k6 1 c9) := by show RdA _ _ _ _ _ _; rw [hw]; exact HR6.out.set2 1
      have HB7 : Hid (Below w.heap.size w w7) := by show Below _ _ _; rw [hw]; exact HB6.out.setCell (by show w.heap.size ≤ R; omega) _
      clear hw hF c1
      have c2 := HR7.out.c2
      go_upto_region 10 with fail
      refine wp_gen (fun w5 => Hid (zeroBlk w5 w.heap.size) ∧ Hid (RdA w5 R s k6 1 c9) ∧ Hid (Below w.heap.size w w5)) ⟨HZ7.out, HR7.out, HB7.out⟩ ?_
      intro w5 ⟨HZ5, HR5, HB5⟩
      clear c2
      have z0 := HZ5.out.cell 0 (by omega)
      have z1 := HZ5.out.cell 1 (by omega)
      have z2 := HZ5.out.cell 2 (by omega)
      have z3 := HZ5.out.cell 3 (by omega)
      have z4 := HZ5.out.cell 4 (by omega)
      have f0 := HZ5.out.fz
      have c2 := HR5.out.c2
      have hne := HNE.out
      go_region
      all_goals
        go_wp2
        refine bp_gen (fun w6 => Hid (zeroBlk w6 w.heap.size) ∧ Hid (Below w.heap.size w w6)) ⟨HZ5.out.store _ _ _ _ _, below_drew1 (parse_set5 HB5.out)⟩ ?_
        intro w6 ⟨HZ6, HB6⟩
        have y0 := HZ6.out.cell 0 (by omega)
        have y1 := HZ6.out.cell 1 (by omega)
        have y2 := HZ6.out.cell 2 (by omega)
        have y3 := HZ6.out.cell 3 (by omega)
        have y4 := HZ6.out.cell 4 (by omega)
        (try simp only [Exit.inBlock, Exit.then])
        refine bodyPost_ret (v := .tuple #[LV.zero.v, .int .i64 1]) ?_ rfl ?_
        · simp [results, Tryz.results7, go_sem, y0, y1, y2, y3, y4]
          try rfl
        · unfold RefPost
          rw [HPT2.out]
          exact ⟨by omega, rfl, HB6.out⟩
    · have hnil : skipB rest = [] := by rw [← HD6.out, List.drop_eq_nil_of_le (by rw [size_list]; omega)]
      have HPT2 : Hid (pText s.data.toList = .ok t) := by show _ = _; rw [HPT.out, if_pos hnil]
      have q3 : decide ((k6 : Int) < s.size) = false := decide_eq_false (by omega)
      have c2 := HR6.out.c2
      clear hnil
      have z0 := HZ6.out.cell 0 (by omega)
      have z1 := HZ6.out.cell 1 (by omega)
      have z2 := HZ6.out.cell 2 (by omega)
      have z3 := HZ6.out.cell 3 (by omega)
      have z4 := HZ6.out.cell 4 (by omega)
      have f0 := HZ6.out.fz
      have x0 := HX6.out.cell 0 (by omega)
      have x1 := HX6.out.cell 1 (by omega)
      have x2 := HX6.out.cell 2 (by omega)
      have x3 := HX6.out.cell 3 (by omega)
      have x4 := HX6.out.cell 4 (by omega)
      go_wp2
      refine bp_gen (fun w7 => Hid (Blk w7 w.heap.size (.int .i64 kk) (.int .i64 nn) (.string ⟨tt.toArray⟩) (.slice A1 l1 m1) (.slice A2 l2 m2)) ∧ Hid (Below w.heap.size w w7) ∧ Hid (w6.grownBy w7 (some w.heap.size))) ⟨HZ6.out.store _ _ _ _ _, parse_set5 HB6.out, gb_set (gb_set (gb_set (gb_set (gb_set (gb_refl _ _) _) _) _) _) _⟩ ?_
      intro w7 ⟨HZ7, HB7, HG67⟩
      have y0 := HZ7.out.cell 0 (by omega)
      have y1 := HZ7.out.cell 1 (by omega)
      have y2 := HZ7.out.cell 2 (by omega)
      have y3 := HZ7.out.cell 3 (by omega)
      have y4 := HZ7.out.cell 4 (by omega)
      (try simp only [Exit.inBlock, Exit.then])
      refine bodyPost_ret (v := .tuple #[.agg #[.int .i64 kk, .int .i64 nn, .string ⟨tt.toArray⟩, .slice A1 l1 m1, .slice A2 l2 m2], .int .i64 0]) ?_ rfl ?_
      · simp [results, Tryz.results7, go_sem, y0, y1, y2, y3, y4]
        try rfl
      · unfold RefPost
        rw [HPT2.out]
        have h3 := HG3.out.size
        refine ⟨_, rfl, ?_, HB7.out⟩
        refine NIs.kept (w := w6) (ok := fun b => w.heap.size < b ∧ b ≠ R) HG67.out.size (fun b hb hlt => ⟨by omega, HG67.out.block b hlt (by simp; omega)⟩) ?_
        exact HN4.out.kept HG46.out.size (fun b hb hlt => ⟨⟨by omega, by have := HR3.out.lt; omega⟩, HG46.out.block b hlt (by simp; have := HR3.out.lt; omega)⟩)

end Go.Proofs.YtlaagdpanbineaaGreatDoor

