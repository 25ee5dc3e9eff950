/- The program's reader of JSON: read, Parse. -/
import Derived.Test.YtlaagdpanbineaaGreatDoorGz
import Derived.Handy
namespace Go.Proofs.YtlaagdpanbineaaGreatDoor
open Go.RowKit
open I2 (errVal errVal_some errVal_none)

section
variable (R B : Nat) (s : ByteArray) (A : Nat → Addr)

theorem pass_all (w0 : World) (res : Ans) (hBR : B ≤ R) (hs : s.size ≤ 200000) : ∀ (l : Nat) (a : Act) (w : World), JJ R B s A w0 res l a w →
    findLabel (scopeOf Tryz.f16) l = some (.seq .skip (afterL l)) ∧ (Code.seq .skip (afterL l)).wp Tryz.prog (jumps (fun l' a' w' => JJ R B s A w0 res l' a' w' ∧ mu R s l' a' w' < mu R s l a w) (QQ R s A w0 res)) a w := by
  intro l a w hJ
  obtain ⟨hF, hW⟩ := hJ
  have hseq : ∀ {c : Code} {Q : Exit → Act → World → Prop}, c.wp Tryz.prog Q a w → (Code.seq .skip c).wp Tryz.prog Q a w := fun h => by
    apply wp_seq
    apply wp_skip
    exact h
  rcases l with _ | _ | _ | _ | _ | _ | _ | _ | l
  · exact ⟨rfl, hseq (pass0 R B s A w0 res hBR hs hF hW (Nat.le_refl _))⟩
  · exact ⟨rfl, hseq (pass1 R B s A w0 res hBR hs hF hW (Nat.le_refl _))⟩
  · exact ⟨rfl, hseq (pass2 R B s A w0 res hBR hs hF hW (Nat.le_refl _))⟩
  · exact ⟨rfl, hseq (pass3 R B s A w0 res hBR hs hF hW (Nat.le_refl _))⟩
  · exact ⟨rfl, hseq (pass4 R B s A w0 res hBR hs hF hW (Nat.le_refl _))⟩
  · exact ⟨rfl, hseq (pass5 R B s A w0 res hBR hs hF hW (Nat.le_refl _))⟩
  · exact ⟨rfl, hseq (pass6 R B s A w0 res hBR hs hF hW (Nat.le_refl _))⟩
  · exact ⟨rfl, hseq (pass7 R B s A w0 res hBR hs hF hW (Nat.le_refl _))⟩
  · exact hW.elim

set_option maxRecDepth 100000 in
set_option maxHeartbeats 2000000 in
theorem read_any (w : World) (hR : RdP w R s 0 0 (.slice none 0 0) LV.zero) (hC : CondB B w A) (hBR : B ≤ R) (hs : s.size ≤ 200000) :
    Calls Tryz.prog 16 #[.pointer (some ⟨R, 0, none⟩)] w (ReadPost R s A w (after [] (pI .val 0 0 s.data.toList))) := by
  have HR := Lib.hid hR
  have HC := Lib.hid hC
  clear hR hC
  obtain ⟨res, hres⟩ : ∃ res, after [] (pI .val 0 0 s.data.toList) = res := ⟨_, rfl⟩
  rw [hres]
  have HRES := Lib.hid hres
  clear hres
  go_enter Tryz.func16, Tryz.ntmps16
  go_wp2
  refine wp_scope_many (Q := QQ R s A w res) (JJ R B s A w res) (mu R s) ?_ ?_
  · apply wp_seq
    apply wp_label
    refine wp_mono (pass0 R B s A w res hBR hs (m := mu R s 0 _ _) (by unfold FrameIs; exact ⟨_, _, _, _, _, _, _, _, _, _, _, _, _, _, _, _, _, _, _, _, _, _, _, _, _, _, _, _, _, _, _, _, _, _, _, _, _, _, _, _, _, _, _, _, _, _, _, _, _, _, _, _, _, _, _, _, _, _, _, _, _, _, _, rfl⟩) ⟨?_⟩ (Nat.le_refl _)) ?_
    · exact ⟨0, 0, _, _, fun _ => 0, [], ⟨HR.out, Nat.zero_le _, HC.out, Below.refl _ _, by omega⟩, Stk.nil _ _ _ _, fun _ h => absurd h (by simp), by rw [← HRES.out]; rfl⟩
    · intro e a w h
      cases e <;> first | exact h.1 | exact h
  · intro l a w1 hJ
    exact ⟨_, pass_all R B s A w res hBR hs l a w1 hJ⟩
end

end Go.Proofs.YtlaagdpanbineaaGreatDoor

/- json.Parse: what each call returns. -/
namespace Go.Proofs.YtlaagdpanbineaaGreatDoor
open Go.RowKit
open I2 (errVal errVal_some errVal_none)

section
variable (s : ByteArray) (w : World) (A : Nat → Addr)

def ParsePost (w : World) (e : Ending) (w' : World) : Prop := match pText s.data.toList with
  | .bad e0 => 0 < e0 ∧ e = .returned (.tuple #[LV.zero.v, errVal A (some (e0 - 1))]) ∧ Below w.heap.size w w'
  | .ok v => ∃ L, e = .returned (.tuple #[LV.v L, .nilIface]) ∧ NIs (fun b => w.heap.size ≤ b) 33 w' v L.v ∧ Below w.heap.size w w'

theorem below_drew1 {B : Nat} {a w : World} (h : Below B a w) : Below B a w.drew := ⟨h.os, h.tape, h.output, h.size, h.block⟩
theorem parse_set5 {w w' : World} (h : Below w.heap.size w w') {d0 d1 d2 d3 d4 : Value} : Below w.heap.size w (((((w'.setCell ⟨w.heap.size, 0, none⟩ d0).setCell ⟨w.heap.size, 1, none⟩ d1).setCell ⟨w.heap.size, 2, none⟩ d2).setCell ⟨w.heap.size, 3, none⟩ d3).setCell ⟨w.heap.size, 4, none⟩ d4) :=
  ((((h.setCell (Nat.le_refl _) _).setCell (Nat.le_refl _) _).setCell (Nat.le_refl _) _).setCell (Nat.le_refl _) _).setCell (Nat.le_refl _) _

set_option maxRecDepth 100000 in
set_option maxHeartbeats 2000000 in
theorem parse_any (hC : Cond w A) (hs : s.size ≤ 200000) : Calls Tryz.prog 6 #[.string s] w (ParsePost s A w) := by
  by_cases hbig : 100000 < s.size
  · have hp : pText s.data.toList = .bad 3 := by rw [pText_eq, if_pos (by rw [size_list]; exact hbig)]
    have HP := Lib.hid hp
    have q : decide ((100000 : Int) < s.size) = true := decide_eq_true (by omega)
    have HC := Lib.hid hC
    have ce : w.cell? ⟨0, 0, none⟩ = _ := hC.n.errs.cell 2 (by omega)
    have cl := cell_lt ce
    clear hp hC hbig
    go_enter Tryz.func6, Tryz.ntmps6
    go_upto_region 2 with fail
    refine wp_gen (fun w2 => Hid (zeroBlk w2 w.heap.size) ∧ Hid (Below w.heap.size w w2) ∧ w2.cell? ⟨0, 0, none⟩ = some (.iface 172 (.pointer (some (A 2))))) ⟨heap_alloc_new w _, below_of_gb (gb_alloc (gb_refl w none) _) (Nat.le_refl _) (fun g e => by cases e), ((Below.refl _ _).alloc (Nat.le_refl _) _).cell (p := ⟨0, 0, none⟩) cl |>.trans ce⟩ ?_
    intro w2 ⟨HZ2, HB2, ce2⟩
    have hne1 : w.heap.size ≠ 0 := by omega
    have hne2 : 0 ≠ w.heap.size := by omega
    clear ce cl
    have z0 := HZ2.out.cell 0 (by omega)
    have z1 := HZ2.out.cell 1 (by omega)
    have z2 := HZ2.out.cell 2 (by omega)
    have z3 := HZ2.out.cell 3 (by omega)
    have z4 := HZ2.out.cell 4 (by omega)
    have f0 := HZ2.out.fz
    go_region
    all_goals
      go_wp2
      refine bp_gen (fun w5 => Hid (zeroBlk w5 w.heap.size) ∧ Hid (Below w.heap.size w w5)) ⟨HZ2.out.store _ _ _ _ _, below_drew1 (parse_set5 HB2.out)⟩ ?_
      intro w5 ⟨HZ5, HB5⟩
      have y0 := HZ5.out.cell 0 (by omega)
      have y1 := HZ5.out.cell 1 (by omega)
      have y2 := HZ5.out.cell 2 (by omega)
      have y3 := HZ5.out.cell 3 (by omega)
      have y4 := HZ5.out.cell 4 (by omega)
      (try simp only [Exit.inBlock, Exit.then])
      refine bodyPost_ret (v := .tuple #[LV.zero.v, .iface 172 (.pointer (some (A 2)))]) ?_ rfl ?_
      · simp [results, Tryz.results6, go_sem, y0, y1, y2, y3, y4]
        rfl
      · unfold ParsePost
        rw [HP.out]
        exact ⟨by omega, rfl, HB5.out⟩
  · have HP : Hid (pText s.data.toList = after [] (pI .val 0 0 s.data.toList)) := by
      show _ = _
      rw [pText_eq, if_neg (by rw [size_list]; exact hbig)]
    have q : decide ((100000 : Int) < s.size) = false := decide_eq_false (by omega)
    have HC := Lib.hid hC
    clear hC
    go_enter Tryz.func6, Tryz.ntmps6
    go_upto_region 4 with fail
    refine wp_gen (fun w3 => Hid (zeroBlk w3 w.heap.size) ∧ Hid (RdP w3 (w.heap.size + 1) s 0 0 (.slice none 0 0) LV.zero) ∧ Hid (w.grownBy w3 none)) ⟨(Below.heap_alloc _ _ _ (by simp)).trans (heap_alloc_new w _), heap_alloc_new2 w _ _, gb_alloc (gb_alloc (gb_refl w none) _) _⟩ ?_
    intro w3 ⟨HZ3, HR3, HG3⟩
    obtain ⟨R, hRR⟩ : ∃ R, w.heap.size + 1 = R := ⟨_, rfl⟩
    rw [hRR] at HR3 ⊢
    have hC3 : CondB w.heap.size w3 A := (CondB.of HC.out).grown HG3.out (fun g e => by cases e)
    have hT := read_any R w.heap.size s A w3 HR3.out hC3 (by omega) hs
    rw [← HP.out] at hT
    have hG := HG3.out.size
    have HRR := Lib.hid hRR
    have hRl : w.heap.size < R := by omega
    clear hRR hC3
    cases hp : pText s.data.toList with
    | bad e0 =>
      rw [hp] at hT
      have HPT := Lib.hid hp
      have hnn := fun (w : World) (x : Value) => @run_neq_iface_nil Tryz.prog w 28 (by kernel_rfl) 172 x
      clear hp
      go_wp2_with fail
      refine hT.mono ?_
      rintro e w4 ⟨hpos, rfl, hb4⟩
      rw [errVal_some]
      have HZ4 : Hid (zeroBlk w4 w.heap.size) := (hb4.block _ hRl).trans HZ3.out
      have HB4 : Hid (Below w.heap.size w w4) := (below_of_gb HG3.out (Nat.le_refl _) (fun g e => by cases e)).trans (below_lower hb4 (by omega))
      clear hT hb4
      have z0 := HZ4.out.cell 0 (by omega)
      have z1 := HZ4.out.cell 1 (by omega)
      have z2 := HZ4.out.cell 2 (by omega)
      have z3 := HZ4.out.cell 3 (by omega)
      have z4 := HZ4.out.cell 4 (by omega)
      have f0 := HZ4.out.fz
      go_wp2
      refine bp_gen (fun w5 => Hid (zeroBlk w5 w.heap.size) ∧ Hid (Below w.heap.size w w5)) ⟨HZ4.out.store _ _ _ _ _, parse_set5 HB4.out⟩ ?_
      intro w5 ⟨HZ5, HB5⟩
      have y0 := HZ5.out.cell 0 (by omega)
      have y1 := HZ5.out.cell 1 (by omega)
      have y2 := HZ5.out.cell 2 (by omega)
      have y3 := HZ5.out.cell 3 (by omega)
      have y4 := HZ5.out.cell 4 (by omega)
      (try simp only [Exit.inBlock, Exit.then])
      refine bodyPost_ret (v := .tuple #[LV.zero.v, .iface 172 (.pointer (some (A (e0 - 1))))]) ?_ rfl ?_
      · simp [results, Tryz.results6, go_sem, y0, y1, y2, y3, y4]
        rfl
      · unfold ParsePost
        rw [HPT.out]
        exact ⟨hpos, rfl, HB5.out⟩
    | ok v =>
      rw [hp] at hT
      have HPT := Lib.hid hp
      have hnn := fun (w : World) => @run_neq_nil_nil_at Tryz.prog w 28 (by kernel_rfl)
      clear hp
      go_wp2_with fail
      refine hT.mono ?_
      rintro e w4 ⟨rfl, hb4, k4, c4, hv4, L, hR4, hN4⟩
      have HZ4 : Hid (zeroBlk w4 w.heap.size) := (hb4.block _ hRl).trans HZ3.out
      have HB4 : Hid (Below w.heap.size w w4) := (below_of_gb HG3.out (Nat.le_refl _) (fun g e => by cases e)).trans (below_lower hb4 (by omega))
      have HN4 := Lib.hid hN4
      obtain ⟨kk, nn, tt, A3, l3, m3, A4, l4, m4, hLv⟩ := hN4.nd
      obtain ⟨a0, a1, a2, a3, a4⟩ := L
      simp only [LV.v, Value.agg.injEq, Array.mk.injEq, List.cons.injEq, and_true] at hLv
      obtain ⟨rfl, rfl, rfl, rfl, rfl⟩ := hLv
      have r4 := hR4.c4
      have r5 := hR4.c5
      have r6 := hR4.c6
      have r7 := hR4.c7
      have r8 := hR4.c8
      clear hT hb4 hN4 hR4
      have z0 := HZ4.out.cell 0 (by omega)
      have z1 := HZ4.out.cell 1 (by omega)
      have z2 := HZ4.out.cell 2 (by omega)
      have z3 := HZ4.out.cell 3 (by omega)
      have z4 := HZ4.out.cell 4 (by omega)
      have f0 := HZ4.out.fz
      go_wp2
      refine bp_gen (fun w5 => Hid (Blk w5 w.heap.size (.int .i64 kk) (.int .i64 nn) (.string ⟨tt.toArray⟩) (.slice A3 l3 m3) (.slice A4 l4 m4)) ∧ Hid (Below w.heap.size w w5) ∧ Hid (w4.grownBy w5 (some w.heap.size))) ⟨HZ4.out.store _ _ _ _ _, parse_set5 HB4.out, gb_set (gb_set (gb_set (gb_set (gb_set (gb_refl _ _) _) _) _) _) _⟩ ?_
      intro w5 ⟨HZ5, HB5, HG5⟩
      have y0 := HZ5.out.cell 0 (by omega)
      have y1 := HZ5.out.cell 1 (by omega)
      have y2 := HZ5.out.cell 2 (by omega)
      have y3 := HZ5.out.cell 3 (by omega)
      have y4 := HZ5.out.cell 4 (by omega)
      (try simp only [Exit.inBlock, Exit.then])
      refine bodyPost_ret (v := .tuple #[.agg #[.int .i64 kk, .int .i64 nn, .string ⟨tt.toArray⟩, .slice A3 l3 m3, .slice A4 l4 m4], .nilIface]) ?_ rfl ?_
      · simp [results, Tryz.results6, go_sem, y0, y1, y2, y3, y4]
      · unfold ParsePost
        rw [HPT.out]
        refine ⟨⟨.int .i64 kk, .int .i64 nn, .string ⟨tt.toArray⟩, .slice A3 l3 m3, .slice A4 l4 m4⟩, rfl, HN4.out.kept HG5.out.size (fun b hb hlt => ⟨by omega, HG5.out.block b hlt (by simp; omega)⟩), HB5.out⟩
end

end Go.Proofs.YtlaagdpanbineaaGreatDoor

