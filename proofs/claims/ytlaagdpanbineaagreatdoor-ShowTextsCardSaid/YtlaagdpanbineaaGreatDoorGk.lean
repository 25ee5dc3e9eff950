/- The program's reader of JSON: keep. -/
import Derived.Test.YtlaagdpanbineaaGreatDoorGd
namespace Go.Proofs.YtlaagdpanbineaaGreatDoor
open Go.RowKit Go.Maps
open I2 (errVal)

/-- the last element of a row of values is stored -/
theorem row_set5 {w : World} {N m gg cap : Nat} {xs : List Value} {z0 z1 z2 z3 z4 : Value} (row : w.ownsRow N 26 5 (.slice (some ⟨gg, 0, none⟩) (m + 1) cap) (m + 1) (xs ++ [z0, z1, z2, z3, z4])) (hx : xs.length = m * 5) (a0 a1 a2 a3 a4 : Value) :
    (((((w.setCell ⟨gg, m * 5, none⟩ a0).setCell ⟨gg, m * 5 + 1, none⟩ a1).setCell ⟨gg, m * 5 + 2, none⟩ a2).setCell ⟨gg, m * 5 + 3, none⟩ a3).setCell ⟨gg, m * 5 + 4, none⟩ a4).ownsRow N 26 5 (.slice (some ⟨gg, 0, none⟩) (m + 1) cap) (m + 1) (xs ++ [a0, a1, a2, a3, a4]) := by
  have h := ((((((((row.stored (m * 5) a0).1).stored (m * 5 + 1) a1).1).stored (m * 5 + 2) a2).1).stored (m * 5 + 3) a3).1.stored (m * 5 + 4) a4).1
  rw [← hx] at h ⊢
  rw [show ((((( xs ++ [z0, z1, z2, z3, z4]).set xs.length a0).set (xs.length + 1) a1).set (xs.length + 2) a2).set (xs.length + 3) a3).set (xs.length + 4) a4 = xs ++ [a0, a1, a2, a3, a4] by
    rw [List.set_append_right _ _ (by omega), List.set_append_right _ _ (by omega), List.set_append_right _ _ (by omega), List.set_append_right _ _ (by omega), List.set_append_right _ _ (by omega)]
    simp] at h
  exact h
theorem row_top {w : World} {N n g cap j : Nat} {hs : List HRec} {h h' : HRec} {v : Value} (row : w.ownsRow N 97 6 (.slice (some ⟨g, 0, none⟩) (n + 1) cap) (n + 1) ((hs ++ [h]).flatMap HRec.cells)) (hn : hs.length = n) (hh : h'.cells = h.cells.set j v) (hj : j < 6) :
    (w.setCell ⟨g, n * 6 + j, none⟩ v).ownsRow N 97 6 (.slice (some ⟨g, 0, none⟩) (n + 1) cap) (n + 1) ((hs ++ [h']).flatMap HRec.cells) := by
  have hs2 := (row.stored (n * 6 + j) v).1
  rw [cells_snoc, List.set_append_right _ _ (by rw [cells_len]; omega), cells_len, show n * 6 + j - hs.length * 6 = j by omega, ← hh, ← cells_snoc] at hs2
  exact hs2
theorem row_far {w : World} {base g g2 j : Nat} {e : TypeId} {size n m cap : Nat} {xs : List Value} (h : w.ownsRow base e size (.slice (some ⟨g, 0, none⟩) m cap) n xs) (hne : g ≠ g2) (u : Value) : (w.setCell ⟨g2, j, none⟩ u).ownsRow base e size (.slice (some ⟨g, 0, none⟩) m cap) n xs :=
  ownsRow_setCell_other h (by simp [Value.ownBlock]; exact hne) u

section
variable (R B : Nat) (s : ByteArray) (k c c0 : Nat) (hv : Value) (L : LV) (w : World) (A : Nat → Addr) (own : Nat → Nat) (hs : List HRec) (h : HRec) (n g cap : Nat)

set_option maxRecDepth 100000 in
set_option maxHeartbeats 1000000 in
theorem keep_none (hR : RdP w R s k c hv L) (hS : Stk w (R + 1) own hv [] c0) :
    Calls Tryz.prog 34 #[.pointer (some ⟨R, 0, none⟩)] w fun x w' => x = .returned (.int .i64 0) ∧ w' = w := by
  obtain ⟨S, cap, rfl⟩ := hS.form
  have c3 := hR.c3
  rw [List.length_nil] at c3
  clear hS hR
  go_enter Tryz.func34, Tryz.ntmps34
  go_wp2
  go_ret
  exact ⟨rfl, rfl⟩

def KeepP (t : NT) (w w' : World) : Prop := ∃ own' gg cap', RdP w' R s k c (.slice (some ⟨g, 0, none⟩) (n + 1) cap) L ∧ Stk w' (R + 1) own' (.slice (some ⟨g, 0, none⟩) (n + 1) cap) (hs ++ [h.pushed t (.slice (some ⟨gg, 0, none⟩) (h.fr.kids.length + 1) cap') L]) c0 ∧ Below R w w'

theorem last_cells {w : World} {N m gg cap : Nat} {xs : List Value} {z0 z1 z2 z3 z4 : Value} (row : w.ownsRow N 26 5 (.slice (some ⟨gg, 0, none⟩) (m + 1) cap) (m + 1) (xs ++ [z0, z1, z2, z3, z4])) (hx : xs.length = m * 5) :
    w.cell? ⟨gg, m * 5, none⟩ = some z0 ∧ w.cell? ⟨gg, m * 5 + 1, none⟩ = some z1 ∧ w.cell? ⟨gg, m * 5 + 2, none⟩ = some z2 ∧ w.cell? ⟨gg, m * 5 + 3, none⟩ = some z3 ∧ w.cell? ⟨gg, m * 5 + 4, none⟩ = some z4 := by
  have h := fun j (hj : j < 5) => row.cellAt (m * 5 + j) (by omega)
  have h0 := h 0 (by omega)
  have h1 := h 1 (by omega)
  have h2 := h 2 (by omega)
  have h3 := h 3 (by omega)
  have h4 := h 4 (by omega)
  rw [← hx, List.getElem?_append_right (by omega)] at h0 h1 h2 h3 h4
  simp at h0 h1 h2 h3 h4
  rw [← hx]
  exact ⟨h0, h1, h2, h3, h4⟩
/-- behind the append: what any world is that has the row's last element and the holder's slice stored -/
theorem keep_fin (t : NT) (hR : RdP w R s k c (.slice (some ⟨g, 0, none⟩) (n + 1) cap) L) (hS : Stk w (R + 1) own (.slice (some ⟨g, 0, none⟩) (n + 1) cap) (hs ++ [h]) c0) (hn : hs.length = n) (hL : NIs (fun b => R + 1 ≤ b ∧ own b = 0) (32 - n) w t L.v) (hk : h.fr.kids.length < c0)
    {w9 w' : World} {gg cap' : Nat} {o : Obj} (hgrow : (w.alloc o).grownBy w9 h.cv.ownBlock) (hat : h.cv.ownBlock = some gg ∨ gg = w.heap.size + 1)
    (hos : w'.os = w9.os) (htp : w'.tape = w9.tape) (hou : w'.output = w9.output) (hsz : w'.heap.size = w9.heap.size) (hoth : ∀ b, b ≠ gg → b ≠ g → w'.heap[b]? = w9.heap[b]?)
    (hkids : w'.ownsRow (R + 1) 26 5 (.slice (some ⟨gg, 0, none⟩) (h.fr.kids.length + 1) cap') (h.fr.kids.length + 1) (h.xs ++ [L.a0, L.a1, L.a2, L.a3, L.a4]))
    (hrow : w'.ownsRow (R + 1) 97 6 (.slice (some ⟨g, 0, none⟩) (n + 1) cap) (n + 1) ((hs ++ [h.pushed t (.slice (some ⟨gg, 0, none⟩) (h.fr.kids.length + 1) cap') L]).flatMap HRec.cells)) : KeepP R s k c c0 L hs h n g cap t w w' := by
  subst hn
  have hz := hgrow.size
  have ha : (w.alloc o).heap.size = w.heap.size + 1 := by simp
  have hgl := hS.row.lt g rfl
  have hkl := fun b e => hS.low.2.1.kids.lt b e
  have hggR : R + 1 ≤ gg := by
    rcases hat with e | e
    · exact (hkl gg e).1
    · omega
  have hblk : ∀ b, b < w.heap.size → some b ≠ h.cv.ownBlock → b ≠ g → w'.heap[b]? = w.heap[b]? := fun b h1 h2 h3 =>
    (hoth b (fun e => by
      rcases hat with e2 | e2
      · exact h2 (by rw [e2, e])
      · omega) h3).trans ((hgrow.block b (by omega) h2).trans (Below.heap_alloc _ _ _ h1))
  obtain ⟨own', hS'⟩ := keep_stk (w' := w') (gg := gg) (cap := cap') hS hL (by omega) (by rcases hat with e | e; exact .inl e; exact .inr (by omega)) hkids hrow (fun b h1 _ h3 h4 => hblk b h1 h3 h4) hk
  have hRl := hR.lt
  refine ⟨own', gg, cap', ?_, hS', ⟨hos.trans hgrow.os, htp.trans hgrow.tape, hou.trans hgrow.output, by omega, fun b hb1 => hblk b (by omega) (fun e => by have := (hkl b e.symm).1; omega) (by omega)⟩⟩
  exact (hblk R hRl (fun e => by have := (hkl R e.symm).1; omega) (by omega)).trans hR

theorem setc_other {w : World} {g j b : Nat} {v : Value} (h : b ≠ g) : (w.setCell ⟨g, j, none⟩ v).heap[b]? = w.heap[b]? := by
  simp only [World.setCell]
  rw [Array.getElem?_modify, if_neg (fun e => h e.symm)]
theorem setc_os {w : World} {a : Addr} {v : Value} : (w.setCell a v).os = w.os := rfl
theorem setc_tape {w : World} {a : Addr} {v : Value} : (w.setCell a v).tape = w.tape := rfl
theorem setc_out {w : World} {a : Addr} {v : Value} : (w.setCell a v).output = w.output := rfl
theorem setc_size {w : World} {g j : Nat} {v : Value} : (w.setCell ⟨g, j, none⟩ v).heap.size = w.heap.size := by simp [World.setCell]

theorem keepP_cell {t : NT} {w w' : World} {R k c c0 n g cap : Nat} {s : ByteArray} {L : LV} {hs : List HRec} {h : HRec} (hP : KeepP R s k c c0 L hs h n g cap t w w') (hn : hs.length = n) : w'.cell? ⟨g, n * 6, none⟩ = some (.int .i64 h.fr.kind) := by
  obtain ⟨own', gg, cap', _, hS, _⟩ := hP
  have hrow := hS.row
  rw [List.length_append, List.length_singleton, hn] at hrow
  have := top_cell hn hrow 0 (by omega)
  rw [Nat.add_zero] at this
  rw [this]
  show some (Value.int .i64 (h.fr.push t).kind) = _
  rw [push_kind]

theorem keepP_pack {t : NT} {w w' : World} {R k c c0 n g cap : Nat} {s : ByteArray} {L : LV} {hs : List HRec} {h : HRec} (hP : KeepP R s k c c0 L hs h n g cap t w w') (hn : hs.length = n) :
    Value.pointer (some ⟨g, n * 6, none⟩) = .pointer (some ⟨g, n * 6, none⟩) ∧ Hid (KeepP R s k c c0 L hs h n g cap t w w') ∧ w'.cell? ⟨g, n * 6, none⟩ = some (.int .i64 h.fr.kind) := ⟨rfl, hP, keepP_cell hP hn⟩

theorem keep_a (t : NT) (hR : RdP w R s k c (.slice (some ⟨g, 0, none⟩) (n + 1) cap) L) (hS : Stk w (R + 1) own (.slice (some ⟨g, 0, none⟩) (n + 1) cap) (hs ++ [h]) c0) (hn : hs.length = n) (hL : NIs (fun b => R + 1 ≤ b ∧ own b = 0) (32 - n) w t L.v) (hk : h.fr.kids.length < c0)
    {w9 : World} {gg cap' m q d : Nat} {S : Option Addr} {o : Obj} (he : h.cv = .slice S m q) (hgrow : ((w.drewN d).alloc o).grownBy w9 (Value.slice S m q).ownBlock) (hat : (Value.slice S m q).ownBlock = some gg ∨ gg = w.heap.size + 1) (hne : gg ≠ g)
    {z0 z1 z2 z3 z4 : Value} (hx : h.xs.length = h.fr.kids.length * 5) (hown : w9.ownsRow (R + 1) 26 5 (.slice (some ⟨gg, 0, none⟩) (h.fr.kids.length + 1) cap') (h.fr.kids.length + 1) (h.xs ++ [z0, z1, z2, z3, z4]))
    (hrow : w9.ownsRow (R + 1) 97 6 (.slice (some ⟨g, 0, none⟩) (n + 1) cap) (n + 1) ((hs ++ [h]).flatMap HRec.cells)) :
    KeepP R s k c c0 L hs h n g cap t w ((((((w9.setCell ⟨gg, h.fr.kids.length * 5, none⟩ L.a0).setCell ⟨gg, h.fr.kids.length * 5 + 1, none⟩ L.a1).setCell ⟨gg, h.fr.kids.length * 5 + 2, none⟩ L.a2).setCell ⟨gg, h.fr.kids.length * 5 + 3, none⟩ L.a3).setCell ⟨gg, h.fr.kids.length * 5 + 4, none⟩ L.a4).setCell ⟨g, n * 6 + 4, none⟩ (.slice (some ⟨gg, 0, none⟩) (h.fr.kids.length + 1) cap')) := by
  rw [← he] at hgrow hat
  refine keep_fin R s k c c0 L w own hs h n g cap t hR hS hn hL hk (w9 := w9) (gg := gg) (cap' := cap') (o := o) ⟨hgrow.os, hgrow.tape, hgrow.output, hgrow.size, hgrow.block⟩ hat (by simp only [setc_os]) (by simp only [setc_tape]) (by simp only [setc_out]) (by simp only [setc_size]) (fun b h1 h2 => by rw [setc_other h2, setc_other h1, setc_other h1, setc_other h1, setc_other h1, setc_other h1]) ?_ ?_
  · exact row_far (row_set5 hown hx _ _ _ _ _) hne _
  · refine row_top (h := h) ?_ hn ?_ (by omega)
    · exact row_far (row_far (row_far (row_far (row_far hrow hne.symm _) hne.symm _) hne.symm _) hne.symm _) hne.symm _
    · simp [HRec.cells, HRec.pushed, push_kind]

theorem keep_b (t : NT) (hR : RdP w R s k c (.slice (some ⟨g, 0, none⟩) (n + 1) cap) L) (hS : Stk w (R + 1) own (.slice (some ⟨g, 0, none⟩) (n + 1) cap) (hs ++ [h]) c0) (hn : hs.length = n) (hL : NIs (fun b => R + 1 ≤ b ∧ own b = 0) (32 - n) w t L.v) (hk : h.fr.kids.length < c0)
    {w9 : World} {gg cap' m q d : Nat} {S : Option Addr} {o : Obj} (he : h.cv = .slice S m q) (hgrow : ((w.drewN d).alloc o).grownBy w9 (Value.slice S m q).ownBlock) (hat : (Value.slice S m q).ownBlock = some gg ∨ gg = w.heap.size + 1) (hne : gg ≠ g)
    {z0 z1 z2 z3 z4 : Value} (hx : h.xs.length = h.fr.kids.length * 5) (hown : w9.ownsRow (R + 1) 26 5 (.slice (some ⟨gg, 0, none⟩) (h.fr.kids.length + 1) cap') (h.fr.kids.length + 1) (h.xs ++ [z0, z1, z2, z3, z4]))
    (hrow : w9.ownsRow (R + 1) 97 6 (.slice (some ⟨g, 0, none⟩) (n + 1) cap) (n + 1) ((hs ++ [h]).flatMap HRec.cells)) :
    KeepP R s k c c0 L hs h n g cap t w ((((((w9.setCell ⟨g, n * 6 + 4, none⟩ (.slice (some ⟨gg, 0, none⟩) (h.fr.kids.length + 1) cap')).setCell ⟨gg, h.fr.kids.length * 5, none⟩ L.a0).setCell ⟨gg, h.fr.kids.length * 5 + 1, none⟩ L.a1).setCell ⟨gg, h.fr.kids.length * 5 + 2, none⟩ L.a2).setCell ⟨gg, h.fr.kids.length * 5 + 3, none⟩ L.a3).setCell ⟨gg, h.fr.kids.length * 5 + 4, none⟩ L.a4) := by
  rw [← he] at hgrow hat
  refine keep_fin R s k c c0 L w own hs h n g cap t hR hS hn hL hk (w9 := w9) (gg := gg) (cap' := cap') (o := o) ⟨hgrow.os, hgrow.tape, hgrow.output, hgrow.size, hgrow.block⟩ hat (by simp only [setc_os]) (by simp only [setc_tape]) (by simp only [setc_out]) (by simp only [setc_size]) (fun b h1 h2 => by rw [setc_other h1, setc_other h1, setc_other h1, setc_other h1, setc_other h1, setc_other h2]) ?_ ?_
  · exact row_set5 (row_far hown hne _) hx _ _ _ _ _
  · refine row_far (row_far (row_far (row_far (row_far (row_top (h := h) hrow hn ?_ (by omega)) hne.symm _) hne.symm _) hne.symm _) hne.symm _) hne.symm _
    simp [HRec.cells, HRec.pushed, push_kind]

theorem keep_row9 {w wq w9 : World} {N m n g cap : Nat} {e : TypeId} {xs : List Value} {o : Obj} {r : Option Nat} (row : w.ownsRow N e m (.slice (some ⟨g, 0, none⟩) n cap) n xs) (hh : wq.heap = w.heap) (hgrow : (wq.alloc o).grownBy w9 r) (hr : some g ≠ r) : w9.ownsRow N e m (.slice (some ⟨g, 0, none⟩) n cap) n xs := by
  refine own_of_block row (fun b hb => ?_)
  obtain rfl : g = b := by injection hb
  have hl := (row.lt g rfl).2
  rw [← hh] at hl ⊢
  exact (hgrow.block g (by simp; omega) hr).trans (Below.heap_alloc _ _ _ hl)
theorem keep_ne {own : Nat → Nat} {g gg n z m q : Nat} {A : Option Addr} {cv : Value} (hg : own g = 1) (hgl : g < z) (hT : ∀ b, cv.ownBlock = some b → own b = 3 * n + 3) (he : cv = .slice A m q) (hat : (Value.slice A m q).ownBlock = some gg ∨ gg = z + 1) : gg ≠ g := by
  intro e
  subst e
  rcases hat with h | h
  · rw [← he] at h
    have := hT gg h
    omega
  · omega
theorem keep_ne2 {own : Nat → Nat} {g n m q : Nat} {A : Option Addr} {cv : Value} (hg : own g = 1) (hT : ∀ b, cv.ownBlock = some b → own b = 3 * n + 3) (he : cv = .slice A m q) (e : (Value.slice A m q).ownBlock = some g) : False := by
  rw [← he] at e
  have := hT g e
  omega

set_option maxRecDepth 100000 in
set_option maxHeartbeats 4000000 in
theorem keep_some (t : NT) (hR : RdP w R s k c (.slice (some ⟨g, 0, none⟩) (n + 1) cap) L) (hS : Stk w (R + 1) own (.slice (some ⟨g, 0, none⟩) (n + 1) cap) (hs ++ [h]) c0) (hn : hs.length = n) (hL : NIs (fun b => R + 1 ≤ b ∧ own b = 0) (32 - n) w t L.v) (hk : h.fr.kids.length < c0) (hc0 : c0 ≤ 20000) :
    Calls Tryz.prog 34 #[.pointer (some ⟨R, 0, none⟩)] w fun x w' => x = .returned (.int .i64 h.fr.kind) ∧ KeepP R s k c c0 L hs h n g cap t w w' := by
  have hrow := hS.row
  rw [List.length_append, List.length_singleton, hn] at hrow
  have hnl : n < 32 := by have := hS.deep; simp at this; omega
  have hgR : R + 1 ≤ g := (hrow.lt g rfl).1
  obtain ⟨i0, hi, hz0, hz1, hz2⟩ := info_parts nodeInfo
  have hkl := fun b e => hS.low.2.1.kids.lt b e
  have hkT := hS.low.2.1.kidsT
  have hgT : own g = 1 := hS.rowT g rfl
  have hgl := hrow.lt g rfl
  have ownk := hS.low.2.1.kids
  have hxl := ownk.1
  obtain ⟨A2, q2, e2⟩ := own_form ownk
  obtain ⟨kk, nn, tt, A3, l3, m3, A4, l4, m4, hLv⟩ := hL.nd
  obtain ⟨a0, a1, a2, a3, a4⟩ := L
  simp only [LV.v, Value.agg.injEq, Array.mk.injEq, List.cons.injEq, and_true] at hLv
  obtain ⟨rfl, rfl, rfl, rfl, rfl⟩ := hLv
  have c3 := hR.c3
  have r4 := hR.c4
  have r5 := hR.c5
  have r6 := hR.c6
  have r7 := hR.c7
  have r8 := hR.c8
  have p4 : ∀ d o, ((w.drewN d).alloc o).cell? ⟨R, 4, none⟩ = _ := fun d o => (hR.alloc o).c4
  have p5 : ∀ d o, ((w.drewN d).alloc o).cell? ⟨R, 5, none⟩ = _ := fun d o => (hR.alloc o).c5
  have p6 : ∀ d o, ((w.drewN d).alloc o).cell? ⟨R, 6, none⟩ = _ := fun d o => (hR.alloc o).c6
  have p7 : ∀ d o, ((w.drewN d).alloc o).cell? ⟨R, 7, none⟩ = _ := fun d o => (hR.alloc o).c7
  have p8 : ∀ d o, ((w.drewN d).alloc o).cell? ⟨R, 8, none⟩ = _ := fun d o => (hR.alloc o).c8
  have t0 : w.cell? ⟨g, n * 6, none⟩ = some (.int .i64 h.fr.kind) := top_cell hn hrow 0 (by omega)
  have t4 : w.cell? ⟨g, n * 6 + 4, none⟩ = some h.cv := top_cell hn hrow 4 (by omega)
  have u4 : ∀ d o, ((w.drewN d).alloc o).cell? ⟨g, n * 6 + 4, none⟩ = some h.cv := fun d o => top_cell hn (hrow.alloc o) 4 (by omega)
  rw [e2] at t4 u4
  have hl1 : (h.fr.kids.length : Int) < (h.fr.kids.length : Int) + 1 := by omega
  have q1 : (((n + 1 : Nat) : Int) == 0) = false := by simp; omega
  have hw1 : IntKind.i64.wrap (((n + 1 : Nat) : Int) - 1) = n := by rw [IntKind.wrap_i64]; omega
  have hc : ((n + 1 : Nat) : Int) = (n : Int) + 1 := by omega
  rw [hc] at q1 hw1
  have HS := Lib.hid hS
  have HR := Lib.hid hR
  have HL := Lib.hid hL
  have HN := Lib.hid hn
  have HX := Lib.hid hxl
  have HE := Lib.hid e2
  have HO := Lib.hid ownk
  rw [hn] at hkT
  have HT := Lib.hid hkT
  have HG := Lib.hid hgT
  have HK := Lib.hid hkl
  have HW := Lib.hid hrow
  clear hS hrow hn hR hL hc hxl e2 ownk hkT hgT hkl
  go_enter Tryz.func34, Tryz.ntmps34
  go_wp2
  go_quiet (fail)
  go_upto_region 4 with fail
  go_cut [3] (fun v wx => v = .pointer (some ⟨g, n * 6, none⟩) ∧ Hid (KeepP R s k c c0 ⟨.int .i64 kk, .int .i64 nn, .string ⟨tt.toArray⟩, .slice A3 l3 m3, .slice A4 l4 m4⟩ hs h n g cap t w wx) ∧ wx.cell? ⟨g, n * 6, none⟩ = some (.int .i64 h.fr.kind))
  case first =>
    go_region_law (first
      | (refine step_append_lies _ (by rfl) (.tmp 25) (.tmp 31) 24 (by rfl) (R + 1) 26 i0 _ 5 80 Tryz.underlying24 hi hz0 hz1 hz2 (by rfl) (by decide) (.slice A2 h.fr.kids.length q2) h.fr.kids.length h.xs (by rfl) ((HE.out ▸ HO.out : w.ownsRow (R + 1) 26 5 (.slice A2 h.fr.kids.length q2) h.fr.kids.length h.xs).alloc _) ⟨w.heap.size, 0, none⟩ 1 1 [.int .i64 0, .int .i64 0, .string ⟨#[]⟩, .slice none 0 0, .slice none 0 0] (by rfl) rfl (World.news_of_block (heap_alloc_new w _)) (news_one _ _ _ _ _ _ _ _ _) (by decide) (by unfold maxLen; omega) (by omega) (by simp; omega) (w.heap.size + 1) (by simp) ?_; intro gg cap9 w9 hown9 hgrow9 hat9 hlt9; have hne : gg ≠ g := keep_ne HG.out hgl.2 HT.out HE.out hat9; have hne2 : g ≠ gg := fun e => hne e.symm; obtain ⟨y0, y1, y2, y3, y4⟩ := last_cells hown9 HX.out; have yf := hown9.frozenAt; have row9 := Lib.hid (keep_row9 HW.out (by rfl) hgrow9 (fun e => keep_ne2 HG.out HT.out HE.out e.symm)); have k9 : w9.cell? ⟨g, n * 6 + 4, none⟩ = some h.cv := top_cell HN.out row9.out 4 (by omega); have kf := row9.out.frozenAt; have k0 : w9.cell? ⟨g, n * 6, none⟩ = some (.int .i64 h.fr.kind) := top_cell HN.out row9.out 0 (by omega)))
    all_goals
      go_wp2_with fail
      go_meet
      refine keepP_pack ?_ HN.out
      first
        | (with_reducible exact keep_a R s k c c0 _ w own hs h n g cap t HR.out HS.out HN.out HL.out hk HE.out hgrow9 hat9 hne HX.out hown9 row9.out)
        | (with_reducible exact keep_b R s k c c0 _ w own hs h n g cap t HR.out HS.out HN.out HL.out hk HE.out hgrow9 hat9 hne HX.out hown9 row9.out)
  case rest =>
    obtain ⟨rfl, HP, hcell⟩ := hcut
    go_wp2
    go_ret
    exact ⟨rfl, HP.out⟩
end

end Go.Proofs.YtlaagdpanbineaaGreatDoor

