/- The program's reader of JSON: what stays of the conditions; begin, end. -/
import Derived.Test.YtlaagdpanbineaaDoorGa
import Derived.Test.YtlaagdpanbineaaDoorQc
import Derived.Test.YtlaagdpanbineaaDoorNc
import Derived.Maps.OwnSet
import Derived.Deep.RegionLaw
namespace Go.Proofs.YtlaagdpanbineaaDoor
open Go.RowKit
open I2 (errVal)

/-- the conditions, all of whose blocks lie below B -/
def CondB (B : Nat) (w : World) (A : Nat → Addr) : Prop := ∃ w0, Cond w0 A ∧ w0.heap.size ≤ B ∧ w0.heap.size ≤ w.heap.size ∧ Below w0.heap.size w0 w
theorem CondB.cond {B : Nat} {w : World} {A : Nat → Addr} (h : CondB B w A) : Cond w A := by obtain ⟨w0, h1, _, _, h2⟩ := h; exact h1.below h2
theorem CondB.of {w : World} {A : Nat → Addr} (h : Cond w A) : CondB w.heap.size w A := ⟨w, h, Nat.le_refl _, Nat.le_refl _, Below.refl _ _⟩
theorem CondB.mono {B B' : Nat} {w : World} {A : Nat → Addr} (h : CondB B w A) (hB : B ≤ B') : CondB B' w A := by obtain ⟨w0, h1, h2, h3, h4⟩ := h; exact ⟨w0, h1, by omega, h3, h4⟩
theorem CondB.grown {B : Nat} {w w' : World} {A : Nat → Addr} {r : Option Nat} (h : CondB B w A) (hg : w.grownBy w' r) (hr : ∀ g, r = some g → B ≤ g) : CondB B w' A := by
  obtain ⟨w0, h1, h2, h3, h4⟩ := h
  have := hg.size
  refine ⟨w0, h1, h2, by omega, ⟨hg.os.trans h4.os, hg.tape.trans h4.tape, hg.output.trans h4.output, Nat.le_trans h4.size hg.size, fun k hk => (hg.block k (by omega) ?_).trans (h4.block k hk)⟩⟩
  intro e
  have := hr k e.symm
  omega
theorem CondB.row {B R : Nat} {w w' : World} {A : Nat → Addr} (h : CondB B w A) (hg : w.grownBy w' (some R)) (hr : B ≤ R) : CondB B w' A := h.grown hg (fun g e => by injection e with e; omega)
theorem CondB.below {B : Nat} {w w' : World} {A : Nat → Addr} (h : CondB B w A) (hb : Below w.heap.size w w') : CondB B w' A :=
  h.grown (r := none) ⟨hb.os, hb.tape, hb.output, hb.size, fun k hk _ => hb.block k hk⟩ (fun g e => by cases e)
theorem CondB.err {B : Nat} {w : World} {A : Nat → Addr} (h : CondB B w A) (k : Nat) (hk : k < 6) : w.cell? ⟨eGl k, 0, none⟩ = some (.iface 164 (.pointer (some (A k)))) := h.cond.n.errs.cell k hk

section
variable (R B : Nat) (s : ByteArray) (k c : Nat) (hv : Value) (L : LV) (w : World) (A : Nat → Addr)

set_option maxRecDepth 100000 in
set_option maxHeartbeats 1000000 in
theorem begin_end (h : RdP w R s k c hv L) (hC : CondB B w A) (hBR : B ≤ R) (hs : s.size ≤ 200000) (hk : k ≤ s.size) (hy : skipB (s.data.toList.drop k) = []) :
    Calls Tryd.prog 32 #[.pointer (some ⟨R, 0, none⟩)] w fun x w' => x = .returned (errVal A (some 0)) ∧ w.grownBy w' (some R) := by
  have hB := blanks_hd R s k c hv L w h hs hk
  have HY := Lib.hid hy
  have HC := Lib.hid hC
  clear h hy hC
  go_enter Tryd.func32, Tryd.ntmps32
  go_wp2_with fail
  refine hB.mono ?_
  rintro x w1 ⟨rfl, k1, HR, hk1, HD, HG⟩
  clear hB
  have hz := drop_eq_nil hk1 (HD.out.trans HY.out)
  have c0 := HR.out.c0
  have c1 := HR.out.c1
  have ce : w1.cell? ⟨1, 0, none⟩ = _ := (HC.out.row HG.out hBR).err 0 (by omega)
  have q1 : ((k1 : Int) == (s.size : Int)) = true := by simp; omega
  clear hz
  go_wp2
  go_quiet (fail)
  go_wp2
  go_ret
  exact ⟨rfl, gb_same HG.out⟩

set_option maxRecDepth 100000 in
set_option maxHeartbeats 1000000 in
theorem begin_many (h : RdP w R s k c hv L) (hC : CondB B w A) (hBR : B ≤ R) (hs : s.size ≤ 200000) (hk : k ≤ s.size) {y : UInt8} {u : List UInt8} (hy : skipB (s.data.toList.drop k) = y :: u) (hc : c = 20000) :
    Calls Tryd.prog 32 #[.pointer (some ⟨R, 0, none⟩)] w fun x w' => x = .returned (errVal A (some 2)) ∧ w.grownBy w' (some R) := by
  have hB := blanks_hd R s k c hv L w h hs hk
  have HY := Lib.hid hy
  have HC := Lib.hid hC
  have q2 : ((c : Int) == 20000) = true := by rw [hc]; rfl
  clear h hy hC hc
  go_enter Tryd.func32, Tryd.ntmps32
  go_wp2_with fail
  refine hB.mono ?_
  rintro x w1 ⟨rfl, k1, HR, hk1, HD, HG⟩
  clear hB
  have hlt := (drop_cons (HD.out.trans HY.out)).1
  have c0 := HR.out.c0
  have c1 := HR.out.c1
  have c2 := HR.out.c2
  have ce : w1.cell? ⟨0, 0, none⟩ = _ := (HC.out.row HG.out hBR).err 2 (by omega)
  have q1 : ((k1 : Int) == (s.size : Int)) = false := by simp; omega
  go_wp2
  go_quiet (fail)
  go_wp2
  go_ret
  exact ⟨rfl, gb_same HG.out⟩

set_option maxRecDepth 100000 in
set_option maxHeartbeats 1000000 in
theorem begin_ok (h : RdP w R s k c hv L) (hs : s.size ≤ 200000) (hk : k ≤ s.size) {y : UInt8} {u : List UInt8} (hy : skipB (s.data.toList.drop k) = y :: u) (hc : c < 20000) :
    Calls Tryd.prog 32 #[.pointer (some ⟨R, 0, none⟩)] w fun x w' => x = .returned .nilIface ∧ ∃ k', RdP w' R s k' (c + 1) hv L ∧ k' < s.size ∧ s.data.toList.drop k' = skipB (s.data.toList.drop k) ∧ w.grownBy w' (some R) := by
  have hB := blanks_hd R s k c hv L w h hs hk
  have HY := Lib.hid hy
  have q2 : ((c : Int) == 20000) = false := by simp; omega
  clear h hy
  go_enter Tryd.func32, Tryd.ntmps32
  go_wp2_with fail
  refine hB.mono ?_
  rintro x w1 ⟨rfl, k1, HR, hk1, HD, HG⟩
  clear hB
  have hlt := (drop_cons (HD.out.trans HY.out)).1
  have c0 := HR.out.c0
  have c1 := HR.out.c1
  have c2 := HR.out.c2
  have f2 := HR.out.fz 2
  have q1 : ((k1 : Int) == (s.size : Int)) = false := by simp; omega
  have hs2 := HR.out.set2 (c + 1)
  have hc2 : ((c + 1 : Nat) : Int) = (c : Int) + 1 := by omega
  rw [hc2] at hs2
  have HS2 := Lib.hid hs2
  clear hs2 hc2
  go_wp2
  go_quiet (fail)
  go_wp2
  go_ret
  exact ⟨rfl, k1, HS2.out, hlt, HD.out, gb_set (gb_same HG.out) _⟩

set_option maxRecDepth 100000 in
set_option maxHeartbeats 1000000 in
theorem end_yes (h : RdP w R s k c hv L) (hs : s.size ≤ 200000) (hk : k ≤ s.size) (hy : skipB (s.data.toList.drop k) = []) :
    Calls Tryd.prog 39 #[.pointer (some ⟨R, 0, none⟩)] w fun x w' => x = .returned .nilIface ∧ ∃ k', RdP w' R s k' c hv L ∧ w.grownBy w' (some R) := by
  have hB := blanks_hd R s k c hv L w h hs hk
  have HY := Lib.hid hy
  clear h hy
  go_enter Tryd.func39, Tryd.ntmps39
  go_wp2_with fail
  refine hB.mono ?_
  rintro x w1 ⟨rfl, k1, HR, hk1, HD, HG⟩
  clear hB
  have hz := drop_eq_nil hk1 (HD.out.trans HY.out)
  have c0 := HR.out.c0
  have c1 := HR.out.c1
  have q1 : decide ((k1 : Int) < (s.size : Int)) = false := by simp; omega
  have q2 : decide (k1 < s.size) = false := by simp; omega
  clear hz
  go_wp2
  go_quiet (fail)
  go_wp2
  go_ret
  exact ⟨rfl, k1, HR.out, gb_same HG.out⟩

set_option maxRecDepth 100000 in
set_option maxHeartbeats 1000000 in
theorem end_no (h : RdP w R s k c hv L) (hC : CondB B w A) (hBR : B ≤ R) (hs : s.size ≤ 200000) (hk : k ≤ s.size) {y : UInt8} {u : List UInt8} (hy : skipB (s.data.toList.drop k) = y :: u) :
    Calls Tryd.prog 39 #[.pointer (some ⟨R, 0, none⟩)] w fun x w' => x = .returned (errVal A (some 0)) ∧ w.grownBy w' (some R) := by
  have hB := blanks_hd R s k c hv L w h hs hk
  have HY := Lib.hid hy
  have HC := Lib.hid hC
  clear h hy hC
  go_enter Tryd.func39, Tryd.ntmps39
  go_wp2_with fail
  refine hB.mono ?_
  rintro x w1 ⟨rfl, k1, HR, hk1, HD, HG⟩
  clear hB
  have hlt := (drop_cons (HD.out.trans HY.out)).1
  have c0 := HR.out.c0
  have c1 := HR.out.c1
  have ce : w1.cell? ⟨1, 0, none⟩ = _ := (HC.out.row HG.out hBR).err 0 (by omega)
  go_wp2
  go_quiet (fail)
  go_wp2
  go_ret
  exact ⟨rfl, gb_same HG.out⟩
end

end Go.Proofs.YtlaagdpanbineaaDoor

/- The program's reader of JSON: enter, leave. -/
namespace Go.Proofs.YtlaagdpanbineaaDoor
open Go.RowKit Go.Maps
open I2 (errVal)

theorem holderInfo : (Tryd.prog.info? 97).map (fun i => (i.zero, i.size, i.bytes)) = some (some (.agg #[.int .i64 0, .int .i64 0, .string ⟨#[]⟩, .slice none 0 0, .slice none 0 0, .map none]), 6, 88) := by kernel_rfl

theorem Stk.form {w : World} {N c : Nat} {own : Nat → Nat} {hv : Value} {hs : List HRec} (h : Stk w N own hv hs c) : ∃ A cap, hv = .slice A hs.length cap := by
  rcases h.row.2 with ⟨rfl, h0⟩ | ⟨g, cap, cur, rfl, _⟩
  · exact ⟨none, 0, by rw [h0]⟩
  · exact ⟨_, _, rfl⟩

theorem below_of_gb {w w' : World} {R : Nat} {r : Option Nat} (hg : w.grownBy w' r) (hR : R ≤ w.heap.size) (hr : ∀ g, r = some g → R ≤ g) : Below R w w' :=
  ⟨hg.os, hg.tape, hg.output, hg.size, fun k hk => hg.block k (by omega) (fun e => by have := hr k e.symm; omega)⟩
theorem below_lower {B B' : Nat} {w w' : World} (h : Below B w w') (hB : B' ≤ B) : Below B' w w' := ⟨h.os, h.tape, h.output, h.size, fun k hk => h.block k (by omega)⟩

section
variable (R B : Nat) (s : ByteArray) (k c c0 : Nat) (hv : Value) (L : LV) (w : World) (A : Nat → Addr) (own : Nat → Nat) (hs : List HRec)

set_option maxRecDepth 100000 in
set_option maxHeartbeats 1000000 in
theorem enter_deep (kd : Int) (h : RdP w R s k c hv L) (hS : Stk w (R + 1) own hv hs c0) (hC : CondB B w A) (_hBR : B ≤ R) (hn : hs.length = 32) :
    Calls Tryd.prog 35 #[.pointer (some ⟨R, 0, none⟩), .int .i64 kd] w fun x w' => x = .returned (errVal A (some 1)) ∧ w' = w := by
  obtain ⟨S, cap, rfl⟩ := hS.form
  have c3 := h.c3
  have ce : w.cell? ⟨2, 0, none⟩ = _ := hC.err 1 (by omega)
  have q : ((hs.length : Int) == 32) = true := by rw [hn]; rfl
  clear hC hS h hn
  go_enter Tryd.func35, Tryd.ntmps35
  go_wp2
  go_ret
  exact ⟨rfl, rfl⟩


/-- what enter leaves -/
def EnterP (fr : Fr) (w : World) (w' : World) : Prop := ∃ hv' own' M, RdP w' R s k c hv' L ∧ Stk w' (R + 1) own' hv' (hs ++ [⟨fr, .slice none 0 0, .slice none 0 0, [], M⟩]) c0 ∧ Below R w w'

theorem news_one6 (k : Int) (M : Nat) : ∀ u ∈ [Value.int .i64 k, .int .i64 0, .string ⟨#[]⟩, .slice none 0 0, .slice none 0 0, .map (some M)], u.oneCell' = true := by
  intro u hu
  simp only [List.mem_cons, List.not_mem_nil, or_false] at hu
  rcases hu with rfl | rfl | rfl | rfl | rfl | rfl <;> rfl

theorem enter_fin (fr : Fr) (kd : Int) (hkd : fr.kind = kd) (hf : fresh fr) (h : RdP w R s k c hv L) (hS : Stk w (R + 1) own hv hs c0) (hn : hs.length < 32) {w9 : World} {gg cap : Nat} {o : Obj}
    (hgrow : ((w.alloc (.map #[] 0)).alloc o).grownBy w9 hv.ownBlock) (hat : hv.ownBlock = some gg ∨ gg = w.heap.size + 2) (_hlt : gg < w9.heap.size)
    (hown : w9.ownsRow (R + 1) 97 6 (.slice (some ⟨gg, 0, none⟩) (hs.length + 1) cap) (hs.length + 1) (hs.flatMap HRec.cells ++ [.int .i64 kd, .int .i64 0, .string ⟨#[]⟩, .slice none 0 0, .slice none 0 0, .map (some w.heap.size)])) :
    EnterP R s k c c0 L hs fr w (w9.setCell ⟨R, 3, none⟩ (.slice (some ⟨gg, 0, none⟩) (hs.length + 1) cap)) := by
  subst hkd
  have hRl := h.lt
  have hb := fun g e => hS.row.lt g e
  have hz := hgrow.size
  have ha : ((w.alloc (.map #[] 0)).alloc o).heap.size = w.heap.size + 2 := by simp
  have hRo : some R ≠ hv.ownBlock := fun e => by have := (hb R e.symm).1; omega
  have hR9 := ((h.alloc (.map #[] 0)).alloc o).grown hgrow hRo
  have hset : w9.grownBy (w9.setCell ⟨R, 3, none⟩ (.slice (some ⟨gg, 0, none⟩) (hs.length + 1) cap)) (some R) := gb_set (gb_refl _ _) _
  have hgR : R + 1 ≤ gg := by
    rcases hat with e | e
    · exact (hb gg e).1
    · omega
  have hblk : ∀ b, b < w.heap.size → b ≠ R → some b ≠ hv.ownBlock → (w9.setCell ⟨R, 3, none⟩ (.slice (some ⟨gg, 0, none⟩) (hs.length + 1) cap)).heap[b]? = w.heap[b]? := fun b h1 h2 h3 =>
    (hset.block b (by omega) (by simp; omega)).trans ((hgrow.block b (by omega) h3).trans ((Below.heap_alloc _ _ _ (by simp; omega)).trans (Below.heap_alloc _ _ _ h1)))
  have hm : (w9.setCell ⟨R, 3, none⟩ (.slice (some ⟨gg, 0, none⟩) (hs.length + 1) cap)).ownsMap Tryd.prog 9 (plainElem (H := Unit) Tryd.prog 3) w.heap.size 0 (.map []) := by
    refine map_of_block ((World.ownsMap_made w _ _ _).alloc o) ?_
    exact (hset.block _ (by omega) (by simp; omega)).trans (hgrow.block _ (by omega) (fun e => by have := (hb _ e.symm).2; omega))
  obtain ⟨own', hS'⟩ := enter_stk (w' := w9.setCell ⟨R, 3, none⟩ (.slice (some ⟨gg, 0, none⟩) (hs.length + 1) cap)) (hv' := .slice (some ⟨gg, 0, none⟩) (hs.length + 1) cap) hS hf hn rfl hRl (by have := hset.size; omega) hm (own_gb hown hset (by omega))
    (fun g e => by
      obtain rfl : gg = g := by injection e
      rcases hat with e | e
      · exact .inl e
      · exact .inr (by omega))
    (fun b h1 h2 h3 => hblk b h1 (by omega) h3)
  refine ⟨_, own', _, hR9.set3 _, hS', ⟨hset.os.trans hgrow.os, hset.tape.trans hgrow.tape, hset.output.trans hgrow.output, by have := hset.size; omega, fun b hb1 => hblk b (by omega) (by omega) (fun e => by have := (hb b e.symm).1; omega)⟩⟩

set_option maxRecDepth 100000 in
set_option maxHeartbeats 2000000 in
theorem enter_ok (fr : Fr) (kd : Int) (hkd : fr.kind = kd) (hf : fresh fr) (h : RdP w R s k c hv L) (hS : Stk w (R + 1) own hv hs c0) (hn : hs.length < 32) :
    Calls Tryd.prog 35 #[.pointer (some ⟨R, 0, none⟩), .int .i64 kd] w fun x w' => x = .returned .nilIface ∧ EnterP R s k c c0 L hs fr w w' := by
  have HS := Lib.hid hS
  have HR := Lib.hid h
  have hRl := h.lt
  obtain ⟨i0, hi, hz0, hz1, hz2⟩ := info_parts holderInfo
  have hrow := hS.row
  have hown := fun g e => hS.row.lt g e
  have hrb : ∀ g, hv.ownBlock = some g → R + 1 ≤ g ∧ g < w.heap.size := hown
  have HB := Lib.hid hrb
  obtain ⟨S, cap0, hhv⟩ := hS.form
  have own1 := Lib.hid ((hrow.alloc (.map #[] 0)).alloc (.cells #[.int .i64 kd, .int .i64 0, .string ⟨#[]⟩, .slice none 0 0, .slice none 0 0, .map (some w.heap.size)] 97))
  have c3 := h.c3
  have k3 : ∀ o o2, ((w.alloc o).alloc o2).cell? ⟨R, 3, none⟩ = some hv := fun o o2 => ((h.alloc o).alloc o2).c3
  rw [hhv] at c3 k3
  have q : ((hs.length : Int) == 32) = false := by simp; omega
  have hmm := @run_makeMap Tryd.prog
  have HV := Lib.hid hhv
  clear hS h hrow hown hrb hhv
  go_enter Tryd.func35, Tryd.ntmps35
  go_wp2_with (refine wpList_append_lies _ (by rfl) (.tmp 16) (.tmp 21) 48 (by rfl) (R + 1) 97 i0 _ 6 88 Tryd.underlying48 hi hz0 hz1 hz2 (by rfl) (by decide) (.slice S hs.length cap0) hs.length (hs.flatMap HRec.cells) (by rfl) (HV.out ▸ own1.out) ⟨w.heap.size + 1, 0, none⟩ 1 1 [.int .i64 kd, .int .i64 0, .string ⟨#[]⟩, .slice none 0 0, .slice none 0 0, .map (some w.heap.size)] (by rfl) rfl (World.news_of_block (heap_alloc_new2 w _ _)) (news_one6 _ _) (by decide) (by unfold maxLen; omega) (by omega) (by simp; omega) (w.heap.size + 2) (by simp) ?_; intro gg cap w9 hown9 hgrow9 hat9 hlt9; have hR9 := ((HR.out.alloc _).alloc _).grown hgrow9 (fun e => by have := (HB.out R (by rw [HV.out]; exact e.symm)).1; omega); have k9 := hR9.c3; have f9 := hR9.fz 3)
  go_ret
  refine ⟨rfl, ?_⟩
  rw [← HV.out] at hgrow9 hat9
  exact enter_fin R s k c c0 hv L w own hs fr kd hkd hf HR.out HS.out hn hgrow9 hat9 hlt9 hown9

end

end Go.Proofs.YtlaagdpanbineaaDoor

/- The program's reader of JSON: leave. -/
namespace Go.Proofs.YtlaagdpanbineaaDoor
open Go.RowKit Go.Maps
open I2 (errVal)

/-- the last holder's cells -/
theorem top_cell {w : World} {N n g cap : Nat} {hs : List HRec} {h : HRec} (hn : hs.length = n) (row : w.ownsRow N 97 6 (.slice (some ⟨g, 0, none⟩) (n + 1) cap) (n + 1) ((hs ++ [h]).flatMap HRec.cells)) (j : Nat) (hj : j < 6) : w.cell? ⟨g, n * 6 + j, none⟩ = h.cells[j]? := by
  subst hn
  rw [row.cellAt _ (by omega), cells_snoc, List.getElem?_append_right (by rw [cells_len]; omega), cells_len]
  congr 1
  omega

theorem own_form {w : World} {base : Nat} {e : TypeId} {size : Nat} {v : Value} {n : Nat} {xs : List Value} (h : w.ownsRow base e size v n xs) : ∃ A cap, v = .slice A n cap := by
  rcases h.2 with ⟨rfl, h0⟩ | ⟨g, cap, cur, rfl, _⟩
  · exact ⟨none, 0, by rw [h0]⟩
  · exact ⟨_, _, rfl⟩

theorem own_cap {w : World} {base : Nat} {e : TypeId} {size n cap : Nat} {A : Option Addr} {xs : List Value} (h : w.ownsRow base e size (.slice A n cap) n xs) : n ≤ cap := by
  rcases h.2 with ⟨h1, h0⟩ | ⟨g, cap', cur, h1, _, _, h2, _⟩
  · omega
  · injection h1 with _ _ h1; omega

section
variable (R B : Nat) (s : ByteArray) (k c c0 : Nat) (L : LV) (w : World) (A : Nat → Addr) (own : Nat → Nat) (hs : List HRec) (h : HRec) (n g cap : Nat)

set_option maxRecDepth 100000 in
set_option maxHeartbeats 1000000 in
theorem leave_any (hR : RdP w R s k c (.slice (some ⟨g, 0, none⟩) (n + 1) cap) L) (hS : Stk w (R + 1) own (.slice (some ⟨g, 0, none⟩) (n + 1) cap) (hs ++ [h]) c0) (hn : hs.length = n) :
    Calls Tryd.prog 37 #[.pointer (some ⟨R, 0, none⟩)] w fun x w' => x = .returned (.tuple #[]) ∧ RdP w' R s k c (.slice (some ⟨g, 0, none⟩) n cap) ⟨.int .i64 h.fr.kind, .int .i64 0, .string ⟨#[]⟩, h.kv, h.cv⟩ ∧ w.grownBy w' (some R) := by
  have hrow := hS.row
  rw [List.length_append, List.length_singleton, hn] at hrow
  have hnl : n < 32 := by have := hS.deep; simp at this; omega
  have hgR : R + 1 ≤ g := (hrow.lt g rfl).1
  have c3 := hR.c3
  have t0 : w.cell? ⟨g, n * 6, none⟩ = some (.int .i64 h.fr.kind) := top_cell hn hrow 0 (by omega)
  have t1 : w.cell? ⟨g, n * 6 + 1, none⟩ = some (.int .i64 0) := top_cell hn hrow 1 (by omega)
  have t2 : w.cell? ⟨g, n * 6 + 2, none⟩ = some (.string ⟨#[]⟩) := top_cell hn hrow 2 (by omega)
  have t3 : w.cell? ⟨g, n * 6 + 3, none⟩ = some h.kv := top_cell hn hrow 3 (by omega)
  have t4 : w.cell? ⟨g, n * 6 + 4, none⟩ = some h.cv := top_cell hn hrow 4 (by omega)
  obtain ⟨A1, q1, e1⟩ := own_form hS.low.2.1.keys
  obtain ⟨A2, q2, e2⟩ := own_form hS.low.2.1.kids
  rw [e1] at t3
  rw [e2] at t4
  rw [e1, e2]
  have hcap := own_cap hrow
  have hc0 : ¬ cap = 0 := by omega
  have hc1 : n ≤ cap := by omega
  have f := hR.fz
  have r4 := hR.c4
  have r5 := hR.c5
  have r6 := hR.c6
  have r7 := hR.c7
  have r8 := hR.c8
  clear hS hrow hn
  have HR := Lib.hid hR
  clear hR
  clear e1 e2
  go_enter Tryd.func37, Tryd.ntmps37
  go_wp2
  go_end0
  exact ⟨rfl, (((((HR.out.set4 _).set5 _).set6 _).set7 _).set8 _).set3 _, gb_set (gb_set (gb_set (gb_set (gb_set (gb_set (gb_refl _ _) _) _) _) _) _) _⟩
end

end Go.Proofs.YtlaagdpanbineaaDoor

