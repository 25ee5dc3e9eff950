/- The program's reader of JSON: enter, leave. -/
import Derived.Test.YtnlpdpbmmpeiaaaDoorGw
import Derived.Test.YtnlpdpbmmpeiaaaDoorGc
import Derived.Maps.OwnSet
import Derived.Deep.RegionLaw
namespace Go.Proofs.YtnlpdpbmmpeiaaaDoor
open Go.RowKit Go.Maps
open I2 (errVal)

theorem holderInfo : (Tryd.prog.info? 64).map (fun i => (i.zero, i.size, i.bytes)) = some (some (.agg #[.int .i64 0, .int .i64 0, .string ⟨#[]⟩, .slice none 0 0, .slice none 0 0, .map none]), 6, 88) := by kernel_rfl

theorem Stk.form {w : World} {N c : Nat} {own : Nat → Nat} {hv : Value} {hs : List HRec} (h : Stk w N own hv hs c) : ∃ A cap, hv = .slice A hs.length cap := by
  rcases h.row.2 with ⟨rfl, h0⟩ | ⟨g, cap, cur, rfl, _⟩
  · exact ⟨none, 0, by rw [h0]⟩
  · exact ⟨_, _, rfl⟩

theorem below_of_gb {w w' : World} {R : Nat} {r : Option Nat} (hg : w.grownBy w' r) (hR : R ≤ w.heap.size) (hr : ∀ g, r = some g → R ≤ g) : Below R w w' :=
  ⟨hg.os, hg.tape, hg.output, hg.size, fun k hk => hg.block k (by omega) (fun e => by have := hr k e.symm; omega)⟩
theorem below_lower {B B' : Nat} {w w' : World} (h : Below B w w') (hB : B' ≤ B) : Below B' w w' := ⟨h.os, h.tape, h.output, h.size, fun k hk => h.block k (by omega)⟩

section
variable (R B : Nat) (s : ByteArray) (k c c0 : Nat) (hv : Value) (L : LV) (w : World) (A : Nat → Addr) (own : Nat → Nat) (hs : List HRec)

set_option maxRecDepth 100000 in
set_option maxHeartbeats 1000000 in
theorem enter_deep (kd : Int) (h : RdP w R s k c hv L) (hS : Stk w (R + 1) own hv hs c0) (hC : CondB B w A) (hBR : B ≤ R) (hn : hs.length = 32) :
    Calls Tryd.prog 23 #[.pointer (some ⟨R, 0, none⟩), .int .i64 kd] w fun x w' => x = .returned (errVal A (some 1)) ∧ w' = w := by
  obtain ⟨S, cap, rfl⟩ := hS.form
  have c3 := h.c3
  have ce : w.cell? ⟨2, 0, none⟩ = _ := hC.err 1 (by omega)
  have q : ((hs.length : Int) == 32) = true := by rw [hn]; rfl
  clear hC hS h hn
  go_enter Tryd.func23, Tryd.ntmps23
  go_wp2
  go_ret
  exact ⟨rfl, rfl⟩


/-- what enter leaves -/
def EnterP (fr : Fr) (w : World) (w' : World) : Prop := ∃ hv' own' M, RdP w' R s k c hv' L ∧ Stk w' (R + 1) own' hv' (hs ++ [⟨fr, .slice none 0 0, .slice none 0 0, [], M⟩]) c0 ∧ Below R w w'

theorem news_one6 (k : Int) (M : Nat) : ∀ u ∈ [Value.int .i64 k, .int .i64 0, .string ⟨#[]⟩, .slice none 0 0, .slice none 0 0, .map (some M)], u.oneCell' = true := by
  intro u hu
  simp only [List.mem_cons, List.not_mem_nil, or_false] at hu
  rcases hu with rfl | rfl | rfl | rfl | rfl | rfl <;> rfl

theorem enter_fin (fr : Fr) (kd : Int) (hkd : fr.kind = kd) (hf : fresh fr) (h : RdP w R s k c hv L) (hS : Stk w (R + 1) own hv hs c0) (hn : hs.length < 32) {w9 : World} {gg cap : Nat} {o : Obj}
    (hgrow : ((w.alloc (.map #[] 0)).alloc o).grownBy w9 hv.ownBlock) (hat : hv.ownBlock = some gg ∨ gg = w.heap.size + 2) (hlt : gg < w9.heap.size)
    (hown : w9.ownsRow (R + 1) 64 6 (.slice (some ⟨gg, 0, none⟩) (hs.length + 1) cap) (hs.length + 1) (hs.flatMap HRec.cells ++ [.int .i64 kd, .int .i64 0, .string ⟨#[]⟩, .slice none 0 0, .slice none 0 0, .map (some w.heap.size)])) :
    EnterP R s k c c0 L hs fr w (w9.setCell ⟨R, 3, none⟩ (.slice (some ⟨gg, 0, none⟩) (hs.length + 1) cap)) := by
  subst hkd
  have hRl := h.lt
  have hb := fun g e => hS.row.lt g e
  have hz := hgrow.size
  have ha : ((w.alloc (.map #[] 0)).alloc o).heap.size = w.heap.size + 2 := by simp
  have hRo : some R ≠ hv.ownBlock := fun e => by have := (hb R e.symm).1; omega
  have hR9 := ((h.alloc (.map #[] 0)).alloc o).grown hgrow hRo
  have hset : w9.grownBy (w9.setCell ⟨R, 3, none⟩ (.slice (some ⟨gg, 0, none⟩) (hs.length + 1) cap)) (some R) := gb_set (gb_refl _ _) _
  have hgR : R + 1 ≤ gg := by
    rcases hat with e | e
    · exact (hb gg e).1
    · omega
  have hblk : ∀ b, b < w.heap.size → b ≠ R → some b ≠ hv.ownBlock → (w9.setCell ⟨R, 3, none⟩ (.slice (some ⟨gg, 0, none⟩) (hs.length + 1) cap)).heap[b]? = w.heap[b]? := fun b h1 h2 h3 =>
    (hset.block b (by omega) (by simp; omega)).trans ((hgrow.block b (by omega) h3).trans ((Below.heap_alloc _ _ _ (by simp; omega)).trans (Below.heap_alloc _ _ _ h1)))
  have hm : (w9.setCell ⟨R, 3, none⟩ (.slice (some ⟨gg, 0, none⟩) (hs.length + 1) cap)).ownsMap Tryd.prog 9 (plainElem (H := Unit) Tryd.prog 3) w.heap.size 0 (.map []) := by
    refine map_of_block ((World.ownsMap_made w _ _ _).alloc o) ?_
    exact (hset.block _ (by omega) (by simp; omega)).trans (hgrow.block _ (by omega) (fun e => by have := (hb _ e.symm).2; omega))
  obtain ⟨own', hS'⟩ := enter_stk (w' := w9.setCell ⟨R, 3, none⟩ (.slice (some ⟨gg, 0, none⟩) (hs.length + 1) cap)) (hv' := .slice (some ⟨gg, 0, none⟩) (hs.length + 1) cap) hS hf hn rfl hRl (by have := hset.size; omega) hm (own_gb hown hset (by omega))
    (fun g e => by
      obtain rfl : gg = g := by injection e
      rcases hat with e | e
      · exact .inl e
      · exact .inr (by omega))
    (fun b h1 h2 h3 => hblk b h1 (by omega) h3)
  refine ⟨_, own', _, hR9.set3 _, hS', ⟨hset.os.trans hgrow.os, hset.tape.trans hgrow.tape, hset.output.trans hgrow.output, by have := hset.size; omega, fun b hb1 => hblk b (by omega) (by omega) (fun e => by have := (hb b e.symm).1; omega)⟩⟩

set_option maxRecDepth 100000 in
set_option maxHeartbeats 2000000 in
theorem enter_ok (fr : Fr) (kd : Int) (hkd : fr.kind = kd) (hf : fresh fr) (h : RdP w R s k c hv L) (hS : Stk w (R + 1) own hv hs c0) (hn : hs.length < 32) :
    Calls Tryd.prog 23 #[.pointer (some ⟨R, 0, none⟩), .int .i64 kd] w fun x w' => x = .returned .nilIface ∧ EnterP R s k c c0 L hs fr w w' := by
  have HS := Lib.hid hS
  have HR := Lib.hid h
  have hRl := h.lt
  obtain ⟨i0, hi, hz0, hz1, hz2⟩ := info_parts holderInfo
  have hrow := hS.row
  have hown := fun g e => hS.row.lt g e
  have hrb : ∀ g, hv.ownBlock = some g → R + 1 ≤ g ∧ g < w.heap.size := hown
  have HB := Lib.hid hrb
  obtain ⟨S, cap0, hhv⟩ := hS.form
  have own1 := Lib.hid ((hrow.alloc (.map #[] 0)).alloc (.cells #[.int .i64 kd, .int .i64 0, .string ⟨#[]⟩, .slice none 0 0, .slice none 0 0, .map (some w.heap.size)] 64))
  have c3 := h.c3
  have k3 : ∀ o o2, ((w.alloc o).alloc o2).cell? ⟨R, 3, none⟩ = some hv := fun o o2 => ((h.alloc o).alloc o2).c3
  rw [hhv] at c3 k3
  have q : ((hs.length : Int) == 32) = false := by simp; omega
  have hmm := @run_makeMap Tryd.prog
  have HV := Lib.hid hhv
  clear hS h hrow hown hrb hhv
  go_enter Tryd.func23, Tryd.ntmps23
  go_wp2_with (refine wpList_append_lies _ (by rfl) (.tmp 16) (.tmp 21) 43 (by rfl) (R + 1) 64 i0 _ 6 88 Tryd.underlying43 hi hz0 hz1 hz2 (by rfl) (by decide) (.slice S hs.length cap0) hs.length (hs.flatMap HRec.cells) (by rfl) (HV.out ▸ own1.out) ⟨w.heap.size + 1, 0, none⟩ 1 1 [.int .i64 kd, .int .i64 0, .string ⟨#[]⟩, .slice none 0 0, .slice none 0 0, .map (some w.heap.size)] (by rfl) rfl (World.news_of_block (heap_alloc_new2 w _ _)) (news_one6 _ _) (by decide) (by unfold maxLen; omega) (by omega) (by simp; omega) (w.heap.size + 2) (by simp) ?_; intro gg cap w9 hown9 hgrow9 hat9 hlt9; have hR9 := ((HR.out.alloc _).alloc _).grown hgrow9 (fun e => by have := (HB.out R (by rw [HV.out]; exact e.symm)).1; omega); have k9 := hR9.c3; have f9 := hR9.fz 3)
  go_ret
  refine ⟨rfl, ?_⟩
  rw [← HV.out] at hgrow9 hat9
  exact enter_fin R s k c c0 hv L w own hs fr kd hkd hf HR.out HS.out hn hgrow9 hat9 hlt9 hown9

end

end Go.Proofs.YtnlpdpbmmpeiaaaDoor
