/- show: find and Get, at a key that an Object holds. -/
import Derived.Test.YtlaagdpanbineaaDoorOd
namespace Go.Proofs.YtlaagdpanbineaaDoor
open Go.RowKit

theorem idx_nodup {ks : List (List UInt8)} (hn : ks.Nodup) (i : Nat) (hi : i < ks.length) : Lib.idxOfS ((ks.map fun x => (⟨x.toArray⟩ : ByteArray)).take ks.length) ⟨ks[i].toArray⟩ = (i : Int) := by
  rw [List.take_of_length_le (by simp)]
  unfold Lib.idxOfS
  rw [Lib.idxFromS_hit _ _ i 0 (by simpa using hi) (by simp [List.getD, hi])]
  · simp
  · intro j hj e
    have hjl : j < ks.length := by omega
    have e2 : ks[j] = ks[i] := by
      have : (⟨ks[j].toArray⟩ : ByteArray) = ⟨ks[i].toArray⟩ := by simpa [List.getD, hjl] using e
      have := congrArg (fun s : ByteArray => s.data.toList) this
      simpa using this
    have := (List.getElem_inj (h₀ := hjl) (h₁ := hi) hn).1 e2
    omega

/-- what find gives: a pointer at the kid -/
def FindP (ok : Nat → Prop) (h : Nat) (t : NT) (w : World) (e : Ending) (w' : World) : Prop :=
  Below w.heap.size w w' ∧ ∃ (b o : Nat) (kk n2 : Int) (t2 : List UInt8) (S3 : Option Addr) (l3 m3 : Nat) (S4 : Option Addr) (l4 m4 : Nat), e = .returned (.tuple #[.pointer (some ⟨b, o, none⟩), .bool true]) ∧ b < w.heap.size ∧
    w.cell? ⟨b, o, none⟩ = some (.int .i64 kk) ∧ w.cell? ⟨b, o + 1, none⟩ = some (.int .i64 n2) ∧ w.cell? ⟨b, o + 2, none⟩ = some (.string ⟨t2.toArray⟩) ∧ w.cell? ⟨b, o + 3, none⟩ = some (.slice S3 l3 m3) ∧ w.cell? ⟨b, o + 4, none⟩ = some (.slice S4 l4 m4) ∧
    NIs ok h w t (.agg #[.int .i64 kk, .int .i64 n2, .string ⟨t2.toArray⟩, .slice S3 l3 m3, .slice S4 l4 m4])

section
variable (ok : Nat → Prop) (h : Nat) (ks : List (List UInt8)) (kids : List NT) (w : World)

set_option maxRecDepth 100000 in
set_option maxHeartbeats 2000000 in
theorem find_any (v : Value) (hN : NIs ok (h + 1) w (.mk 7 0 [] ks kids) v) (hl : ks.length = kids.length) (hn : ks.Nodup) (hk : ks.length ≤ 1000000) (i : Nat) (hi : i < ks.length) (hi2 : i < kids.length) :
    Calls Tryd.prog 28 #[v, .string ⟨ks[i].toArray⟩] w (FindP ok h kids[i] w) := by
  obtain ⟨kv, S, c1, rfl, ⟨S1, c0, rfl, hst⟩, hkk⟩ := hN
  obtain ⟨b1, o1, rfl, hbl1, hc1⟩ : ∃ b off, S1 = some ⟨b, off, none⟩ ∧ b < w.heap.size ∧ ∀ j, j < ks.length → w.cell? ⟨b, off + j, none⟩ = some (.string ⟨(ks.getD j []).toArray⟩) := by
    rcases hst with e | ⟨b, off, e, _, h1, h2⟩
    · rw [e] at hi; simp at hi
    · exact ⟨b, off, e, h1, h2⟩
  obtain ⟨b, off, rfl, hbl, hc⟩ : ∃ b off, S = some ⟨b, off, none⟩ ∧ b < w.heap.size ∧ ∀ j (hj : j < kids.length), ∃ c0 c1 c2 c3 c4,
      w.cell? ⟨b, off + 5 * j, none⟩ = some c0 ∧ w.cell? ⟨b, off + 5 * j + 1, none⟩ = some c1 ∧ w.cell? ⟨b, off + 5 * j + 2, none⟩ = some c2 ∧ w.cell? ⟨b, off + 5 * j + 3, none⟩ = some c3 ∧ w.cell? ⟨b, off + 5 * j + 4, none⟩ = some c4 ∧
      NIs ok h w kids[j] (.agg #[c0, c1, c2, c3, c4]) := by
    rcases hkk with e | ⟨b, off, e, _, h1, h2⟩
    · rw [e] at hi2; simp at hi2
    · exact ⟨b, off, e, h1, h2⟩
  obtain ⟨x0, x1, x2, x3, x4, e0, e1, e2, e3, e4, hNk⟩ := hc i hi2
  obtain ⟨kk, n2, t2, S3, l3, m3, S4, l4, m4, hv⟩ := hNk.nd
  simp only [Value.agg.injEq, Array.mk.injEq, List.cons.injEq, and_true] at hv
  obtain ⟨rfl, rfl, rfl, rfl, rfl⟩ := hv
  have HF : Hid (∀ w', Below w.heap.size w w' → FindP ok h kids[i] w (.returned (.tuple #[.pointer (some ⟨b, off + i * 5, none⟩), .bool true])) w') := fun w' hb => by
    have e5 : off + i * 5 = off + 5 * i := by omega
    refine ⟨hb, b, off + i * 5, kk, n2, t2, S3, l3, m3, S4, l4, m4, rfl, hbl, ?_, ?_, ?_, ?_, ?_, hNk⟩ <;> rw [e5] <;> assumption
  have hI := fun W (hb : Below w.heap.size w W) => Tryd.slices_Index_string b1 o1 ks.length c0 (ks.map fun x => (⟨x.toArray⟩ : ByteArray)) ⟨ks[i].toArray⟩ W (by simp) (by omega) (fun j hj => by
    have hj2 : j < ks.length := by simpa using hj
    rw [(hb.cell (p := ⟨b1, o1 + j, none⟩) hbl1).trans (hc1 j hj2)]
    simp [List.getD, hj2])
  rw [idx_nodup hn i hi] at hI
  obtain ⟨X, hX⟩ : ∃ X : ByteArray, (⟨ks[i].toArray⟩ : ByteArray) = X := ⟨_, rfl⟩
  rw [hX] at hI ⊢
  show Calls _ _ #[.agg #[.int .i64 7, .int .i64 0, .string ⟨#[]⟩, .slice (some ⟨b1, o1, none⟩) ks.length c0, .slice (some ⟨b, off, none⟩) kids.length c1], .string X] w _
  have q1 : decide ((i : Int) < 0) = false := decide_eq_false (by omega)
  have q2 : decide ((kids.length : Int) ≤ (i : Int)) = false := decide_eq_false (by omega)
  clear e0 e1 e2 e3 e4 hc hc1 hst hkk hNk hX hl hn
  go_enter Tryd.func28, Tryd.ntmps28
  go_upto_region 1 with fail
  refine wp_gen (fun w1 => Hid (Below w.heap.size w w1) ∧ Hid (Blk w1 w.heap.size (.int .i64 7) (.int .i64 0) (.string ⟨#[]⟩) (.slice (some ⟨b1, o1, none⟩) ks.length c0) (.slice (some ⟨b, off, none⟩) kids.length c1))) ⟨al0 w _, heap_alloc_new w _⟩ ?_
  intro w1 ⟨HB1, HX1⟩
  have hI1 := hI w1 HB1.out
  have u0 := HX1.out.cell 0 (by omega)
  have u3 := HX1.out.cell 3 (by omega)
  have u4 := HX1.out.cell 4 (by omega)
  clear hI
  go_wp2_with (go_at_call 44; refine hI1.mono ?_; rintro e w2 ⟨rfl, rfl⟩)
  go_ret2
  exact HF.out _ HB1.out

set_option maxRecDepth 100000 in
set_option maxHeartbeats 2000000 in
theorem get_any (v : Value) (hN : NIs ok (h + 1) w (.mk 7 0 [] ks kids) v) (hl : ks.length = kids.length) (hn : ks.Nodup) (hk : ks.length ≤ 1000000) (i : Nat) (hi : i < ks.length) (hi2 : i < kids.length) (hsz : szT kids[i] ≤ 200000) :
    Calls Tryd.prog 18 #[v, .string ⟨ks[i].toArray⟩] w fun e w' => (∃ v', e = .returned (.tuple #[v', .bool true]) ∧ NIs (fun b => w.heap.size ≤ b) h w' kids[i] v') ∧ Below w.heap.size w w' := by
  obtain ⟨k9, n9, t9, S9, l9, m9, S8, l8, m8, rfl⟩ := hN.nd
  have HF := Lib.hid (fun W (hb : Below w.heap.size w W) => find_any ok h ks kids W _ (hN.below hb) hl hn hk i hi hi2)
  have HO := Lib.hid (fun W v' (hv : NIs ok h W kids[i] v') => own_any h ok kids[i] v' W hv hsz)
  obtain ⟨T, hT⟩ : ∃ T, kids[i] = T := ⟨_, rfl⟩
  obtain ⟨X, hX⟩ : ∃ X : ByteArray, (⟨ks[i].toArray⟩ : ByteArray) = X := ⟨_, rfl⟩
  rw [hX, hT] at HF
  rw [hT] at HO ⊢
  rw [hX]
  clear hN hT hX hn hl
  go_enter Tryd.func18, Tryd.ntmps18
  go_upto_region 1 with fail
  refine wp_gen (fun w1 => Hid (Below w.heap.size w w1) ∧ Hid (Blk w1 w.heap.size (.int .i64 k9) (.int .i64 n9) (.string ⟨t9.toArray⟩) (.slice S9 l9 m9) (.slice S8 l8 m8)) ∧ Hid (zeroBlk w1 (w.heap.size + 1)))
    ⟨al2 w _ _, (Below.heap_alloc (w.alloc _) _ w.heap.size (by simp)).trans (heap_alloc_new w _), heap_alloc_new2 w _ _⟩ ?_
  intro w1 ⟨HB1, HX1, HZ1⟩
  have u0 := HX1.out.cell 0 (by omega)
  have u1 := HX1.out.cell 1 (by omega)
  have u2 := HX1.out.cell 2 (by omega)
  have u3 := HX1.out.cell 3 (by omega)
  have u4 := HX1.out.cell 4 (by omega)
  have hf := HF.out w1 HB1.out
  go_wp2_with fail
  refine hf.mono ?_
  rintro e w2 ⟨hb2, b, o, kk, n2, t2, S3, l3, m3, S4, l4, m4, rfl, hbl, e0, e1, e2, e3, e4, hNk⟩
  have HB2 : Hid (Below w.heap.size w w2) := HB1.out.trans (hb2.mono HB1.out.size)
  have HZ2 := Lib.hid (HZ1.out.at hb2)
  have d0 := (hb2.cell (p := ⟨b, o, none⟩) hbl).trans e0
  have d1 := (hb2.cell (p := ⟨b, o + 1, none⟩) hbl).trans e1
  have d2 := (hb2.cell (p := ⟨b, o + 2, none⟩) hbl).trans e2
  have d3 := (hb2.cell (p := ⟨b, o + 3, none⟩) hbl).trans e3
  have d4 := (hb2.cell (p := ⟨b, o + 4, none⟩) hbl).trans e4
  have ho := HO.out w2 _ (hNk.below hb2)
  clear e0 e1 e2 e3 e4 hf HF HO u0 u1 u2 u3 u4 HX1 HZ1 HB1 hNk hb2
  go_wp2_with fail
  refine ho.mono ?_
  rintro e w3 ⟨⟨v, rfl, hN3⟩, hb3⟩
  obtain ⟨kk, n2, t2, S3, l3, m3, S4, l4, m4, rfl⟩ := hN3.nd
  have HB3 : Hid (Below w.heap.size w w3) := HB2.out.trans (hb3.mono HB2.out.size)
  have HZ3 : Hid (zeroBlk w3 (w.heap.size + 1)) := (hb3.block _ HZ2.out.lt).trans HZ2.out
  have HS2 : Hid (w.heap.size + 1 < w2.heap.size) := HZ2.out.lt
  have HN3 := Lib.hid hN3
  clear hb3 hN3 ho HB2 HZ2 d0 d1 d2 d3 d4
  have z0 := HZ3.out.cell 0 (by omega)
  have z1 := HZ3.out.cell 1 (by omega)
  have z2 := HZ3.out.cell 2 (by omega)
  have z3 := HZ3.out.cell 3 (by omega)
  have z4 := HZ3.out.cell 4 (by omega)
  have f0 := HZ3.out.fz
  go_wp2
  refine bp_gen (fun w9 => Hid (Blk w9 (w.heap.size + 1) (.int .i64 kk) (.int .i64 n2) (.string ⟨t2.toArray⟩) (.slice S3 l3 m3) (.slice S4 l4 m4)) ∧ Hid (Below w.heap.size w w9) ∧ Hid (NIs (fun b => w.heap.size ≤ b) h w9 T (.agg #[.int .i64 kk, .int .i64 n2, .string ⟨t2.toArray⟩, .slice S3 l3 m3, .slice S4 l4 m4])))
    ⟨HZ3.out.store _ _ _ _ _, set_below (set_below (set_below (set_below (set_below HB3.out (by omega) _) (by omega) _) (by omega) _) (by omega) _) (by omega) _, ?_⟩ ?_
  · have h2 := HS2.out
    exact (HN3.out.grown (gb_set (gb_set (gb_set (gb_set (gb_set (gb_refl _ _) _) _) _) _) _) (fun b hb => by omega)).kept (Nat.le_refl _) (fun b hb _ => ⟨by omega, rfl⟩)
  intro w9 ⟨HX9, HB9, HN9⟩
  have y0 := HX9.out.cell 0 (by omega)
  have y1 := HX9.out.cell 1 (by omega)
  have y2 := HX9.out.cell 2 (by omega)
  have y3 := HX9.out.cell 3 (by omega)
  have y4 := HX9.out.cell 4 (by omega)
  (try simp only [Exit.inBlock, Exit.then])
  refine bodyPost_ret (v := .tuple #[.agg #[.int .i64 kk, .int .i64 n2, .string ⟨t2.toArray⟩, .slice S3 l3 m3, .slice S4 l4 m4], .bool true]) ?_ rfl ?_
  · simp [results, Tryd.results18, go_sem, y0, y1, y2, y3, y4]
  · exact ⟨⟨_, rfl, HN9.out⟩, HB9.out⟩
end

end Go.Proofs.YtlaagdpanbineaaDoor
