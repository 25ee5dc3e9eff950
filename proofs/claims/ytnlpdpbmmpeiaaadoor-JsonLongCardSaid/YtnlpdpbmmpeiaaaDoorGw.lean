/- The program's reader of JSON: what enter, leave, keep and key do to what is begun (worlds alone, no walk). -/
import Derived.Test.YtnlpdpbmmpeiaaaDoorGm
namespace Go.Proofs.YtnlpdpbmmpeiaaaDoor
open Go.RowKit Go.Maps

theorem getElem_snoc {α : Type} (l : List α) (x : α) {i : Nat} (hi : i < (l ++ [x]).length) : (l ++ [x])[i] = if h : i < l.length then l[i] else x := by
  split
  · rename_i h; rw [List.getElem_append_left h]
  · rename_i h
    have : i = l.length := by simp at hi; omega
    subst this
    simp

theorem stk_snoc {w : World} {N : Nat} {own : Nat → Nat} {hv : Value} {hs : List HRec} {h : HRec} {c : Nat} (row : w.ownsRow N 64 6 hv (hs ++ [h]).length ((hs ++ [h]).flatMap HRec.cells)) (rowT : ∀ g, hv.ownBlock = some g → own g = 1)
    (each : ∀ i (hi : i < hs.length), HInv w N own i hs[i]) (top : HInv w N own hs.length h) (cnt : ∀ i (hi : i < hs.length), hs[i].fr.kids.length ≤ c) (ctop : h.fr.kids.length ≤ c) (deep : hs.length < 32) : Stk w N own hv (hs ++ [h]) c := by
  refine ⟨row, rowT, ?_, ?_, by simp; omega⟩
  · intro i hi
    rw [getElem_snoc]
    split
    · rename_i hl; exact each i hl
    · rename_i hl
      have : i = hs.length := by simp at hi; omega
      subst this; exact top
  · intro i hi
    rw [getElem_snoc]
    split
    · rename_i hl; exact cnt i hl
    · exact ctop
theorem Stk.low {w : World} {N : Nat} {own : Nat → Nat} {hv : Value} {hs : List HRec} {h : HRec} {c : Nat} (hS : Stk w N own hv (hs ++ [h]) c) : (∀ i (hi : i < hs.length), HInv w N own i hs[i]) ∧ HInv w N own hs.length h ∧ (∀ i (hi : i < hs.length), hs[i].fr.kids.length ≤ c) ∧ h.fr.kids.length ≤ c ∧ hs.length < 32 := by
  refine ⟨fun i hi => ?_, ?_, fun i hi => ?_, ?_, ?_⟩
  · have := hS.each i (by simp; omega)
    rwa [getElem_snoc, dif_pos hi] at this
  · have := hS.each hs.length (by simp)
    rwa [getElem_snoc, dif_neg (by omega)] at this
  · have := hS.cnt i (by simp; omega)
    rwa [getElem_snoc, dif_pos hi] at this
  · have := hS.cnt hs.length (by simp)
    rwa [getElem_snoc, dif_neg (by omega)] at this
  · have := hS.deep; simp at this; omega

/-- new blocks belong to tag t -/
def ownU (n : Nat) (own : Nat → Nat) (t b : Nat) : Nat := if b < n then own b else t
theorem ownU_lt {n t b : Nat} {own : Nat → Nat} (h : b < n) : ownU n own t b = own b := if_pos h
theorem ownU_ge {n t b : Nat} {own : Nat → Nat} (h : n ≤ b) : ownU n own t b = t := if_neg (by omega)
/-- .. the first of them to tag t, the others to tag 1 -/
def ownE (n : Nat) (own : Nat → Nat) (t b : Nat) : Nat := if b < n then own b else if b = n then t else 1
theorem ownE_lt {n t b : Nat} {own : Nat → Nat} (h : b < n) : ownE n own t b = own b := if_pos h
theorem ownE_eq {n t : Nat} {own : Nat → Nat} : ownE n own t n = t := by unfold ownE; rw [if_neg (by omega), if_pos rfl]
theorem ownE_gt {n t b : Nat} {own : Nat → Nat} (h : n < b) : ownE n own t b = 1 := by unfold ownE; rw [if_neg (by omega), if_neg (by omega)]
/-- what belonged to the i-th belongs to none -/
def ownL (own : Nat → Nat) (i b : Nat) : Nat := if own b = 3 * i + 2 ∨ own b = 3 * i + 3 ∨ own b = 3 * i + 4 then 0 else own b
theorem ownL_in {i b : Nat} {own : Nat → Nat} (h : own b = 3 * i + 2 ∨ own b = 3 * i + 3 ∨ own b = 3 * i + 4) : ownL own i b = 0 := if_pos h
theorem ownL_out {i b : Nat} {own : Nat → Nat} (h : ¬ (own b = 3 * i + 2 ∨ own b = 3 * i + 3 ∨ own b = 3 * i + 4)) : ownL own i b = own b := if_neg h

/-- begun: nothing in it -/
def fresh (fr : Fr) : Prop := fr.keys = [] ∧ fr.kids = []
theorem enter_stk {w w' : World} {R c M : Nat} {own : Nat → Nat} {hv hv' : Value} {hs : List HRec} {fr : Fr} (hS : Stk w (R + 1) own hv hs c) (hf : fresh fr) (hn : hs.length < 32) (hM : w.heap.size = M) (hR : R < w.heap.size) (hz : w.heap.size < w'.heap.size)
    (hmap : w'.ownsMap Tryd.prog 9 (plainElem (H := Unit) Tryd.prog 3) M 0 (.map []))
    (hrow : w'.ownsRow (R + 1) 64 6 hv' (hs.length + 1) (hs.flatMap HRec.cells ++ [.int .i64 fr.kind, .int .i64 0, .string ⟨#[]⟩, .slice none 0 0, .slice none 0 0, .map (some M)]))
    (hat : ∀ g, hv'.ownBlock = some g → hv.ownBlock = some g ∨ M < g)
    (hb : ∀ b, b < w.heap.size → R + 1 ≤ b → some b ≠ hv.ownBlock → w'.heap[b]? = w.heap[b]?) :
    ∃ own', Stk w' (R + 1) own' hv' (hs ++ [⟨fr, .slice none 0 0, .slice none 0 0, [], M⟩]) c := by
  subst hM
  refine ⟨ownE w.heap.size own (3 * hs.length + 4), ?_⟩
  have hkept : ∀ i (hi : i < hs.length), HInv w' (R + 1) (ownE w.heap.size own (3 * hs.length + 4)) i hs[i] := fun i hi => (hS.each i hi).kept (by omega) (fun b h1 _ _ => ownE_lt h1)
    (fun b h1 h2 h3 => hb b h1 h2 (fun e => by have := hS.rowT b e.symm; omega))
  refine stk_snoc ?_ ?_ hkept ?_ hS.cnt (by show fr.kids.length ≤ c; rw [hf.2]; simp) hn
  · rw [cells_snoc, List.length_append]; exact hrow
  · intro g hg
    rcases hat g hg with h | h
    · rw [ownE_lt (hS.row.lt g h).2]; exact hS.rowT g h
    · exact ownE_gt h
  · refine ⟨?_, fun g h => by simp [Value.ownBlock] at h, ?_, fun g h => by simp [Value.ownBlock] at h, ⟨0, _, hmap, by simp, isMap_empty, fun k => ?_⟩, by show R + 1 ≤ w.heap.size; omega, ?_, ?_⟩
    · show w'.ownsRow _ _ _ _ fr.keys.length (fr.keys.map strV); rw [hf.1]; exact World.ownsRow_nil _ _ _ _
    · show w'.ownsRow _ _ _ _ fr.kids.length []; rw [hf.2]; exact World.ownsRow_nil _ _ _ _
    · show _ = decide (k ∈ fr.keys); rw [hf.1]; simp [has]
    · exact ownE_eq
    · show CIs _ _ _ fr.kids []; rw [hf.2]; exact CIs.nil _ _ _

/-- a row without its last holder -/
theorem own_pop {w : World} {N : Nat} {hv : Value} {hs : List HRec} {h : HRec} (row : w.ownsRow N 64 6 hv (hs ++ [h]).length ((hs ++ [h]).flatMap HRec.cells)) : ∃ g cap, hv = .slice (some ⟨g, 0, none⟩) (hs.length + 1) cap ∧ N ≤ g ∧ g < w.heap.size ∧ w.ownsRow N 64 6 (.slice (some ⟨g, 0, none⟩) hs.length cap) hs.length (hs.flatMap HRec.cells) := by
  rw [cells_snoc, List.length_append] at row
  obtain ⟨g, cap, hv', h1, h2⟩ := row.form (by simp)
  subst hv'
  exact ⟨g, cap, rfl, h1, h2, ownsRow_pop (cells_len hs) row⟩

theorem leave_stk {w : World} {R c g cap : Nat} {own : Nat → Nat} {hs : List HRec} {h : HRec} (hS : Stk w (R + 1) own (.slice (some ⟨g, 0, none⟩) (hs.length + 1) cap) (hs ++ [h]) c) :
    ∃ own', Stk w (R + 1) own' (.slice (some ⟨g, 0, none⟩) hs.length cap) hs c ∧ NIs (fun b => R + 1 ≤ b ∧ own' b = 0) (33 - hs.length) w (.mk h.fr.kind 0 [] h.fr.keys h.fr.kids) (LV.v ⟨.int .i64 h.fr.kind, .int .i64 0, .string ⟨#[]⟩, h.kv, h.cv⟩) := by
  obtain ⟨low, top, cnt, _, hd⟩ := hS.low
  obtain ⟨g', cap', e, h1, h2, hpop⟩ := own_pop hS.row
  injection e with e1 e2 e3
  injection e1 with e1
  injection e1 with e1
  subst e1 e3
  refine ⟨ownL own hs.length, ⟨hpop, ?_, ?_, cnt, by omega⟩, ?_⟩
  · intro b hb
    have := hS.rowT b hb
    rw [ownL_out (by omega)]; exact this
  · intro i hi
    refine (low i hi).kept (Nat.le_refl _) (fun b _ _ h3 => ?_) (fun _ _ _ _ => rfl)
    exact ownL_out (by omega)
  · rw [show 33 - hs.length = (32 - hs.length) + 1 by omega]
    refine NIs.of_own (kids := h.fr.kids) (t := []) top.kids (top.cis.kept (Nat.le_refl _) (fun b hb _ => ⟨⟨hb.1, ?_⟩, rfl⟩)) ?_ ?_
    · rw [ownL_out (by omega)]; exact hb.2
    · intro b hb
      refine ⟨(top.kids.lt b hb).1, ?_⟩
      exact ownL_in (.inr (.inl (top.kidsT b hb)))
    · rcases top.keys.2 with ⟨hk, h0⟩ | ⟨q, cap2, cur, hk, q1, q2, q3, q4, q5, q6⟩
      · exact ⟨none, 0, by rw [hk, h0], .inl (List.eq_nil_of_length_eq_zero h0)⟩
      · refine ⟨_, cap2, hk, .inr ⟨q, 0, rfl, ⟨q1, ?_⟩, (Array.getElem?_eq_some_iff.1 q2).1, fun j hj => ?_⟩⟩
        · exact ownL_in (.inl (top.keysT q (by rw [hk]; rfl)))
        · have ho := top.keys
          rw [hk] at ho
          rw [Nat.zero_add, ho.cellAt j (by omega)]
          simp [hj, strV, List.getD]

def Fr.push (t : NT) : Fr → Fr
  | .arr acc => .arr (acc ++ [t])
  | .obj ks acc => .obj ks (acc ++ [t])
theorem push_kids (t : NT) (fr : Fr) : (fr.push t).kids = fr.kids ++ [t] := by cases fr <;> rfl
theorem push_keys (t : NT) (fr : Fr) : (fr.push t).keys = fr.keys := by cases fr <;> rfl
theorem push_kind (t : NT) (fr : Fr) : (fr.push t).kind = fr.kind := by cases fr <;> rfl

def HRec.pushed (h : HRec) (t : NT) (cv : Value) (L : LV) : HRec := { h with fr := h.fr.push t, cv := cv, xs := h.xs ++ [L.a0, L.a1, L.a2, L.a3, L.a4] }

theorem keep_stk {w w' : World} {R c g hcap gg cap : Nat} {own : Nat → Nat} {hs : List HRec} {h : HRec} {t : NT} {L : LV} (hS : Stk w (R + 1) own (.slice (some ⟨g, 0, none⟩) (hs.length + 1) hcap) (hs ++ [h]) c)
    (hL : NIs (fun b => R + 1 ≤ b ∧ own b = 0) (32 - hs.length) w t L.v) (hz : w.heap.size ≤ w'.heap.size) (hat : h.cv.ownBlock = some gg ∨ w.heap.size ≤ gg)
    (hkids : w'.ownsRow (R + 1) 25 5 (.slice (some ⟨gg, 0, none⟩) (h.fr.kids.length + 1) cap) (h.fr.kids.length + 1) (h.xs ++ [L.a0, L.a1, L.a2, L.a3, L.a4]))
    (hrow : w'.ownsRow (R + 1) 64 6 (.slice (some ⟨g, 0, none⟩) (hs.length + 1) hcap) (hs.length + 1) ((hs ++ [h.pushed t (.slice (some ⟨gg, 0, none⟩) (h.fr.kids.length + 1) cap) L]).flatMap HRec.cells))
    (hb : ∀ b, b < w.heap.size → R + 1 ≤ b → some b ≠ h.cv.ownBlock → b ≠ g → w'.heap[b]? = w.heap[b]?) (hc : h.fr.kids.length < c) :
    ∃ own', Stk w' (R + 1) own' (.slice (some ⟨g, 0, none⟩) (hs.length + 1) hcap) (hs ++ [h.pushed t (.slice (some ⟨gg, 0, none⟩) (h.fr.kids.length + 1) cap) L]) c := by
  obtain ⟨low, top, cnt, ct, hd⟩ := hS.low
  have hg1 : own g = 1 := hS.rowT g rfl
  have hgl := hS.row.lt g rfl
  refine ⟨ownU w.heap.size own (3 * hs.length + 3), ?_⟩
  have ho : ∀ b, b < w.heap.size → ownU w.heap.size own (3 * hs.length + 3) b = own b := fun b hb => ownU_lt hb
  refine stk_snoc (by rw [List.length_append]; exact hrow) (fun b hb2 => by rw [ho b (hS.row.lt b hb2).2]; exact hS.rowT b hb2) (fun i hi => (low i hi).kept hz (fun b h1 _ _ => ho b h1) (fun b h1 h2 h3 => hb b h1 h2 (fun e => ?_) (fun e => ?_))) ?_ cnt ?_ hd
  · have := top.kidsT b e.symm; omega
  · subst e; omega
  · obtain ⟨keys, keysT, kids, kidsT, ⟨n, D, hm, hn, hD, hh⟩, mapN, mapT, cis⟩ := top
    refine ⟨?_, ?_, ?_, ?_, ⟨n, D, map_of_block hm (hb _ hm.lt mapN (fun e => ?_) (fun e => ?_)), ?_, hD, ?_⟩, mapN, (ho _ hm.lt).trans mapT, ?_⟩
    · show w'.ownsRow _ _ _ h.kv (h.fr.push t).keys.length ((h.fr.push t).keys.map strV)
      rw [push_keys]
      refine own_of_block keys (fun b e => hb b (keys.lt b e).2 (keys.lt b e).1 (fun e2 => ?_) (fun e2 => ?_))
      · have := kidsT b e2.symm; have := keysT b e; omega
      · have := keysT b e; subst e2; omega
    · intro b e; rw [ho b (keys.lt b e).2]; exact keysT b e
    · show w'.ownsRow _ _ _ _ (h.fr.push t).kids.length _
      rw [push_kids, List.length_append]; exact hkids
    · intro b e
      obtain rfl : gg = b := by injection e
      rcases hat with e | e
      · rw [ho gg (kids.lt gg e).2]; exact kidsT gg e
      · exact ownU_ge e
    · have h9 : own h.M = 3 * hs.length + 3 := kidsT h.M e.symm
      omega
    · have e2 : own h.M = own g := congrArg own e
      omega
    · show n ≤ (h.fr.push t).keys.length; rw [push_keys]; exact hn
    · intro k; show _ = decide (k ∈ (h.fr.push t).keys); rw [push_keys]; exact hh k
    · show CIs _ _ w' (h.fr.push t).kids (h.xs ++ [L.a0, L.a1, L.a2, L.a3, L.a4])
      rw [push_kids]
      have hk : ∀ b, (R + 1 ≤ b ∧ own b = 0) → b < w.heap.size → (R + 1 ≤ b ∧ ownU w.heap.size own (3 * hs.length + 3) b = 0) ∧ w'.heap[b]? = w.heap[b]? := fun b hb1 hb2 =>
        ⟨⟨hb1.1, (ho b hb2).trans hb1.2⟩, hb b hb2 hb1.1 (fun e => by have := kidsT b e.symm; omega) (fun e => by subst e; omega)⟩
      exact CIs.snoc (cis.kept hz hk) (hL.kept hz hk)
  · show (h.fr.push t).kids.length ≤ c
    rw [push_kids, List.length_append]; simp; omega

def HRec.keyed (h : HRec) (k : List UInt8) (kv : Value) : HRec := { h with fr := .obj (h.fr.keys ++ [k]) h.fr.kids, kv := kv }
theorem key_stk {w w' : World} {R c g hcap gg cap n : Nat} {own : Nat → Nat} {hs : List HRec} {h : HRec} {k : List UInt8} {D : DataW Unit} (hS : Stk w (R + 1) own (.slice (some ⟨g, 0, none⟩) (hs.length + 1) hcap) (hs ++ [h]) c)
    (hz : w.heap.size ≤ w'.heap.size) (hat : h.kv.ownBlock = some gg ∨ w.heap.size ≤ gg)
    (hkeys : w'.ownsRow (R + 1) 9 1 (.slice (some ⟨gg, 0, none⟩) (h.fr.keys.length + 1) cap) (h.fr.keys.length + 1) (h.fr.keys.map strV ++ [strV k]))
    (hmap : w'.ownsMap Tryd.prog 9 (plainElem Tryd.prog 3) h.M n D) (hn : n ≤ h.fr.keys.length + 1) (hD : IsMap D) (hh : ∀ k', has D (.string k') = decide (k' ∈ h.fr.keys ++ [k]))
    (hrow : w'.ownsRow (R + 1) 64 6 (.slice (some ⟨g, 0, none⟩) (hs.length + 1) hcap) (hs.length + 1) ((hs ++ [h.keyed k (.slice (some ⟨gg, 0, none⟩) (h.fr.keys.length + 1) cap)]).flatMap HRec.cells))
    (hb : ∀ b, b < w.heap.size → R + 1 ≤ b → some b ≠ h.kv.ownBlock → b ≠ g → b ≠ h.M → w'.heap[b]? = w.heap[b]?) :
    ∃ own', Stk w' (R + 1) own' (.slice (some ⟨g, 0, none⟩) (hs.length + 1) hcap) (hs ++ [h.keyed k (.slice (some ⟨gg, 0, none⟩) (h.fr.keys.length + 1) cap)]) c := by
  obtain ⟨low, top, cnt, ct, hd⟩ := hS.low
  have hg1 : own g = 1 := hS.rowT g rfl
  have hgl := hS.row.lt g rfl
  refine ⟨ownU w.heap.size own (3 * hs.length + 2), ?_⟩
  have ho : ∀ b, b < w.heap.size → ownU w.heap.size own (3 * hs.length + 2) b = own b := fun b hb => ownU_lt hb
  refine stk_snoc (by rw [List.length_append]; exact hrow) (fun b hb2 => by rw [ho b (hS.row.lt b hb2).2]; exact hS.rowT b hb2) (fun i hi => (low i hi).kept hz (fun b h1 _ _ => ho b h1) (fun b h1 h2 h3 => hb b h1 h2 (fun e => ?_) (fun e => ?_) (fun e => ?_))) ?_ cnt ct hd
  · have := top.keysT b e.symm; omega
  · subst e; omega
  · have := top.mapT; subst e; omega
  · obtain ⟨keys, keysT, kids, kidsT, ⟨n0, D0, hm, hn0, hD0, hh0⟩, mapN, mapT, cis⟩ := top
    refine ⟨?_, ?_, ?_, ?_, ⟨n, D, hmap, ?_, hD, hh⟩, mapN, (ho _ hm.lt).trans mapT, ?_⟩
    · show w'.ownsRow _ _ _ _ (h.fr.keys ++ [k]).length ((h.fr.keys ++ [k]).map strV)
      rw [List.length_append, List.map_append]; exact hkeys
    · intro b e
      obtain rfl : gg = b := by injection e
      rcases hat with e | e
      · rw [ho gg (keys.lt gg e).2]; exact keysT gg e
      · exact ownU_ge e
    · refine own_of_block kids (fun b e => hb b (kids.lt b e).2 (kids.lt b e).1 (fun e2 => ?_) (fun e2 => ?_) (fun e2 => ?_))
      · have := keysT b e2.symm; have := kidsT b e; omega
      · have := kidsT b e; subst e2; omega
      · have := kidsT b e; subst e2; omega
    · intro b e; exact (ho b (kids.lt b e).2).trans (kidsT b e)
    · show n ≤ (h.fr.keys ++ [k]).length
      rw [List.length_append]; exact hn
    · exact cis.kept hz (fun b hb1 hb2 => ⟨⟨hb1.1, (ho b hb2).trans hb1.2⟩, hb b hb2 hb1.1 (fun e => by have := keysT b e.symm; omega) (fun e => by subst e; omega) (fun e => by subst e; omega)⟩)

end Go.Proofs.YtnlpdpbmmpeiaaaDoor
