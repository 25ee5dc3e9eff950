/- The program's reader of JSON: what lies in memory while it reads: the reader's cells, the Arrays and Objects that are begun. -/
import Derived.Test.YtnlpdpbmmpeiaaaDoorJk
import Derived.Test.YtnlpdpbmmpeiaaaDoorJn
import Derived.Maps.OwnSet
import Derived.Maps.Views
import Derived.StringKeys
import Derived.Deep.AppendLies
import Derived.WalkSmall
namespace Go.Proofs.YtnlpdpbmmpeiaaaDoor
open Go.RowKit Go.Maps

/-- the five cells of a value -/
structure LV where
  a0 : Value
  a1 : Value
  a2 : Value
  a3 : Value
  a4 : Value
def LV.v (L : LV) : Value := .agg #[L.a0, L.a1, L.a2, L.a3, L.a4]
def LV.zero : LV := ⟨.int .i64 0, .int .i64 0, .string ⟨#[]⟩, .slice none 0 0, .slice none 0 0⟩
/-- the program's reader's cells -/
def RdP (w : World) (R : Nat) (s : ByteArray) (k c : Nat) (hv : Value) (L : LV) : Prop := w.heap[R]? = some (.cells #[.string s, .int .i64 k, .int .i64 c, hv, L.a0, L.a1, L.a2, L.a3, L.a4] 45 (0, 0))
section
variable {w : World} {R : Nat} {s : ByteArray} {k c : Nat} {hv : Value} {L : LV}
theorem RdP.cell (h : RdP w R s k c hv L) (j : Nat) : w.cell? ⟨R, j, none⟩ = #[.string s, .int .i64 k, .int .i64 c, hv, L.a0, L.a1, L.a2, L.a3, L.a4][j]? := by
  unfold RdP at h
  simp only [World.cell?]
  rw [h]
  rfl
theorem RdP.c0 (h : RdP w R s k c hv L) : w.cell? ⟨R, 0, none⟩ = some (.string s) := h.cell 0
theorem RdP.c1 (h : RdP w R s k c hv L) : w.cell? ⟨R, 1, none⟩ = some (.int .i64 k) := h.cell 1
theorem RdP.c2 (h : RdP w R s k c hv L) : w.cell? ⟨R, 2, none⟩ = some (.int .i64 c) := h.cell 2
theorem RdP.c3 (h : RdP w R s k c hv L) : w.cell? ⟨R, 3, none⟩ = some hv := h.cell 3
theorem RdP.c4 (h : RdP w R s k c hv L) : w.cell? ⟨R, 4, none⟩ = some L.a0 := h.cell 4
theorem RdP.c5 (h : RdP w R s k c hv L) : w.cell? ⟨R, 5, none⟩ = some L.a1 := h.cell 5
theorem RdP.c6 (h : RdP w R s k c hv L) : w.cell? ⟨R, 6, none⟩ = some L.a2 := h.cell 6
theorem RdP.c7 (h : RdP w R s k c hv L) : w.cell? ⟨R, 7, none⟩ = some L.a3 := h.cell 7
theorem RdP.c8 (h : RdP w R s k c hv L) : w.cell? ⟨R, 8, none⟩ = some L.a4 := h.cell 8
theorem RdP.fz (h : RdP w R s k c hv L) (j : Nat) : w.frozen? ⟨R, j, none⟩ = false := by
  unfold RdP at h
  simp only [World.frozen?]
  rw [h]
  simp
theorem RdP.lt (h : RdP w R s k c hv L) : R < w.heap.size := (Array.getElem?_eq_some_iff.1 h).1
theorem RdP.set1 (h : RdP w R s k c hv L) (k' : Nat) : RdP (w.setCell ⟨R, 1, none⟩ (.int .i64 k')) R s k' c hv L := by
  unfold RdP at h ⊢
  simp [World.setCell, Array.getElem?_modify, h]
theorem RdP.set2 (h : RdP w R s k c hv L) (c' : Nat) : RdP (w.setCell ⟨R, 2, none⟩ (.int .i64 c')) R s k c' hv L := by
  unfold RdP at h ⊢
  simp [World.setCell, Array.getElem?_modify, h]
theorem RdP.set3 (h : RdP w R s k c hv L) (v : Value) : RdP (w.setCell ⟨R, 3, none⟩ v) R s k c v L := by
  unfold RdP at h ⊢
  simp [World.setCell, Array.getElem?_modify, h]
theorem RdP.set4 (h : RdP w R s k c hv L) (v : Value) : RdP (w.setCell ⟨R, 4, none⟩ v) R s k c hv ⟨v, L.a1, L.a2, L.a3, L.a4⟩ := by
  unfold RdP at h ⊢
  simp [World.setCell, Array.getElem?_modify, h]
theorem RdP.set5 (h : RdP w R s k c hv L) (v : Value) : RdP (w.setCell ⟨R, 5, none⟩ v) R s k c hv ⟨L.a0, v, L.a2, L.a3, L.a4⟩ := by
  unfold RdP at h ⊢
  simp [World.setCell, Array.getElem?_modify, h]
theorem RdP.set6 (h : RdP w R s k c hv L) (v : Value) : RdP (w.setCell ⟨R, 6, none⟩ v) R s k c hv ⟨L.a0, L.a1, v, L.a3, L.a4⟩ := by
  unfold RdP at h ⊢
  simp [World.setCell, Array.getElem?_modify, h]
theorem RdP.set7 (h : RdP w R s k c hv L) (v : Value) : RdP (w.setCell ⟨R, 7, none⟩ v) R s k c hv ⟨L.a0, L.a1, L.a2, v, L.a4⟩ := by
  unfold RdP at h ⊢
  simp [World.setCell, Array.getElem?_modify, h]
theorem RdP.set8 (h : RdP w R s k c hv L) (v : Value) : RdP (w.setCell ⟨R, 8, none⟩ v) R s k c hv ⟨L.a0, L.a1, L.a2, L.a3, v⟩ := by
  unfold RdP at h ⊢
  simp [World.setCell, Array.getElem?_modify, h]
theorem RdP.grown {w' : World} {r : Option Nat} (h : RdP w R s k c hv L) (hg : w.grownBy w' r) (hr : some R ≠ r) : RdP w' R s k c hv L := (hg.block R h.lt hr).trans h
theorem RdP.other {b j : Nat} (h : RdP w R s k c hv L) (hb : b ≠ R) (v : Value) : RdP (w.setCell ⟨b, j, none⟩ v) R s k c hv L := by
  unfold RdP at h ⊢
  simp only [World.setCell]
  rw [Array.getElem?_modify, if_neg hb]
  exact h
theorem RdP.alloc (h : RdP w R s k c hv L) (o : Obj) : RdP (w.alloc o) R s k c hv L := (Below.heap_alloc w o R h.lt).trans h
theorem RdP.below {w' : World} (h : RdP w R s k c hv L) (hb : Below w.heap.size w w') : RdP w' R s k c hv L := (hb.block R h.lt).trans h
end

def Fr.kind : Fr → Int
  | .arr _ => 6
  | .obj _ _ => 7
def Fr.keys : Fr → List (List UInt8)
  | .arr _ => []
  | .obj ks _ => ks
def Fr.kids : Fr → List NT
  | .arr acc => acc
  | .obj _ acc => acc

/-- an Array or Object that is begun, in memory: slices of its keys and kids, its kids' cells, the map of its keys -/
structure HRec where
  fr : Fr
  kv : Value
  cv : Value
  xs : List Value
  M : Nat
def HRec.cells (h : HRec) : List Value := [.int .i64 h.fr.kind, .int .i64 0, .string ⟨#[]⟩, h.kv, h.cv, .map (some h.M)]
def strV (k : List UInt8) : Value := .string ⟨k.toArray⟩

/-- own: to which of them a block belongs (0: to none: what lies there stays) -/
structure HInv (w : World) (N : Nat) (own : Nat → Nat) (i : Nat) (h : HRec) : Prop where
  keys : w.ownsRow N 9 1 h.kv h.fr.keys.length (h.fr.keys.map strV)
  keysT : ∀ g, h.kv.ownBlock = some g → own g = 3 * i + 2
  kids : w.ownsRow N 25 5 h.cv h.fr.kids.length h.xs
  kidsT : ∀ g, h.cv.ownBlock = some g → own g = 3 * i + 3
  map : ∃ (n : Nat) (D : DataW Unit), w.ownsMap Tryd.prog 9 (plainElem Tryd.prog 3) h.M n D ∧ n ≤ h.fr.keys.length ∧ IsMap D ∧ ∀ k, has D (.string k) = decide (k ∈ h.fr.keys)
  mapN : N ≤ h.M
  mapT : own h.M = 3 * i + 4
  cis : CIs (fun b => N ≤ b ∧ own b = 0) (32 - i) w h.fr.kids h.xs

theorem own_of_block {w w' : World} {base : Nat} {e : TypeId} {size : Nat} {v : Value} {n : Nat} {xs : List Value} (h : w.ownsRow base e size v n xs) (hb : ∀ g, v.ownBlock = some g → w'.heap[g]? = w.heap[g]?) : w'.ownsRow base e size v n xs := by
  refine ⟨h.1, ?_⟩
  rcases h.2 with hn | ⟨g, cap, cur, rfl, h1, hgg, rest⟩
  · exact .inl hn
  · exact .inr ⟨g, cap, cur, rfl, h1, (hb g rfl).trans hgg, rest⟩
theorem map_of_block {H : Type} {P : Program} {k : TypeId} {Q : Value → Option (DataW H × List MemPlace)} {b n : Nat} {D : DataW H} {w w' : World} (h : w.ownsMap P k Q b n D) (hb : w'.heap[b]? = w.heap[b]?) : w'.ownsMap P k Q b n D := by
  obtain ⟨es, clock, h1, F, h2, h3⟩ := h
  exact ⟨es, clock, hb.trans h1, F, h2, h3⟩

theorem HInv.kept {w w' : World} {N i : Nat} {own own' : Nat → Nat} {h : HRec} (hI : HInv w N own i h) (hs : w.heap.size ≤ w'.heap.size) (ho : ∀ b, b < w.heap.size → N ≤ b → (own b = 3 * i + 2 ∨ own b = 3 * i + 3 ∨ own b = 3 * i + 4 ∨ own b = 0) → own' b = own b)
    (hb : ∀ b, b < w.heap.size → N ≤ b → (own b = 3 * i + 2 ∨ own b = 3 * i + 3 ∨ own b = 3 * i + 4 ∨ own b = 0) → w'.heap[b]? = w.heap[b]?) : HInv w' N own' i h := by
  obtain ⟨keys, keysT, kids, kidsT, ⟨n, D, hm, hn, hD, hh⟩, mapN, mapT, cis⟩ := hI
  refine ⟨own_of_block keys ?_, ?_, own_of_block kids ?_, ?_, ⟨n, D, map_of_block hm (hb _ hm.lt mapN (by omega)), hn, hD, hh⟩, mapN, (ho _ hm.lt mapN (by omega)).trans mapT, cis.kept hs ?_⟩
  · intro g hv; have := keys.lt g hv; have := keysT g hv; exact hb g (by omega) (by omega) (by omega)
  · intro g hv; have h1 := keys.lt g hv; have h2 := keysT g hv; rw [ho g (by omega) (by omega) (by omega)]; exact h2
  · intro g hv; have := kids.lt g hv; have := kidsT g hv; exact hb g (by omega) (by omega) (by omega)
  · intro g hv; have h1 := kids.lt g hv; have h2 := kidsT g hv; rw [ho g (by omega) (by omega) (by omega)]; exact h2
  · intro b ⟨h1, h2⟩ hlt
    exact ⟨⟨h1, (ho b hlt h1 (by omega)).trans h2⟩, hb b hlt h1 (by omega)⟩

/-- what is begun and not ended, from without -/
structure Stk (w : World) (N : Nat) (own : Nat → Nat) (hv : Value) (hs : List HRec) (c : Nat) : Prop where
  row : w.ownsRow N 64 6 hv hs.length (hs.flatMap HRec.cells)
  rowT : ∀ g, hv.ownBlock = some g → own g = 1
  each : ∀ i (hi : i < hs.length), HInv w N own i hs[i]
  cnt : ∀ i (hi : i < hs.length), hs[i].fr.kids.length ≤ c
  deep : hs.length ≤ 32

theorem Stk.kept {w w' : World} {N c : Nat} {own own' : Nat → Nat} {hv : Value} {hs : List HRec} (hI : Stk w N own hv hs c) (hz : w.heap.size ≤ w'.heap.size) (ho : ∀ b, b < w.heap.size → own' b = own b)
    (hb : ∀ b, b < w.heap.size → N ≤ b → w'.heap[b]? = w.heap[b]?) : Stk w' N own' hv hs c := by
  refine ⟨own_of_block hI.row (fun g hg => hb g (hI.row.lt g hg).2 (hI.row.lt g hg).1), ?_, fun i hi => (hI.each i hi).kept hz (fun b h1 _ _ => ho b h1) (fun b h1 h2 _ => hb b h1 h2), hI.cnt, hI.deep⟩
  intro g h; rw [ho _ (hI.row.lt g h).2]; exact hI.rowT g h
theorem Stk.row1 {w w' : World} {R c : Nat} {own : Nat → Nat} {hv : Value} {hs : List HRec} (hI : Stk w (R + 1) own hv hs c) (hg : w.grownBy w' (some R)) : Stk w' (R + 1) own hv hs c :=
  hI.kept hg.size (fun _ _ => rfl) (fun b h1 h2 => hg.block b h1 (by simp; omega))
theorem Stk.below {w w' : World} {R c : Nat} {own : Nat → Nat} {hv : Value} {hs : List HRec} (hI : Stk w (R + 1) own hv hs c) (hg : Below w.heap.size w w') : Stk w' (R + 1) own hv hs c :=
  hI.kept hg.size (fun _ _ => rfl) (fun b h1 _ => hg.block b h1)
theorem Stk.more {w : World} {N c c' : Nat} {own : Nat → Nat} {hv : Value} {hs : List HRec} (h : Stk w N own hv hs c) (hc : c ≤ c') : Stk w N own hv hs c' :=
  ⟨h.row, h.rowT, h.each, fun i hi => Nat.le_trans (h.cnt i hi) hc, h.deep⟩
theorem Stk.nil (w : World) (N : Nat) (own : Nat → Nat) (c : Nat) : Stk w N own (.slice none 0 0) [] c :=
  ⟨World.ownsRow_nil _ _ _ _, fun g h => by simp [Value.ownBlock] at h, fun i hi => absurd hi (by simp), fun i hi => absurd hi (by simp), by simp⟩

/-- the frames, the innermost first -/
def frs (hs : List HRec) : List Fr := (hs.map HRec.fr).reverse
theorem frs_snoc (hs : List HRec) (h : HRec) : frs (hs ++ [h]) = h.fr :: frs hs := by simp [frs]
theorem frs_len (hs : List HRec) : (frs hs).length = hs.length := by simp [frs]

theorem cells_len (hs : List HRec) : (hs.flatMap HRec.cells).length = hs.length * 6 := by
  induction hs with
  | nil => rfl
  | cons h t ih => rw [List.flatMap_cons, List.length_append, ih, List.length_cons]; simp [HRec.cells]; omega
theorem cells_snoc (hs : List HRec) (h : HRec) : (hs ++ [h]).flatMap HRec.cells = hs.flatMap HRec.cells ++ h.cells := by simp [List.flatMap_append]

end Go.Proofs.YtnlpdpbmmpeiaaaDoor
