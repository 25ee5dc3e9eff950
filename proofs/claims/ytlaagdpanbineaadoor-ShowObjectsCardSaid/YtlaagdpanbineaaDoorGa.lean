/- The program's reader of JSON: what lies in memory while it reads: the reader's cells, the Arrays and Objects that are begun. -/
import Derived.Test.YtlaagdpanbineaaDoorJa
import Derived.Maps.OwnSet
import Derived.Maps.Views
import Derived.StringKeys
import Derived.Deep.AppendLies
import Derived.WalkSmall
import Derived.Test.YtlaagdpanbineaaDoorQc
import Derived.WalkSpells
import Derived.WalkLawsBesides
import Derived.Deep.QuietTactic
import Derived.BigQuiet
import Derived.Lib.Hide
namespace Go.Proofs.YtlaagdpanbineaaDoor
open Go.RowKit Go.Maps

/-- the five cells of a value -/
structure LV where
  a0 : Value
  a1 : Value
  a2 : Value
  a3 : Value
  a4 : Value
def LV.v (L : LV) : Value := .agg #[L.a0, L.a1, L.a2, L.a3, L.a4]
def LV.zero : LV := ⟨.int .i64 0, .int .i64 0, .string ⟨#[]⟩, .slice none 0 0, .slice none 0 0⟩
/-- the program's reader's cells -/
def RdP (w : World) (R : Nat) (s : ByteArray) (k c : Nat) (hv : Value) (L : LV) : Prop := w.heap[R]? = some (.cells #[.string s, .int .i64 k, .int .i64 c, hv, L.a0, L.a1, L.a2, L.a3, L.a4] 50 (0, 0))
section
variable {w : World} {R : Nat} {s : ByteArray} {k c : Nat} {hv : Value} {L : LV}
theorem RdP.cell (h : RdP w R s k c hv L) (j : Nat) : w.cell? ⟨R, j, none⟩ = #[.string s, .int .i64 k, .int .i64 c, hv, L.a0, L.a1, L.a2, L.a3, L.a4][j]? := by
  unfold RdP at h
  simp only [World.cell?]
  rw [h]
  rfl
theorem RdP.c0 (h : RdP w R s k c hv L) : w.cell? ⟨R, 0, none⟩ = some (.string s) := h.cell 0
theorem RdP.c1 (h : RdP w R s k c hv L) : w.cell? ⟨R, 1, none⟩ = some (.int .i64 k) := h.cell 1
theorem RdP.c2 (h : RdP w R s k c hv L) : w.cell? ⟨R, 2, none⟩ = some (.int .i64 c) := h.cell 2
theorem RdP.c3 (h : RdP w R s k c hv L) : w.cell? ⟨R, 3, none⟩ = some hv := h.cell 3
theorem RdP.c4 (h : RdP w R s k c hv L) : w.cell? ⟨R, 4, none⟩ = some L.a0 := h.cell 4
theorem RdP.c5 (h : RdP w R s k c hv L) : w.cell? ⟨R, 5, none⟩ = some L.a1 := h.cell 5
theorem RdP.c6 (h : RdP w R s k c hv L) : w.cell? ⟨R, 6, none⟩ = some L.a2 := h.cell 6
theorem RdP.c7 (h : RdP w R s k c hv L) : w.cell? ⟨R, 7, none⟩ = some L.a3 := h.cell 7
theorem RdP.c8 (h : RdP w R s k c hv L) : w.cell? ⟨R, 8, none⟩ = some L.a4 := h.cell 8
theorem RdP.fz (h : RdP w R s k c hv L) (j : Nat) : w.frozen? ⟨R, j, none⟩ = false := by
  unfold RdP at h
  simp only [World.frozen?]
  rw [h]
  simp
theorem RdP.lt (h : RdP w R s k c hv L) : R < w.heap.size := (Array.getElem?_eq_some_iff.1 h).1
theorem RdP.set1 (h : RdP w R s k c hv L) (k' : Nat) : RdP (w.setCell ⟨R, 1, none⟩ (.int .i64 k')) R s k' c hv L := by
  unfold RdP at h ⊢
  simp [World.setCell, Array.getElem?_modify, h]
theorem RdP.set2 (h : RdP w R s k c hv L) (c' : Nat) : RdP (w.setCell ⟨R, 2, none⟩ (.int .i64 c')) R s k c' hv L := by
  unfold RdP at h ⊢
  simp [World.setCell, Array.getElem?_modify, h]
theorem RdP.set3 (h : RdP w R s k c hv L) (v : Value) : RdP (w.setCell ⟨R, 3, none⟩ v) R s k c v L := by
  unfold RdP at h ⊢
  simp [World.setCell, Array.getElem?_modify, h]
theorem RdP.set4 (h : RdP w R s k c hv L) (v : Value) : RdP (w.setCell ⟨R, 4, none⟩ v) R s k c hv ⟨v, L.a1, L.a2, L.a3, L.a4⟩ := by
  unfold RdP at h ⊢
  simp [World.setCell, Array.getElem?_modify, h]
theorem RdP.set5 (h : RdP w R s k c hv L) (v : Value) : RdP (w.setCell ⟨R, 5, none⟩ v) R s k c hv ⟨L.a0, v, L.a2, L.a3, L.a4⟩ := by
  unfold RdP at h ⊢
  simp [World.setCell, Array.getElem?_modify, h]
theorem RdP.set6 (h : RdP w R s k c hv L) (v : Value) : RdP (w.setCell ⟨R, 6, none⟩ v) R s k c hv ⟨L.a0, L.a1, v, L.a3, L.a4⟩ := by
  unfold RdP at h ⊢
  simp [World.setCell, Array.getElem?_modify, h]
theorem RdP.set7 (h : RdP w R s k c hv L) (v : Value) : RdP (w.setCell ⟨R, 7, none⟩ v) R s k c hv ⟨L.a0, L.a1, L.a2, v, L.a4⟩ := by
  unfold RdP at h ⊢
  simp [World.setCell, Array.getElem?_modify, h]
theorem RdP.set8 (h : RdP w R s k c hv L) (v : Value) : RdP (w.setCell ⟨R, 8, none⟩ v) R s k c hv ⟨L.a0, L.a1, L.a2, L.a3, v⟩ := by
  unfold RdP at h ⊢
  simp [World.setCell, Array.getElem?_modify, h]
theorem RdP.grown {w' : World} {r : Option Nat} (h : RdP w R s k c hv L) (hg : w.grownBy w' r) (hr : some R ≠ r) : RdP w' R s k c hv L := (hg.block R h.lt hr).trans h
theorem RdP.other {b j : Nat} (h : RdP w R s k c hv L) (hb : b ≠ R) (v : Value) : RdP (w.setCell ⟨b, j, none⟩ v) R s k c hv L := by
  unfold RdP at h ⊢
  simp only [World.setCell]
  rw [Array.getElem?_modify, if_neg hb]
  exact h
theorem RdP.alloc (h : RdP w R s k c hv L) (o : Obj) : RdP (w.alloc o) R s k c hv L := (Below.heap_alloc w o R h.lt).trans h
theorem RdP.below {w' : World} (h : RdP w R s k c hv L) (hb : Below w.heap.size w w') : RdP w' R s k c hv L := (hb.block R h.lt).trans h
end

def Fr.kind : Fr → Int
  | .arr _ => 6
  | .obj _ _ => 7
def Fr.keys : Fr → List (List UInt8)
  | .arr _ => []
  | .obj ks _ => ks
def Fr.kids : Fr → List NT
  | .arr acc => acc
  | .obj _ acc => acc

/-- an Array or Object that is begun, in memory: slices of its keys and kids, its kids' cells, the map of its keys -/
structure HRec where
  fr : Fr
  kv : Value
  cv : Value
  xs : List Value
  M : Nat
def HRec.cells (h : HRec) : List Value := [.int .i64 h.fr.kind, .int .i64 0, .string ⟨#[]⟩, h.kv, h.cv, .map (some h.M)]
def strV (k : List UInt8) : Value := .string ⟨k.toArray⟩

/-- own: to which of them a block belongs (0: to none: what lies there stays) -/
structure HInv (w : World) (N : Nat) (own : Nat → Nat) (i : Nat) (h : HRec) : Prop where
  keys : w.ownsRow N 9 1 h.kv h.fr.keys.length (h.fr.keys.map strV)
  keysT : ∀ g, h.kv.ownBlock = some g → own g = 3 * i + 2
  kids : w.ownsRow N 25 5 h.cv h.fr.kids.length h.xs
  kidsT : ∀ g, h.cv.ownBlock = some g → own g = 3 * i + 3
  map : ∃ (n : Nat) (D : DataW Unit), w.ownsMap Tryd.prog 9 (plainElem Tryd.prog 3) h.M n D ∧ n ≤ h.fr.keys.length ∧ IsMap D ∧ ∀ k, has D (.string k) = decide (k ∈ h.fr.keys)
  mapN : N ≤ h.M
  mapT : own h.M = 3 * i + 4
  cis : CIs (fun b => N ≤ b ∧ own b = 0) (32 - i) w h.fr.kids h.xs

theorem own_of_block {w w' : World} {base : Nat} {e : TypeId} {size : Nat} {v : Value} {n : Nat} {xs : List Value} (h : w.ownsRow base e size v n xs) (hb : ∀ g, v.ownBlock = some g → w'.heap[g]? = w.heap[g]?) : w'.ownsRow base e size v n xs := by
  refine ⟨h.1, ?_⟩
  rcases h.2 with hn | ⟨g, cap, cur, rfl, h1, hgg, rest⟩
  · exact .inl hn
  · exact .inr ⟨g, cap, cur, rfl, h1, (hb g rfl).trans hgg, rest⟩
theorem map_of_block {H : Type} {P : Program} {k : TypeId} {Q : Value → Option (DataW H × List MemPlace)} {b n : Nat} {D : DataW H} {w w' : World} (h : w.ownsMap P k Q b n D) (hb : w'.heap[b]? = w.heap[b]?) : w'.ownsMap P k Q b n D := by
  obtain ⟨es, clock, h1, F, h2, h3⟩ := h
  exact ⟨es, clock, hb.trans h1, F, h2, h3⟩

theorem HInv.kept {w w' : World} {N i : Nat} {own own' : Nat → Nat} {h : HRec} (hI : HInv w N own i h) (hs : w.heap.size ≤ w'.heap.size) (ho : ∀ b, b < w.heap.size → N ≤ b → (own b = 3 * i + 2 ∨ own b = 3 * i + 3 ∨ own b = 3 * i + 4 ∨ own b = 0) → own' b = own b)
    (hb : ∀ b, b < w.heap.size → N ≤ b → (own b = 3 * i + 2 ∨ own b = 3 * i + 3 ∨ own b = 3 * i + 4 ∨ own b = 0) → w'.heap[b]? = w.heap[b]?) : HInv w' N own' i h := by
  obtain ⟨keys, keysT, kids, kidsT, ⟨n, D, hm, hn, hD, hh⟩, mapN, mapT, cis⟩ := hI
  refine ⟨own_of_block keys ?_, ?_, own_of_block kids ?_, ?_, ⟨n, D, map_of_block hm (hb _ hm.lt mapN (by omega)), hn, hD, hh⟩, mapN, (ho _ hm.lt mapN (by omega)).trans mapT, cis.kept hs ?_⟩
  · intro g hv; have := keys.lt g hv; have := keysT g hv; exact hb g (by omega) (by omega) (by omega)
  · intro g hv; have h1 := keys.lt g hv; have h2 := keysT g hv; rw [ho g (by omega) (by omega) (by omega)]; exact h2
  · intro g hv; have := kids.lt g hv; have := kidsT g hv; exact hb g (by omega) (by omega) (by omega)
  · intro g hv; have h1 := kids.lt g hv; have h2 := kidsT g hv; rw [ho g (by omega) (by omega) (by omega)]; exact h2
  · intro b ⟨h1, h2⟩ hlt
    exact ⟨⟨h1, (ho b hlt h1 (by omega)).trans h2⟩, hb b hlt h1 (by omega)⟩

/-- what is begun and not ended, from without -/
structure Stk (w : World) (N : Nat) (own : Nat → Nat) (hv : Value) (hs : List HRec) (c : Nat) : Prop where
  row : w.ownsRow N 97 6 hv hs.length (hs.flatMap HRec.cells)
  rowT : ∀ g, hv.ownBlock = some g → own g = 1
  each : ∀ i (hi : i < hs.length), HInv w N own i hs[i]
  cnt : ∀ i (hi : i < hs.length), hs[i].fr.kids.length ≤ c
  deep : hs.length ≤ 32

theorem Stk.kept {w w' : World} {N c : Nat} {own own' : Nat → Nat} {hv : Value} {hs : List HRec} (hI : Stk w N own hv hs c) (hz : w.heap.size ≤ w'.heap.size) (ho : ∀ b, b < w.heap.size → own' b = own b)
    (hb : ∀ b, b < w.heap.size → N ≤ b → w'.heap[b]? = w.heap[b]?) : Stk w' N own' hv hs c := by
  refine ⟨own_of_block hI.row (fun g hg => hb g (hI.row.lt g hg).2 (hI.row.lt g hg).1), ?_, fun i hi => (hI.each i hi).kept hz (fun b h1 _ _ => ho b h1) (fun b h1 h2 _ => hb b h1 h2), hI.cnt, hI.deep⟩
  intro g h; rw [ho _ (hI.row.lt g h).2]; exact hI.rowT g h
theorem Stk.row1 {w w' : World} {R c : Nat} {own : Nat → Nat} {hv : Value} {hs : List HRec} (hI : Stk w (R + 1) own hv hs c) (hg : w.grownBy w' (some R)) : Stk w' (R + 1) own hv hs c :=
  hI.kept hg.size (fun _ _ => rfl) (fun b h1 h2 => hg.block b h1 (by simp; omega))
theorem Stk.below {w w' : World} {R c : Nat} {own : Nat → Nat} {hv : Value} {hs : List HRec} (hI : Stk w (R + 1) own hv hs c) (hg : Below w.heap.size w w') : Stk w' (R + 1) own hv hs c :=
  hI.kept hg.size (fun _ _ => rfl) (fun b h1 _ => hg.block b h1)
theorem Stk.more {w : World} {N c c' : Nat} {own : Nat → Nat} {hv : Value} {hs : List HRec} (h : Stk w N own hv hs c) (hc : c ≤ c') : Stk w N own hv hs c' :=
  ⟨h.row, h.rowT, h.each, fun i hi => Nat.le_trans (h.cnt i hi) hc, h.deep⟩
theorem Stk.nil (w : World) (N : Nat) (own : Nat → Nat) (c : Nat) : Stk w N own (.slice none 0 0) [] c :=
  ⟨World.ownsRow_nil _ _ _ _, fun g h => by simp [Value.ownBlock] at h, fun i hi => absurd hi (by simp), fun i hi => absurd hi (by simp), by simp⟩

/-- the frames, the innermost first -/
def frs (hs : List HRec) : List Fr := (hs.map HRec.fr).reverse
theorem frs_snoc (hs : List HRec) (h : HRec) : frs (hs ++ [h]) = h.fr :: frs hs := by simp [frs]
theorem frs_len (hs : List HRec) : (frs hs).length = hs.length := by simp [frs]

theorem cells_len (hs : List HRec) : (hs.flatMap HRec.cells).length = hs.length * 6 := by
  induction hs with
  | nil => rfl
  | cons h t ih => rw [List.flatMap_cons, List.length_append, ih, List.length_cons]; simp [HRec.cells]; omega
theorem cells_snoc (hs : List HRec) (h : HRec) : (hs ++ [h]).flatMap HRec.cells = hs.flatMap HRec.cells ++ h.cells := by simp [List.flatMap_append]

end Go.Proofs.YtlaagdpanbineaaDoor

/- The program's reader of JSON: blanks, take, begin, end. -/
namespace Go.Proofs.YtlaagdpanbineaaDoor
open Go.RowKit

def atP (w : World) (R : Nat) : Nat := match w.cell? ⟨R, 1, none⟩ with
  | some (.int _ n) => n.toNat
  | _ => 0
theorem RdP.at {w : World} {R : Nat} {s : ByteArray} {k c : Nat} {hv : Value} {L : LV} (h : RdP w R s k c hv L) : atP w R = k := by unfold atP; rw [h.c1]; rfl

set_option maxRecDepth 100000 in
set_option maxHeartbeats 1000000 in
theorem blanks_any (R : Nat) (s : ByteArray) (k c : Nat) (hv : Value) (L : LV) (w : World) (h : RdP w R s k c hv L) (hs : s.size ≤ 200000) (hk : k ≤ s.size) :
    Calls Tryd.prog 51 #[.pointer (some ⟨R, 0, none⟩)] w fun x w' => x = .returned (.tuple #[]) ∧ ∃ k', RdP w' R s k' c hv L ∧ k' ≤ s.size ∧ s.data.toList.drop k' = skipB (s.data.toList.drop k) ∧ w.grownBy w' (some R) := by
  have H0 := Lib.hid h
  clear h
  go_enter Tryd.func51, Tryd.ntmps51
  go_wp2
  go_loopw [] (fun wr => ∃ k' : Nat, Hid (RdP wr R s k' c hv L) ∧ k' ≤ s.size ∧ Hid (skipB (s.data.toList.drop k') = skipB (s.data.toList.drop k)) ∧ w.grownBy wr (some R)) (fun wr => s.size - atP wr R)
  case atStart => exact ⟨k, H0, hk, rfl, gb_refl _ _⟩
  case round =>
    obtain ⟨k', HR, hk2, HS, hg⟩ := hrel
    have c0 := HR.out.c0
    have c1 := HR.out.c1
    have f1 := HR.out.fz 1
    by_cases hlt : k' < s.size
    · have hd := drop_hd hlt
      by_cases hb : isBl s[k']
      · have HS2 : Hid (skipB (s.data.toList.drop (k' + 1)) = skipB (s.data.toList.drop k)) := by
          show _ = _
          rw [← HS.out, hd]
          conv => rhs; unfold skipB
          rw [if_pos hb]
        have HX : Hid (RdP (wr.setCell ⟨R, 1, none⟩ (.int .i64 ((k' + 1 : Nat) : Int))) R s (k' + 1) c hv L) := HR.out.set1 (k' + 1)
        have hc : ((k' + 1 : Nat) : Int) = (k' : Int) + 1 := by omega
        rw [hc] at HX
        have HM := Lib.hid HR.out.at
        clear hd hc
        rcases hb with hb | hb | hb | hb
        · have t9 : ((s[k'].toNat : Int) == 9) = true := by rw [hb]; rfl
          clear hb
          go_wp2
          go_quiet (fail)
          go_wp2
          go_quiet (fail)
          go_wp2
          go_roundw
          case rel => exact ⟨k' + 1, HX, by omega, HS2, gb_set (gb_same hg) _⟩
          case measure =>
            rw [HM.out]
            have := HX.out.at
            show s.size - atP (wr.setCell ⟨R, 1, none⟩ (.int .i64 ((k' : Int) + 1))) R < _
            rw [this]
            omega
        · have t9 : ((s[k'].toNat : Int) == 9) = false := by rw [hb]; rfl
          have t10 : ((s[k'].toNat : Int) == 10) = true := by rw [hb]; rfl
          clear hb
          go_wp2
          go_quiet (fail)
          go_wp2
          go_quiet (fail)
          go_wp2
          go_roundw
          case rel => exact ⟨k' + 1, HX, by omega, HS2, gb_set (gb_same hg) _⟩
          case measure =>
            rw [HM.out]
            have := HX.out.at
            show s.size - atP (wr.setCell ⟨R, 1, none⟩ (.int .i64 ((k' : Int) + 1))) R < _
            rw [this]
            omega
        · have t9 : ((s[k'].toNat : Int) == 9) = false := by rw [hb]; rfl
          have t10 : ((s[k'].toNat : Int) == 10) = false := by rw [hb]; rfl
          have t13 : ((s[k'].toNat : Int) == 13) = true := by rw [hb]; rfl
          clear hb
          go_wp2
          go_quiet (fail)
          go_wp2
          go_quiet (fail)
          go_wp2
          go_roundw
          case rel => exact ⟨k' + 1, HX, by omega, HS2, gb_set (gb_same hg) _⟩
          case measure =>
            rw [HM.out]
            have := HX.out.at
            show s.size - atP (wr.setCell ⟨R, 1, none⟩ (.int .i64 ((k' : Int) + 1))) R < _
            rw [this]
            omega
        · have t9 : ((s[k'].toNat : Int) == 9) = false := by rw [hb]; rfl
          have t10 : ((s[k'].toNat : Int) == 10) = false := by rw [hb]; rfl
          have t13 : ((s[k'].toNat : Int) == 13) = false := by rw [hb]; rfl
          have t32 : ((s[k'].toNat : Int) == 32) = true := by rw [hb]; rfl
          clear hb
          go_wp2
          go_quiet (fail)
          go_wp2
          go_quiet (fail)
          go_wp2
          go_roundw
          case rel => exact ⟨k' + 1, HX, by omega, HS2, gb_set (gb_same hg) _⟩
          case measure =>
            rw [HM.out]
            have := HX.out.at
            show s.size - atP (wr.setCell ⟨R, 1, none⟩ (.int .i64 ((k' : Int) + 1))) R < _
            rw [this]
            omega
      · have hE : Hid (s.data.toList.drop k' = skipB (s.data.toList.drop k)) := by
          show _ = _
          rw [← HS.out, hd]
          conv => rhs; unfold skipB
          rw [if_neg hb]
        unfold isBl at hb
        have t9 : ((s[k'].toNat : Int) == 9) = false := by simp; omega
        have t10 : ((s[k'].toNat : Int) == 10) = false := by simp; omega
        have t13 : ((s[k'].toNat : Int) == 13) = false := by simp; omega
        have t32 : ((s[k'].toNat : Int) == 32) = false := by simp; omega
        clear hd hb
        go_wp2
        go_quiet (fail)
        go_wp2
        go_quiet (fail)
        go_wp2
        refine bodyPost_ret (v := .tuple #[]) (by simp [results, Tryd.results51, go_sem]) rfl ?_
        exact ⟨rfl, k', HR.out, hk2, hE.out, gb_same hg⟩
    · have hE : Hid (s.data.toList.drop k' = skipB (s.data.toList.drop k)) := by
        show _ = _
        rw [← HS.out, drop_nl hlt]
        rfl
      go_wp2
      go_quiet (fail)
      go_wp2
      go_end0
      exact ⟨rfl, k', HR.out, hk2, hE.out, gb_same hg⟩

theorem drop_eq_nil {s : ByteArray} {k : Nat} (hk : k ≤ s.size) (h : s.data.toList.drop k = []) : k = s.size := by
  rw [List.drop_eq_nil_iff, size_list] at h
  omega
theorem drop_at {s : ByteArray} {k : Nat} {y : UInt8} {u : List UInt8} (h : s.data.toList.drop k = y :: u) : ∃ hlt : k < s.size, s[k] = y := by
  have hlt := (drop_cons h).1
  have h2 := drop_hd hlt
  rw [h] at h2
  simp only [List.cons.injEq] at h2
  exact ⟨hlt, h2.1.symm⟩

/-- blanks, and where that leads -/
theorem blanks_hd (R : Nat) (s : ByteArray) (k c : Nat) (hv : Value) (L : LV) (w : World) (h : RdP w R s k c hv L) (hs : s.size ≤ 200000) (hk : k ≤ s.size) :
    Calls Tryd.prog 51 #[.pointer (some ⟨R, 0, none⟩)] w fun x w' => x = .returned (.tuple #[]) ∧ ∃ k', Hid (RdP w' R s k' c hv L) ∧ k' ≤ s.size ∧ Hid (s.data.toList.drop k' = skipB (s.data.toList.drop k)) ∧ Hid (w.grownBy w' (some R)) :=
  (blanks_any R s k c hv L w h hs hk).mono fun _ _ ⟨hx, k', h1, h2, h3, h4⟩ => ⟨hx, k', h1, h2, h3, h4⟩

set_option maxRecDepth 100000 in
set_option maxHeartbeats 1000000 in
theorem take_yes (R : Nat) (s : ByteArray) (k c b : Nat) (hv : Value) (L : LV) (w : World) (h : RdP w R s k c hv L) (hs : s.size ≤ 200000) (hk : k ≤ s.size) {y : UInt8} {u : List UInt8} (hy : skipB (s.data.toList.drop k) = y :: u) (hb : y.toNat = b) :
    Calls Tryd.prog 33 #[.pointer (some ⟨R, 0, none⟩), .int .u8 b] w fun x w' => x = .returned (.bool true) ∧ ∃ k', RdP w' R s k' c hv L ∧ k' ≤ s.size ∧ s.data.toList.drop k' = u ∧ w.grownBy w' (some R) := by
  have hB := blanks_hd R s k c hv L w h hs hk
  have HY := Lib.hid hy
  have HB := Lib.hid hb
  clear h hy hb
  go_enter Tryd.func33, Tryd.ntmps33
  go_wp2_with fail
  refine hB.mono ?_
  rintro x w1 ⟨rfl, k1, HR, hk1, HD, HG⟩
  clear hB
  obtain ⟨hlt, hs1⟩ := drop_at (HD.out.trans HY.out)
  have HU := Lib.hid (drop_cons (HD.out.trans HY.out)).2
  have c0 := HR.out.c0
  have c1 := HR.out.c1
  have f1 := HR.out.fz 1
  have q1 : ((k1 : Int) == (s.size : Int)) = false := by simp; omega
  have q2 : ((s[k1].toNat : Int) != (b : Int)) = false := by rw [hs1, HB.out]; simp
  have hs2 := HR.out.set1 (k1 + 1)
  have hc : ((k1 + 1 : Nat) : Int) = (k1 : Int) + 1 := by omega
  rw [hc] at hs2
  have HS2 := Lib.hid hs2
  clear hs2 hc hs1
  go_wp2
  go_quiet (fail)
  go_wp2
  go_ret
  exact ⟨rfl, k1 + 1, HS2.out, by omega, HU.out.symm, gb_set (gb_same HG.out) _⟩

set_option maxRecDepth 100000 in
set_option maxHeartbeats 1000000 in
theorem take_no (R : Nat) (s : ByteArray) (k c b : Nat) (hv : Value) (L : LV) (w : World) (h : RdP w R s k c hv L) (hs : s.size ≤ 200000) (hk : k ≤ s.size) (hy : NoB (s.data.toList.drop k) b) :
    Calls Tryd.prog 33 #[.pointer (some ⟨R, 0, none⟩), .int .u8 b] w fun x w' => x = .returned (.bool false) ∧ ∃ k', RdP w' R s k' c hv L ∧ k' ≤ s.size ∧ s.data.toList.drop k' = skipB (s.data.toList.drop k) ∧ w.grownBy w' (some R) := by
  have hB := blanks_hd R s k c hv L w h hs hk
  have HY := Lib.hid hy
  clear h hy
  go_enter Tryd.func33, Tryd.ntmps33
  go_wp2_with fail
  refine hB.mono ?_
  rintro x w1 ⟨rfl, k1, HR, hk1, HD, HG⟩
  clear hB
  have c0 := HR.out.c0
  have c1 := HR.out.c1
  by_cases hlt : k1 < s.size
  · have q1 : ((k1 : Int) == (s.size : Int)) = false := by simp; omega
    have hh := drop_hd hlt
    have hne := HY.out _ _ (HD.out.symm.trans hh)
    have q2 : ((s[k1].toNat : Int) != (b : Int)) = true := by simp; omega
    clear hh hne
    go_wp2
    go_quiet (fail)
    go_wp2
    go_ret
    exact ⟨rfl, k1, HR.out, hk1, HD.out, gb_same HG.out⟩
  · have q1 : ((k1 : Int) == (s.size : Int)) = true := by simp; omega
    go_wp2
    go_quiet (fail)
    go_wp2
    go_ret
    exact ⟨rfl, k1, HR.out, hk1, HD.out, gb_same HG.out⟩

end Go.Proofs.YtlaagdpanbineaaDoor

/- The program's reader of JSON: what enter, leave, keep and key do to what is begun (worlds alone, no walk). -/
namespace Go.Proofs.YtlaagdpanbineaaDoor
open Go.RowKit Go.Maps

theorem getElem_snoc {α : Type} (l : List α) (x : α) {i : Nat} (hi : i < (l ++ [x]).length) : (l ++ [x])[i] = if h : i < l.length then l[i] else x := by
  split
  · rename_i h; rw [List.getElem_append_left h]
  · rename_i h
    have : i = l.length := by simp at hi; omega
    subst this
    simp

theorem stk_snoc {w : World} {N : Nat} {own : Nat → Nat} {hv : Value} {hs : List HRec} {h : HRec} {c : Nat} (row : w.ownsRow N 97 6 hv (hs ++ [h]).length ((hs ++ [h]).flatMap HRec.cells)) (rowT : ∀ g, hv.ownBlock = some g → own g = 1)
    (each : ∀ i (hi : i < hs.length), HInv w N own i hs[i]) (top : HInv w N own hs.length h) (cnt : ∀ i (hi : i < hs.length), hs[i].fr.kids.length ≤ c) (ctop : h.fr.kids.length ≤ c) (deep : hs.length < 32) : Stk w N own hv (hs ++ [h]) c := by
  refine ⟨row, rowT, ?_, ?_, by simp; omega⟩
  · intro i hi
    rw [getElem_snoc]
    split
    · rename_i hl; exact each i hl
    · rename_i hl
      have : i = hs.length := by simp at hi; omega
      subst this; exact top
  · intro i hi
    rw [getElem_snoc]
    split
    · rename_i hl; exact cnt i hl
    · exact ctop
theorem Stk.low {w : World} {N : Nat} {own : Nat → Nat} {hv : Value} {hs : List HRec} {h : HRec} {c : Nat} (hS : Stk w N own hv (hs ++ [h]) c) : (∀ i (hi : i < hs.length), HInv w N own i hs[i]) ∧ HInv w N own hs.length h ∧ (∀ i (hi : i < hs.length), hs[i].fr.kids.length ≤ c) ∧ h.fr.kids.length ≤ c ∧ hs.length < 32 := by
  refine ⟨fun i hi => ?_, ?_, fun i hi => ?_, ?_, ?_⟩
  · have := hS.each i (by simp; omega)
    rwa [getElem_snoc, dif_pos hi] at this
  · have := hS.each hs.length (by simp)
    rwa [getElem_snoc, dif_neg (by omega)] at this
  · have := hS.cnt i (by simp; omega)
    rwa [getElem_snoc, dif_pos hi] at this
  · have := hS.cnt hs.length (by simp)
    rwa [getElem_snoc, dif_neg (by omega)] at this
  · have := hS.deep; simp at this; omega

/-- new blocks belong to tag t -/
def ownU (n : Nat) (own : Nat → Nat) (t b : Nat) : Nat := if b < n then own b else t
theorem ownU_lt {n t b : Nat} {own : Nat → Nat} (h : b < n) : ownU n own t b = own b := if_pos h
theorem ownU_ge {n t b : Nat} {own : Nat → Nat} (h : n ≤ b) : ownU n own t b = t := if_neg (by omega)
/-- .. the first of them to tag t, the others to tag 1 -/
def ownE (n : Nat) (own : Nat → Nat) (t b : Nat) : Nat := if b < n then own b else if b = n then t else 1
theorem ownE_lt {n t b : Nat} {own : Nat → Nat} (h : b < n) : ownE n own t b = own b := if_pos h
theorem ownE_eq {n t : Nat} {own : Nat → Nat} : ownE n own t n = t := by unfold ownE; rw [if_neg (by omega), if_pos rfl]
theorem ownE_gt {n t b : Nat} {own : Nat → Nat} (h : n < b) : ownE n own t b = 1 := by unfold ownE; rw [if_neg (by omega), if_neg (by omega)]
/-- what belonged to the i-th belongs to none -/
def ownL (own : Nat → Nat) (i b : Nat) : Nat := if own b = 3 * i + 2 ∨ own b = 3 * i + 3 ∨ own b = 3 * i + 4 then 0 else own b
theorem ownL_in {i b : Nat} {own : Nat → Nat} (h : own b = 3 * i + 2 ∨ own b = 3 * i + 3 ∨ own b = 3 * i + 4) : ownL own i b = 0 := if_pos h
theorem ownL_out {i b : Nat} {own : Nat → Nat} (h : ¬ (own b = 3 * i + 2 ∨ own b = 3 * i + 3 ∨ own b = 3 * i + 4)) : ownL own i b = own b := if_neg h

/-- begun: nothing in it -/
def fresh (fr : Fr) : Prop := fr.keys = [] ∧ fr.kids = []
theorem enter_stk {w w' : World} {R c M : Nat} {own : Nat → Nat} {hv hv' : Value} {hs : List HRec} {fr : Fr} (hS : Stk w (R + 1) own hv hs c) (hf : fresh fr) (hn : hs.length < 32) (hM : w.heap.size = M) (hR : R < w.heap.size) (hz : w.heap.size < w'.heap.size)
    (hmap : w'.ownsMap Tryd.prog 9 (plainElem (H := Unit) Tryd.prog 3) M 0 (.map []))
    (hrow : w'.ownsRow (R + 1) 97 6 hv' (hs.length + 1) (hs.flatMap HRec.cells ++ [.int .i64 fr.kind, .int .i64 0, .string ⟨#[]⟩, .slice none 0 0, .slice none 0 0, .map (some M)]))
    (hat : ∀ g, hv'.ownBlock = some g → hv.ownBlock = some g ∨ M < g)
    (hb : ∀ b, b < w.heap.size → R + 1 ≤ b → some b ≠ hv.ownBlock → w'.heap[b]? = w.heap[b]?) :
    ∃ own', Stk w' (R + 1) own' hv' (hs ++ [⟨fr, .slice none 0 0, .slice none 0 0, [], M⟩]) c := by
  subst hM
  refine ⟨ownE w.heap.size own (3 * hs.length + 4), ?_⟩
  have hkept : ∀ i (hi : i < hs.length), HInv w' (R + 1) (ownE w.heap.size own (3 * hs.length + 4)) i hs[i] := fun i hi => (hS.each i hi).kept (by omega) (fun b h1 _ _ => ownE_lt h1)
    (fun b h1 h2 h3 => hb b h1 h2 (fun e => by have := hS.rowT b e.symm; omega))
  refine stk_snoc ?_ ?_ hkept ?_ hS.cnt (by show fr.kids.length ≤ c; rw [hf.2]; simp) hn
  · rw [cells_snoc, List.length_append]; exact hrow
  · intro g hg
    rcases hat g hg with h | h
    · rw [ownE_lt (hS.row.lt g h).2]; exact hS.rowT g h
    · exact ownE_gt h
  · refine ⟨?_, fun g h => by simp [Value.ownBlock] at h, ?_, fun g h => by simp [Value.ownBlock] at h, ⟨0, _, hmap, by simp, isMap_empty, fun k => ?_⟩, by show R + 1 ≤ w.heap.size; omega, ?_, ?_⟩
    · show w'.ownsRow _ _ _ _ fr.keys.length (fr.keys.map strV); rw [hf.1]; exact World.ownsRow_nil _ _ _ _
    · show w'.ownsRow _ _ _ _ fr.kids.length []; rw [hf.2]; exact World.ownsRow_nil _ _ _ _
    · show _ = decide (k ∈ fr.keys); rw [hf.1]; simp [has]
    · exact ownE_eq
    · show CIs _ _ _ fr.kids []; rw [hf.2]; exact CIs.nil _ _ _

/-- a row without its last holder -/
theorem own_pop {w : World} {N : Nat} {hv : Value} {hs : List HRec} {h : HRec} (row : w.ownsRow N 97 6 hv (hs ++ [h]).length ((hs ++ [h]).flatMap HRec.cells)) : ∃ g cap, hv = .slice (some ⟨g, 0, none⟩) (hs.length + 1) cap ∧ N ≤ g ∧ g < w.heap.size ∧ w.ownsRow N 97 6 (.slice (some ⟨g, 0, none⟩) hs.length cap) hs.length (hs.flatMap HRec.cells) := by
  rw [cells_snoc, List.length_append] at row
  obtain ⟨g, cap, hv', h1, h2⟩ := row.form (by simp)
  subst hv'
  exact ⟨g, cap, rfl, h1, h2, ownsRow_pop (cells_len hs) row⟩

theorem leave_stk {w : World} {R c g cap : Nat} {own : Nat → Nat} {hs : List HRec} {h : HRec} (hS : Stk w (R + 1) own (.slice (some ⟨g, 0, none⟩) (hs.length + 1) cap) (hs ++ [h]) c) :
    ∃ own', Stk w (R + 1) own' (.slice (some ⟨g, 0, none⟩) hs.length cap) hs c ∧ NIs (fun b => R + 1 ≤ b ∧ own' b = 0) (33 - hs.length) w (.mk h.fr.kind 0 [] h.fr.keys h.fr.kids) (LV.v ⟨.int .i64 h.fr.kind, .int .i64 0, .string ⟨#[]⟩, h.kv, h.cv⟩) := by
  obtain ⟨low, top, cnt, _, hd⟩ := hS.low
  obtain ⟨g', cap', e, h1, h2, hpop⟩ := own_pop hS.row
  injection e with e1 e2 e3
  injection e1 with e1
  injection e1 with e1
  subst e1 e3
  refine ⟨ownL own hs.length, ⟨hpop, ?_, ?_, cnt, by omega⟩, ?_⟩
  · intro b hb
    have := hS.rowT b hb
    rw [ownL_out (by omega)]; exact this
  · intro i hi
    refine (low i hi).kept (Nat.le_refl _) (fun b _ _ h3 => ?_) (fun _ _ _ _ => rfl)
    exact ownL_out (by omega)
  · rw [show 33 - hs.length = (32 - hs.length) + 1 by omega]
    refine NIs.of_own (kids := h.fr.kids) (t := []) top.kids (top.cis.kept (Nat.le_refl _) (fun b hb _ => ⟨⟨hb.1, ?_⟩, rfl⟩)) ?_ ?_
    · rw [ownL_out (by omega)]; exact hb.2
    · intro b hb
      refine ⟨(top.kids.lt b hb).1, ?_⟩
      exact ownL_in (.inr (.inl (top.kidsT b hb)))
    · rcases top.keys.2 with ⟨hk, h0⟩ | ⟨q, cap2, cur, hk, q1, q2, q3, q4, q5, q6⟩
      · exact ⟨none, 0, by rw [hk, h0], .inl (List.eq_nil_of_length_eq_zero h0)⟩
      · refine ⟨_, cap2, hk, .inr ⟨q, 0, rfl, ⟨q1, ?_⟩, (Array.getElem?_eq_some_iff.1 q2).1, fun j hj => ?_⟩⟩
        · exact ownL_in (.inl (top.keysT q (by rw [hk]; rfl)))
        · have ho := top.keys
          rw [hk] at ho
          rw [Nat.zero_add, ho.cellAt j (by omega)]
          simp [hj, strV, List.getD]

def Fr.push (t : NT) : Fr → Fr
  | .arr acc => .arr (acc ++ [t])
  | .obj ks acc => .obj ks (acc ++ [t])
theorem push_kids (t : NT) (fr : Fr) : (fr.push t).kids = fr.kids ++ [t] := by cases fr <;> rfl
theorem push_keys (t : NT) (fr : Fr) : (fr.push t).keys = fr.keys := by cases fr <;> rfl
theorem push_kind (t : NT) (fr : Fr) : (fr.push t).kind = fr.kind := by cases fr <;> rfl

def HRec.pushed (h : HRec) (t : NT) (cv : Value) (L : LV) : HRec := { h with fr := h.fr.push t, cv := cv, xs := h.xs ++ [L.a0, L.a1, L.a2, L.a3, L.a4] }

theorem keep_stk {w w' : World} {R c g hcap gg cap : Nat} {own : Nat → Nat} {hs : List HRec} {h : HRec} {t : NT} {L : LV} (hS : Stk w (R + 1) own (.slice (some ⟨g, 0, none⟩) (hs.length + 1) hcap) (hs ++ [h]) c)
    (hL : NIs (fun b => R + 1 ≤ b ∧ own b = 0) (32 - hs.length) w t L.v) (hz : w.heap.size ≤ w'.heap.size) (hat : h.cv.ownBlock = some gg ∨ w.heap.size ≤ gg)
    (hkids : w'.ownsRow (R + 1) 25 5 (.slice (some ⟨gg, 0, none⟩) (h.fr.kids.length + 1) cap) (h.fr.kids.length + 1) (h.xs ++ [L.a0, L.a1, L.a2, L.a3, L.a4]))
    (hrow : w'.ownsRow (R + 1) 97 6 (.slice (some ⟨g, 0, none⟩) (hs.length + 1) hcap) (hs.length + 1) ((hs ++ [h.pushed t (.slice (some ⟨gg, 0, none⟩) (h.fr.kids.length + 1) cap) L]).flatMap HRec.cells))
    (hb : ∀ b, b < w.heap.size → R + 1 ≤ b → some b ≠ h.cv.ownBlock → b ≠ g → w'.heap[b]? = w.heap[b]?) (hc : h.fr.kids.length < c) :
    ∃ own', Stk w' (R + 1) own' (.slice (some ⟨g, 0, none⟩) (hs.length + 1) hcap) (hs ++ [h.pushed t (.slice (some ⟨gg, 0, none⟩) (h.fr.kids.length + 1) cap) L]) c := by
  obtain ⟨low, top, cnt, ct, hd⟩ := hS.low
  have hg1 : own g = 1 := hS.rowT g rfl
  have hgl := hS.row.lt g rfl
  refine ⟨ownU w.heap.size own (3 * hs.length + 3), ?_⟩
  have ho : ∀ b, b < w.heap.size → ownU w.heap.size own (3 * hs.length + 3) b = own b := fun b hb => ownU_lt hb
  refine stk_snoc (by rw [List.length_append]; exact hrow) (fun b hb2 => by rw [ho b (hS.row.lt b hb2).2]; exact hS.rowT b hb2) (fun i hi => (low i hi).kept hz (fun b h1 _ _ => ho b h1) (fun b h1 h2 h3 => hb b h1 h2 (fun e => ?_) (fun e => ?_))) ?_ cnt ?_ hd
  · have := top.kidsT b e.symm; omega
  · subst e; omega
  · obtain ⟨keys, keysT, kids, kidsT, ⟨n, D, hm, hn, hD, hh⟩, mapN, mapT, cis⟩ := top
    refine ⟨?_, ?_, ?_, ?_, ⟨n, D, map_of_block hm (hb _ hm.lt mapN (fun e => ?_) (fun e => ?_)), ?_, hD, ?_⟩, mapN, (ho _ hm.lt).trans mapT, ?_⟩
    · show w'.ownsRow _ _ _ h.kv (h.fr.push t).keys.length ((h.fr.push t).keys.map strV)
      rw [push_keys]
      refine own_of_block keys (fun b e => hb b (keys.lt b e).2 (keys.lt b e).1 (fun e2 => ?_) (fun e2 => ?_))
      · have := kidsT b e2.symm; have := keysT b e; omega
      · have := keysT b e; subst e2; omega
    · intro b e; rw [ho b (keys.lt b e).2]; exact keysT b e
    · show w'.ownsRow _ _ _ _ (h.fr.push t).kids.length _
      rw [push_kids, List.length_append]; exact hkids
    · intro b e
      obtain rfl : gg = b := by injection e
      rcases hat with e | e
      · rw [ho gg (kids.lt gg e).2]; exact kidsT gg e
      · exact ownU_ge e
    · have h9 : own h.M = 3 * hs.length + 3 := kidsT h.M e.symm
      omega
    · have e2 : own h.M = own g := congrArg own e
      omega
    · show n ≤ (h.fr.push t).keys.length; rw [push_keys]; exact hn
    · intro k; show _ = decide (k ∈ (h.fr.push t).keys); rw [push_keys]; exact hh k
    · show CIs _ _ w' (h.fr.push t).kids (h.xs ++ [L.a0, L.a1, L.a2, L.a3, L.a4])
      rw [push_kids]
      have hk : ∀ b, (R + 1 ≤ b ∧ own b = 0) → b < w.heap.size → (R + 1 ≤ b ∧ ownU w.heap.size own (3 * hs.length + 3) b = 0) ∧ w'.heap[b]? = w.heap[b]? := fun b hb1 hb2 =>
        ⟨⟨hb1.1, (ho b hb2).trans hb1.2⟩, hb b hb2 hb1.1 (fun e => by have := kidsT b e.symm; omega) (fun e => by subst e; omega)⟩
      exact CIs.snoc (cis.kept hz hk) (hL.kept hz hk)
  · show (h.fr.push t).kids.length ≤ c
    rw [push_kids, List.length_append]; simp; omega

def HRec.keyed (h : HRec) (k : List UInt8) (kv : Value) : HRec := { h with fr := .obj (h.fr.keys ++ [k]) h.fr.kids, kv := kv }
theorem key_stk {w w' : World} {R c g hcap gg cap n : Nat} {own : Nat → Nat} {hs : List HRec} {h : HRec} {k : List UInt8} {D : DataW Unit} (hS : Stk w (R + 1) own (.slice (some ⟨g, 0, none⟩) (hs.length + 1) hcap) (hs ++ [h]) c)
    (hz : w.heap.size ≤ w'.heap.size) (hat : h.kv.ownBlock = some gg ∨ w.heap.size ≤ gg)
    (hkeys : w'.ownsRow (R + 1) 9 1 (.slice (some ⟨gg, 0, none⟩) (h.fr.keys.length + 1) cap) (h.fr.keys.length + 1) (h.fr.keys.map strV ++ [strV k]))
    (hmap : w'.ownsMap Tryd.prog 9 (plainElem Tryd.prog 3) h.M n D) (hn : n ≤ h.fr.keys.length + 1) (hD : IsMap D) (hh : ∀ k', has D (.string k') = decide (k' ∈ h.fr.keys ++ [k]))
    (hrow : w'.ownsRow (R + 1) 97 6 (.slice (some ⟨g, 0, none⟩) (hs.length + 1) hcap) (hs.length + 1) ((hs ++ [h.keyed k (.slice (some ⟨gg, 0, none⟩) (h.fr.keys.length + 1) cap)]).flatMap HRec.cells))
    (hb : ∀ b, b < w.heap.size → R + 1 ≤ b → some b ≠ h.kv.ownBlock → b ≠ g → b ≠ h.M → w'.heap[b]? = w.heap[b]?) :
    ∃ own', Stk w' (R + 1) own' (.slice (some ⟨g, 0, none⟩) (hs.length + 1) hcap) (hs ++ [h.keyed k (.slice (some ⟨gg, 0, none⟩) (h.fr.keys.length + 1) cap)]) c := by
  obtain ⟨low, top, cnt, ct, hd⟩ := hS.low
  have hg1 : own g = 1 := hS.rowT g rfl
  have hgl := hS.row.lt g rfl
  refine ⟨ownU w.heap.size own (3 * hs.length + 2), ?_⟩
  have ho : ∀ b, b < w.heap.size → ownU w.heap.size own (3 * hs.length + 2) b = own b := fun b hb => ownU_lt hb
  refine stk_snoc (by rw [List.length_append]; exact hrow) (fun b hb2 => by rw [ho b (hS.row.lt b hb2).2]; exact hS.rowT b hb2) (fun i hi => (low i hi).kept hz (fun b h1 _ _ => ho b h1) (fun b h1 h2 h3 => hb b h1 h2 (fun e => ?_) (fun e => ?_) (fun e => ?_))) ?_ cnt ct hd
  · have := top.keysT b e.symm; omega
  · subst e; omega
  · have := top.mapT; subst e; omega
  · obtain ⟨keys, keysT, kids, kidsT, ⟨n0, D0, hm, hn0, hD0, hh0⟩, mapN, mapT, cis⟩ := top
    refine ⟨?_, ?_, ?_, ?_, ⟨n, D, hmap, ?_, hD, hh⟩, mapN, (ho _ hm.lt).trans mapT, ?_⟩
    · show w'.ownsRow _ _ _ _ (h.fr.keys ++ [k]).length ((h.fr.keys ++ [k]).map strV)
      rw [List.length_append, List.map_append]; exact hkeys
    · intro b e
      obtain rfl : gg = b := by injection e
      rcases hat with e | e
      · rw [ho gg (keys.lt gg e).2]; exact keysT gg e
      · exact ownU_ge e
    · refine own_of_block kids (fun b e => hb b (kids.lt b e).2 (kids.lt b e).1 (fun e2 => ?_) (fun e2 => ?_) (fun e2 => ?_))
      · have := keysT b e2.symm; have := kidsT b e; omega
      · have := kidsT b e; subst e2; omega
      · have := kidsT b e; subst e2; omega
    · intro b e; exact (ho b (kids.lt b e).2).trans (kidsT b e)
    · show n ≤ (h.fr.keys ++ [k]).length
      rw [List.length_append]; exact hn
    · exact cis.kept hz (fun b hb1 hb2 => ⟨⟨hb1.1, (ho b hb2).trans hb1.2⟩, hb b hb2 hb1.1 (fun e => by have := keysT b e.symm; omega) (fun e => by subst e; omega) (fun e => by subst e; omega)⟩)

end Go.Proofs.YtlaagdpanbineaaDoor

