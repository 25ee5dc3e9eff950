/- What a call leaves in memory; variables of a value's type; lists (general). -/
import Derived.Test.YtnlpdpbmmpeiaaaDoorJm
import Derived.Below
import Derived.Deep.AppendLies
import Derived.WalkKit
namespace Go.Proofs.YtnlpdpbmmpeiaaaDoor
open Go.RowKit

theorem gb_refl (w : World) (r : Option Nat) : w.grownBy w r := ⟨rfl, rfl, rfl, Nat.le_refl _, fun _ _ _ => rfl⟩
theorem gb_trans {a b c : World} {r : Option Nat} (h : a.grownBy b r) (h2 : b.grownBy c r) : a.grownBy c r :=
  ⟨h2.os.trans h.os, h2.tape.trans h.tape, h2.output.trans h.output, Nat.le_trans h.size h2.size, fun k hk hr => (h2.block k (Nat.lt_of_lt_of_le hk h.size) hr).trans (h.block k hk hr)⟩
theorem gb_same {a b b' : World} {r : Option Nat} (h : a.grownBy b r) (h1 : b'.os = b.os := by rfl) (h2 : b'.tape = b.tape := by rfl) (h3 : b'.output = b.output := by rfl) (h4 : b'.heap = b.heap := by rfl) : a.grownBy b' r :=
  ⟨h1.trans h.os, h2.trans h.tape, h3.trans h.output, by rw [h4]; exact h.size, fun k hk hr => by rw [h4]; exact h.block k hk hr⟩
theorem gb_drewN {a b : World} {r : Option Nat} (h : a.grownBy b r) (n : Nat) : a.grownBy (b.drewN n) r := ⟨h.os, h.tape, h.output, h.size, h.block⟩
theorem gb_set {a b : World} {R j : Nat} (h : a.grownBy b (some R)) (v : Value) : a.grownBy (b.setCell ⟨R, j, none⟩ v) (some R) :=
  ⟨h.os, h.tape, h.output, by simp [World.setCell]; exact h.size, fun k hk hr => by
    rw [← h.block k hk hr]
    simp only [World.setCell]
    rw [Array.getElem?_modify]
    rw [if_neg (fun e => hr (by rw [e]))]⟩
theorem gb_alloc {a b : World} {r : Option Nat} (h : a.grownBy b r) (o : Obj) : a.grownBy (b.alloc o) r :=
  ⟨h.os, h.tape, h.output, by simp; exact Nat.le_succ_of_le h.size, fun k hk hr => (Below.heap_alloc b o k (Nat.lt_of_lt_of_le hk h.size)).trans (h.block k hk hr)⟩
theorem gb_below {a b c : World} {r : Option Nat} (h : a.grownBy b r) (h2 : Below b.heap.size b c) : a.grownBy c r :=
  ⟨h2.os.trans h.os, h2.tape.trans h.tape, h2.output.trans h.output, Nat.le_trans h.size h2.size, fun k hk hr => (h2.block k (Nat.lt_of_lt_of_le hk h.size)).trans (h.block k hk hr)⟩
def headB : List UInt8 → Nat
  | [] => 0
  | c :: _ => c.toNat
theorem drop_hd {s : ByteArray} {a : Nat} (h : a < s.size) : s.data.toList.drop a = s[a] :: s.data.toList.drop (a + 1) := by
  have hl : a < s.data.toList.length := by rw [size_list]; exact h
  rw [List.drop_eq_getElem_cons hl]
  rfl
theorem drop_nl {s : ByteArray} {a : Nat} (h : ¬ a < s.size) : s.data.toList.drop a = [] := by rw [List.drop_eq_nil_iff, size_list]; omega

theorem gb_of1 {a b : World} {r : Option Nat} (h : a.drew.grownBy b r) : a.grownBy b r := ⟨h.os, h.tape, h.output, h.size, h.block⟩
theorem gb_of {a b : World} {n : Nat} {r : Option Nat} (h : (a.drewN n).grownBy b r) : a.grownBy b r := ⟨h.os, h.tape, h.output, h.size, h.block⟩
theorem drop_cons {s : ByteArray} {k : Nat} {y : UInt8} {u : List UInt8} (h : s.data.toList.drop k = y :: u) : k < s.size ∧ u = s.data.toList.drop (k + 1) := by
  have hl := congrArg List.length h
  rw [List.length_drop, size_list, List.length_cons] at hl
  exact ⟨by omega, by rw [← List.drop_drop, h]; rfl⟩

/-- where the byte does not stand -/
def NoB (l : List UInt8) (b : Nat) : Prop := ∀ y u, skipB l = y :: u → y.toNat ≠ b

/-- to go on from a world of which only p is known -/
theorem wp_gen {P : Program} {c : Code} {Q : Exit → Act → World → Prop} {a : Act} {w : World} (p : World → Prop) (hp : p w) (h : ∀ w3, p w3 → Code.wp P c Q a w3) : Code.wp P c Q a w := h w hp

theorem bp_gen {P : Program} {f : Func} {Q : Ending → World → Prop} {e : Exit} {a : Act} {w : World} (p : World → Prop) (hp : p w) (h : ∀ w3, p w3 → bodyPost P f Q e a w3) : bodyPost P f Q e a w := h w hp
theorem gb_new {a b : World} {r : Option Nat} {X j : Nat} (h : a.grownBy b r) (hX : a.heap.size ≤ X) (v : Value) : a.grownBy (b.setCell ⟨X, j, none⟩ v) r :=
  ⟨h.os, h.tape, h.output, by simp [World.setCell]; exact h.size, fun k hk hr => by
    rw [← h.block k hk hr]
    simp only [World.setCell]
    rw [Array.getElem?_modify, if_neg (by omega)]⟩
/-- a variable of a value's type, cell for cell -/
def Blk (w : World) (X : Nat) (c0 c1 c2 c3 c4 : Value) : Prop := w.heap[X]? = some (.cells #[c0, c1, c2, c3, c4] 25 (0, 0))
def zeroBlk (w : World) (X : Nat) : Prop := Blk w X (.int .i64 0) (.int .i64 0) (.string ⟨#[]⟩) (.slice none 0 0) (.slice none 0 0)
theorem Blk.lt {w : World} {X : Nat} {c0 c1 c2 c3 c4 : Value} (h : Blk w X c0 c1 c2 c3 c4) : X < w.heap.size := (Array.getElem?_eq_some_iff.1 h).1
theorem Blk.cell {w : World} {X : Nat} {c0 c1 c2 c3 c4 : Value} (h : Blk w X c0 c1 c2 c3 c4) (j : Nat) (hj : j < 5) : w.cell? ⟨X, j, none⟩ = some (#[c0, c1, c2, c3, c4].getD j .nilIface) := by
  unfold Blk at h
  simp only [World.cell?]
  rw [h]
  rcases (show j = 0 ∨ j = 1 ∨ j = 2 ∨ j = 3 ∨ j = 4 by omega) with rfl | rfl | rfl | rfl | rfl <;> rfl
theorem Blk.fz {w : World} {X : Nat} {c0 c1 c2 c3 c4 : Value} (h : Blk w X c0 c1 c2 c3 c4) (j : Nat) : w.frozen? ⟨X, j, none⟩ = false := by
  unfold Blk at h
  simp only [World.frozen?]
  rw [h]
  simp
theorem Blk.other {w : World} {X b j : Nat} {c0 c1 c2 c3 c4 : Value} (h : Blk w X c0 c1 c2 c3 c4) (hb : b ≠ X) (v : Value) : Blk (w.setCell ⟨b, j, none⟩ v) X c0 c1 c2 c3 c4 := by
  unfold Blk at h ⊢
  simp only [World.setCell]
  rw [Array.getElem?_modify, if_neg hb]
  exact h
/-- all five cells are stored -/
theorem Blk.store {w : World} {X : Nat} {c0 c1 c2 c3 c4 : Value} (h : Blk w X c0 c1 c2 c3 c4) (d0 d1 d2 d3 d4 : Value) :
    Blk (((((w.setCell ⟨X, 0, none⟩ d0).setCell ⟨X, 1, none⟩ d1).setCell ⟨X, 2, none⟩ d2).setCell ⟨X, 3, none⟩ d3).setCell ⟨X, 4, none⟩ d4) X d0 d1 d2 d3 d4 := by
  unfold Blk at h ⊢
  simp [World.setCell, Array.getElem?_modify, h]
theorem own_gb {w w' : World} {R base size n : Nat} {e : TypeId} {v : Value} {xs : List Value} (h : w.ownsRow base e size v n xs) (hg : w.grownBy w' (some R)) (hR : R < base) : w'.ownsRow base e size v n xs := by
  refine h.kept hg ?_
  cases hv : v.ownBlock with
  | none => exact .inl rfl
  | some g =>
    right
    intro e2
    have := (h.lt g hv).1
    injection e2 with e2
    omega
theorem gb_row {a b c : World} {R : Nat} {r : Option Nat} (h : a.grownBy b (some R)) (h2 : b.grownBy c r) (hr : ∀ g, r = some g → a.heap.size ≤ g) : a.grownBy c (some R) :=
  ⟨h2.os.trans h.os, h2.tape.trans h.tape, h2.output.trans h.output, Nat.le_trans h.size h2.size, fun k hk hkr => (h2.block k (Nat.lt_of_lt_of_le hk h.size) (fun e => by have := hr k e.symm; omega)).trans (h.block k hk hkr)⟩
theorem Blk.grown {w w' : World} {X : Nat} {r : Option Nat} {c0 c1 c2 c3 c4 : Value} (h : Blk w X c0 c1 c2 c3 c4) (hg : w.grownBy w' r) (hr : some X ≠ r) : Blk w' X c0 c1 c2 c3 c4 := (hg.block X h.lt hr).trans h
theorem Blk.set4 {w : World} {X : Nat} {c0 c1 c2 c3 c4 : Value} (h : Blk w X c0 c1 c2 c3 c4) (v : Value) : Blk (w.setCell ⟨X, 4, none⟩ v) X c0 c1 c2 c3 v := by
  unfold Blk at h ⊢
  simp [World.setCell, Array.getElem?_modify, h]

theorem news_one (k n : Int) (t : ByteArray) (A A2 : Option Addr) (l c l2 c2 : Nat) : ∀ u ∈ [Value.int .i64 k, .int .i64 n, .string t, .slice A l c, .slice A2 l2 c2], u.oneCell' = true := by
  intro u hu
  simp only [List.mem_cons, List.not_mem_nil, or_false] at hu
  rcases hu with rfl | rfl | rfl | rfl | rfl <;> rfl

theorem heap_alloc_new2 (w : World) (o o2 : Obj) : ((w.alloc o).alloc o2).heap[w.heap.size + 1]? = some o2 := by
  have := heap_alloc_new (w.alloc o) o2
  simpa using this
theorem nodeInfo : (Tryd.prog.info? 25).map (fun i => (i.zero, i.size, i.bytes)) = some (some (.agg #[.int .i64 0, .int .i64 0, .string ⟨#[]⟩, .slice none 0 0, .slice none 0 0]), 5, 80) := by kernel_rfl


end Go.Proofs.YtnlpdpbmmpeiaaaDoor
