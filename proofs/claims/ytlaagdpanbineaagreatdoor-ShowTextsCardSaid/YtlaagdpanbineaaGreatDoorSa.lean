/- json.Same on two values in memory: whether they are the same value. -/
import Derived.Test.YtlaagdpanbineaaGreatDoorJa
import Derived.Test.YtlaagdpanbineaaGreatDoorShelf
import Derived.Test.YtlaagdpanbineaaGreatDoorQa
namespace Go.Proofs.YtlaagdpanbineaaGreatDoor
open Go.RowKit

mutual
def eqT : NT → NT → Bool
  | .mk k n x ks ts, .mk k' n' x' ks' ts' => (k == k') && (n == n') && (x == x') && (ks == ks') && eqL ts ts'
def eqL : List NT → List NT → Bool
  | [], [] => true
  | a :: la, b :: lb => eqT a b && eqL la lb
  | _, _ => false
end
mutual
theorem eqT_self : ∀ t, eqT t t = true
  | .mk k n x ks ts => by simp [eqT, eqL_self ts]
theorem eqL_self : ∀ l, eqL l l = true
  | [] => rfl
  | t :: l => by simp [eqL, eqT_self t, eqL_self l]
end
theorem eqL_len : ∀ {a b : List NT}, a.length ≠ b.length → eqL a b = false
  | [], [], h => absurd rfl h
  | [], _ :: _, _ => rfl
  | _ :: _, [], _ => rfl
  | x :: a, y :: b, h => by
    simp only [List.length_cons, ne_eq] at h
    simp [eqL, eqL_len (a := a) (b := b) (by omega)]
theorem eqL_at : ∀ {a b : List NT} {k : Nat} (ha : k < a.length) (hb : k < b.length), eqL (a.take k) (b.take k) = true → eqL a b = (eqT a[k] b[k] && eqL (a.drop (k + 1)) (b.drop (k + 1)))
  | [], _, _, ha, _, _ => absurd ha (by simp)
  | _ :: _, [], _, _, hb, _ => absurd hb (by simp)
  | x :: a, y :: b, 0, _, _, _ => by simp [eqL]
  | x :: a, y :: b, k + 1, ha, hb, h => by
    simp only [List.take_succ_cons, eqL, Bool.and_eq_true] at h
    have := eqL_at (a := a) (b := b) (k := k) (by simpa using ha) (by simpa using hb) h.2
    simp only [eqL, h.1, Bool.true_and, this, List.getElem_cons_succ, List.drop_succ_cons]
theorem eqL_take : ∀ {a b : List NT} {k : Nat} (ha : k < a.length) (hb : k < b.length), eqL (a.take k) (b.take k) = true → eqT a[k] b[k] = true → eqL (a.take (k + 1)) (b.take (k + 1)) = true
  | [], _, _, ha, _, _, _ => absurd ha (by simp)
  | _ :: _, [], _, _, hb, _, _ => absurd hb (by simp)
  | x :: a, y :: b, 0, _, _, _, h => by simpa [eqL] using h
  | x :: a, y :: b, k + 1, ha, hb, h, h2 => by
    simp only [List.take_succ_cons, eqL, Bool.and_eq_true] at h ⊢
    exact ⟨h.1, eqL_take (k := k) (by simpa using ha) (by simpa using hb) h.2 (by simpa using h2)⟩

/-- no list in it is longer than a machine's numbers -/
def okLen : NT → Prop
  | .mk _ _ _ ks kids => ks.length ≤ 9223372036854775807 ∧ kids.length ≤ 9223372036854775807 ∧ ∀ t ∈ kids, okLen t

theorem bytes_inj {a b : List (List UInt8)} : (a.map fun x => (⟨x.toArray⟩ : ByteArray)) = (b.map fun x => (⟨x.toArray⟩ : ByteArray)) ↔ a = b := by
  constructor
  · intro h
    have := congrArg (List.map fun s : ByteArray => s.data.toList) h
    simpa [List.map_map, Function.comp_def] using this
  · intro h; rw [h]





































/-- a row of kids in memory -/
def KidsAt (ok : Nat → Prop) (h : Nat) (w : World) (A : Option Addr) (kids : List NT) : Prop :=
  kids = [] ∨ ∃ b off, A = some ⟨b, off, none⟩ ∧ ok b ∧ b < w.heap.size ∧ ∀ j (hj : j < kids.length), ∃ c0 c1 c2 c3 c4,
        w.cell? ⟨b, off + 5 * j, none⟩ = some c0 ∧ w.cell? ⟨b, off + 5 * j + 1, none⟩ = some c1 ∧ w.cell? ⟨b, off + 5 * j + 2, none⟩ = some c2 ∧ w.cell? ⟨b, off + 5 * j + 3, none⟩ = some c3 ∧ w.cell? ⟨b, off + 5 * j + 4, none⟩ = some c4 ∧
        NIs ok h w kids[j] (.agg #[c0, c1, c2, c3, c4])

theorem KidsAt.below {ok : Nat → Prop} {h : Nat} {w w' : World} {A : Option Addr} {kids : List NT} (hK : KidsAt ok h w A kids) (hb : Below w.heap.size w w') : KidsAt ok h w' A kids := by
  rcases hK with e | ⟨b, off, hA, ho, hbl, hc⟩
  · exact .inl e
  · refine .inr ⟨b, off, hA, ho, Nat.lt_of_lt_of_le hbl hb.size, fun j hj => ?_⟩
    obtain ⟨x0, x1, x2, x3, x4, e0, e1, e2, e3, e4, hN⟩ := hc j hj
    exact ⟨x0, x1, x2, x3, x4, (hb.cell hbl).trans e0, (hb.cell hbl).trans e1, (hb.cell hbl).trans e2, (hb.cell hbl).trans e3, (hb.cell hbl).trans e4, hN.below hb⟩




/-- one kid, its cells written out at a later world -/
theorem kid_at {ok : Nat → Prop} {h : Nat} {w wr : World} {A : Option Addr} {kids : List NT} (hK : KidsAt ok h w A kids) (hb : Below w.heap.size w wr) {k : Nat} (hk : k < kids.length) :
    ∃ b off, A = some ⟨b, off, none⟩ ∧ b < w.heap.size ∧ ∃ (kk nn : Int) (t : List UInt8) (S3 : Option Addr) (l3 m3 : Nat) (S4 : Option Addr) (l4 m4 : Nat), wr.cell? ⟨b, off + k * 5, none⟩ = some (.int .i64 kk) ∧ wr.cell? ⟨b, off + k * 5 + 1, none⟩ = some (.int .i64 nn) ∧ wr.cell? ⟨b, off + k * 5 + 2, none⟩ = some (.string ⟨t.toArray⟩) ∧
      wr.cell? ⟨b, off + k * 5 + 3, none⟩ = some (.slice S3 l3 m3) ∧ wr.cell? ⟨b, off + k * 5 + 4, none⟩ = some (.slice S4 l4 m4) ∧ NIs ok h wr kids[k] (.agg #[.int .i64 kk, .int .i64 nn, .string ⟨t.toArray⟩, .slice S3 l3 m3, .slice S4 l4 m4]) := by
  rcases hK with e | ⟨b, off, rfl, _, hbl, hc⟩
  · rw [e] at hk; simp at hk
  obtain ⟨x0, x1, x2, x3, x4, e0, e1, e2, e3, e4, hN⟩ := hc k hk
  obtain ⟨kk, n2, t2, S3, l3, m3, S4, l4, m4, hv⟩ := hN.nd
  simp only [Value.agg.injEq, Array.mk.injEq, List.cons.injEq, and_true] at hv
  obtain ⟨rfl, rfl, rfl, rfl, rfl⟩ := hv
  have hcell : ∀ {j : Nat} {x : Value}, w.cell? ⟨b, off + 5 * k + j, none⟩ = some x → wr.cell? ⟨b, off + k * 5 + j, none⟩ = some x := fun {j x} hx => by
    rw [show off + k * 5 + j = off + 5 * k + j by omega]
    exact (hb.cell (p := ⟨b, off + 5 * k + j, none⟩) hbl).trans hx
  exact ⟨b, off, rfl, hbl, _, _, _, _, _, _, _, _, _, hcell (j := 0) e0, hcell e1, hcell e2, hcell e3, hcell e4, hN.below hb⟩













































































end Go.Proofs.YtlaagdpanbineaaGreatDoor

/- json.Same on two values in memory: its walk. -/
namespace Go.Proofs.YtlaagdpanbineaaGreatDoor
open Go.RowKit

theorem okLen_kids {kd nn : Int} {tx : List UInt8} {ks : List (List UInt8)} {kids : List NT} (h : okLen (.mk kd nn tx ks kids)) : ks.length ≤ 9223372036854775807 ∧ kids.length ≤ 9223372036854775807 ∧ ∀ t ∈ kids, okLen t := by
  unfold okLen at h; exact h

theorem ba_beq (a b : List UInt8) : ((⟨a.toArray⟩ : ByteArray).toList == (⟨b.toArray⟩ : ByteArray).toList) = (a == b) := by
  rw [ByteArray.toList_eq, ByteArray.toList_eq]
theorem al2 (w : World) (o o' : Obj) : Below w.heap.size w ((w.alloc o).alloc o') := ((Below.refl _ _).alloc (Nat.le_refl _) o).alloc (((Below.refl _ _).alloc (Nat.le_refl _) o).size) o'

theorem StrAt.belowS {ok : Nat → Prop} {w w' : World} {v : Value} {ks : List (List UInt8)} (h : StrAt ok w v ks) (hb : Below w.heap.size w w') : StrAt ok w' v ks :=
  h.kept hb.size fun b ho hl => ⟨ho, hb.block b hl⟩

section
variable (kd nn kd' nn' : Int) (tx tx' : ByteArray) (A B C D A' B' C' D' : Option Addr) (l1 c1 l2 c2 l1' c1' l2' c2' : Nat) (w : World)
def aggV (kd nn : Int) (tx : ByteArray) (A : Option Addr) (l1 c1 : Nat) (B : Option Addr) (l2 c2 : Nat) : Value := .agg #[.int .i64 kd, .int .i64 nn, .string tx, .slice A l1 c1, .slice B l2 c2]








































































end





































end Go.Proofs.YtlaagdpanbineaaGreatDoor

