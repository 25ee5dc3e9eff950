/- A code point written by "\u" and hexadecimal digits: plain mathematics. -/
import Derived.Test.YtfccfijjojnbbaaDoorQal
namespace Go.Proofs.YtfccfijjojnbbaaDoor

def hexc (cap : Bool) (n : Nat) : UInt8 := if n < 10 then UInt8.ofNat (48 + n) else if cap then UInt8.ofNat (55 + n) else UInt8.ofNat (87 + n)
theorem hexc_dg : ∀ (cap : Bool) (n : Fin 16), dg (hexc cap n.val).toNat = some n.val := by decide +kernel
theorem hexc_dg' (cap : Bool) {n : Nat} (h : n < 16) : dg (hexc cap n).toNat = some n := hexc_dg cap ⟨n, h⟩

/-- the four digits of a number -/
def dgL (v : Nat) : List Nat := [v / 4096, v / 256 % 16, v / 16 % 16, v % 16]
theorem dgL_lt {v : Nat} (h : v < 65536) : ∀ j, j < 4 → (dgL v).getD j 0 < 16
  | 0, _ => by show v / 4096 < 16; omega
  | 1, _ => by show v / 256 % 16 < 16; omega
  | 2, _ => by show v / 16 % 16 < 16; omega
  | 3, _ => by show v % 16 < 16; omega
  | j + 4, h => absurd h (by omega)
def unitT (cap : Bool) (v : Nat) : List UInt8 := 92 :: 117 :: (dgL v).map (hexc cap)
theorem unitT_len (cap : Bool) (v : Nat) : (unitT cap v).length = 6 := rfl
theorem unit_hex (cap : Bool) {v : Nat} (h : v < 65536) : hex4 (hexc cap (v / 4096)) (hexc cap (v / 256 % 16)) (hexc cap (v / 16 % 16)) (hexc cap (v % 16)) = some v := by
  unfold hex4
  rw [hexc_dg' cap (show v / 4096 < 16 by omega), hexc_dg' cap (show v / 256 % 16 < 16 by omega), hexc_dg' cap (show v / 16 % 16 < 16 by omega), hexc_dg' cap (show v % 16 < 16 by omega)]
  simp only [Option.some.injEq]
  omega

/-- the numbers by which a code point is written -/
def unitsOf (r : Nat) : List Nat := if r < 65536 then [r] else [55296 + (r - 65536) / 1024, 56320 + (r - 65536) % 1024]
theorem unitsOf_lt {r : Nat} (h : r < 1114112) : ∀ v ∈ unitsOf r, v < 65536 := by
  intro v hv
  unfold unitsOf at hv
  split at hv
  · simp at hv; omega
  · simp at hv; omega
def escText (cap : Bool) (r : Nat) : List UInt8 := 34 :: ((unitsOf r).flatMap (unitT cap) ++ [34])

theorem escText_parse (cap : Bool) {r : Nat} (h : isPt r) : parseR (escText cap r) = some (encB r) := by
  have hb : Body ((unitsOf r).flatMap (unitT cap)) [(r : Int)] := by
    unfold unitsOf
    by_cases h1 : r < 65536
    · rw [if_pos h1]
      have := Piece.unit _ _ _ _ r (unit_hex cap h1) h
      exact .cons (p := unitT cap r) (b := []) this .nil
    · rw [if_neg h1]
      have hr : r ≤ 1114111 := by unfold isPt at h; omega
      have hv : 55296 + (r - 65536) / 1024 < 65536 := by omega
      have hu : 56320 + (r - 65536) % 1024 < 65536 := by omega
      have hp := Piece.pair _ _ _ _ _ _ _ _ _ _ (unit_hex cap hv) (unit_hex cap hu) (by omega) (by omega) (by omega) (by omega)
      have e : joinZ (55296 + (r - 65536) / 1024) (56320 + (r - 65536) % 1024) = (r : Int) := by unfold joinZ; omega
      rw [e] at hp
      exact .cons (p := unitT cap (55296 + (r - 65536) / 1024) ++ unitT cap (56320 + (r - 65536) % 1024)) (b := []) hp .nil
  have := parse_of_body hb
  have e : encLB [(r : Int)] = encB r := by simp [encLB]
  rw [e] at this
  exact this

def digT (cap : Bool) : ByteArray := if cap then ⟨#[48, 49, 50, 51, 52, 53, 54, 55, 56, 57, 65, 66, 67, 68, 69, 70]⟩ else ⟨#[48, 49, 50, 51, 52, 53, 54, 55, 56, 57, 97, 98, 99, 100, 101, 102]⟩
theorem digT_cut' : ∀ (cap : Bool) (n : Fin 16), ((digT cap).extract n.val (n.val + 1)).data.toList = [hexc cap n.val] := by decide +kernel
theorem digT_cut (cap : Bool) {n : Nat} (h : n < 16) : ((digT cap).extract n (n + 1)).data.toList = [hexc cap n] := digT_cut' cap ⟨n, h⟩

/-- what is written after j digits -/
structure Di (cap : Bool) (P : List UInt8) (v j : Nat) (O : List UInt8) : Prop where
  eq : O = P ++ ((dgL v).take j).map (hexc cap)
theorem Di.step {cap : Bool} {P : List UInt8} {v j : Nat} {O x : List UInt8} (h : Di cap P v j O) (hj : j < 4) (hx : x = [hexc cap ((dgL v).getD j 0)]) : Di cap P v (j + 1) (O ++ x) := by
  refine ⟨?_⟩
  have hl : j < (dgL v).length := hj
  rw [h.eq, List.take_succ_eq_append_getElem hl, hx]
  have e : (dgL v).getD j 0 = (dgL v)[j] := by simp [List.getD, hl]
  rw [e, List.map_append, List.append_assoc]
  rfl
/-- what is written after k numbers -/
structure Ui (cap : Bool) (l : List Nat) (k : Nat) (O : List UInt8) : Prop where
  eq : O = 34 :: (l.take k).flatMap (unitT cap)
theorem Ui.step {cap : Bool} {l : List Nat} {k : Nat} {O O2 : List UInt8} (h : Ui cap l k O) (hk : k < l.length) (hd : Di cap (O ++ [92, 117]) (l.getD k 0) 4 O2) : Ui cap l (k + 1) O2 := by
  refine ⟨?_⟩
  have e : l.getD k 0 = l[k] := by simp [List.getD, hk]
  rw [hd.eq, h.eq, List.take_succ_eq_append_getElem hk, List.flatMap_append, e]
  simp [unitT, dgL]
theorem Ui.len {cap : Bool} {l : List Nat} {k : Nat} {O : List UInt8} (h : Ui cap l k O) : O.length ≤ 1 + 6 * k := by
  rw [h.eq]
  have hf : ∀ m : List Nat, (m.flatMap (unitT cap)).length = 6 * m.length := fun m => by
    induction m with
    | nil => rfl
    | cons a m ih => rw [List.flatMap_cons, List.length_append, ih, unitT_len, List.length_cons]; omega
  rw [List.length_cons, hf, List.length_take]
  omega

end Go.Proofs.YtfccfijjojnbbaaDoor
