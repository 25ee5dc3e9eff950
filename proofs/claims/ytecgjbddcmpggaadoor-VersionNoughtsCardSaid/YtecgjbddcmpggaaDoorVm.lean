/- Versions over lists of bytes: items, components, rows; how a text is read; which one comes ahead. No program. -/
import Derived.Lib.Small
import Derived.Lib.Bytealg
namespace Go.Proofs.YtecgjbddcmpggaaDoor

/-! ### bytes -/
def dgB (c : UInt8) : Bool := decide (48 ≤ c.toNat ∧ c.toNat ≤ 57)
def ltB (c : UInt8) : Bool := decide (97 ≤ c.toNat ∧ c.toNat ≤ 122)
def spB (c : UInt8) : Bool := decide (c = 46 ∨ c = 95 ∨ c = 45)
theorem dgB_iff (c : UInt8) : dgB c = true ↔ 48 ≤ c.toNat ∧ c.toNat ≤ 57 := by unfold dgB; exact decide_eq_true_iff
theorem ltB_iff (c : UInt8) : ltB c = true ↔ 97 ≤ c.toNat ∧ c.toNat ≤ 122 := by unfold ltB; exact decide_eq_true_iff
theorem spB_iff (c : UInt8) : spB c = true ↔ c = 46 ∨ c = 95 ∨ c = 45 := by unfold spB; exact decide_eq_true_iff
theorem lt_dg {c : UInt8} (h : ltB c = true) : dgB c = false := by
  have := (ltB_iff c).1 h
  unfold dgB
  exact decide_eq_false (by omega)
theorem sp_no {c : UInt8} (h : spB c = true) : ltB c = false ∧ dgB c = false := by
  rcases (spB_iff c).1 h with rfl | rfl | rfl <;> decide

/-! ### numbers -/
def stepV (a : Nat) (c : UInt8) : Nat := a * 10 + (c.toNat - 48)
def valFrom (acc : Nat) (l : List UInt8) : Nat := l.foldl stepV acc
theorem valFrom_nil (acc : Nat) : valFrom acc [] = acc := by unfold valFrom; rw [List.foldl_nil]
theorem valFrom_cons (acc : Nat) (c : UInt8) (l : List UInt8) : valFrom acc (c :: l) = valFrom (acc * 10 + (c.toNat - 48)) l := by
  unfold valFrom; rw [List.foldl_cons]; rfl
theorem valFrom_append (acc : Nat) (l r : List UInt8) : valFrom acc (l ++ r) = valFrom (valFrom acc l) r := by unfold valFrom; rw [List.foldl_append]
theorem valFrom_le : ∀ (l : List UInt8) (acc : Nat), acc ≤ valFrom acc l
  | [], acc => by rw [valFrom_nil]; exact Nat.le_refl _
  | c :: l, acc => by rw [valFrom_cons]; exact Nat.le_trans (by omega) (valFrom_le l _)
/-- the number of few digits -/
def smallL (d : List UInt8) : Option Int := if d ≠ [] ∧ d.length ≤ 15 ∧ d.all dgB = true then some (valFrom 0 d : Int) else none

/-! ### items, components, rows, versions -/
abbrev It := Int × List UInt8
abbrev Co := List It
abbrev Row := List Co
abbrev Ver := Int × Row × Row
def zI : It := (0, [])

def itemsF : Nat → List UInt8 → Option Co
  | 0, _ => none
  | _ + 1, [] => some []
  | f + 1, c :: r =>
    if ltB c then (itemsF f (r.dropWhile ltB)).map ((0, c :: r.takeWhile ltB) :: ·)
    else (smallL (c :: r.takeWhile dgB)).bind fun n => (itemsF f (r.dropWhile dgB)).map ((n, []) :: ·)
theorem dropWhile_le (f : UInt8 → Bool) (r : List UInt8) : (r.dropWhile f).length ≤ r.length := (List.dropWhile_suffix f).length_le
theorem itemsF_up : ∀ (f g : Nat) (s : List UInt8), s.length < f → s.length < g → itemsF f s = itemsF g s
  | 0, _, _, h, _ => absurd h (by omega)
  | _, 0, _, _, h => absurd h (by omega)
  | f + 1, g + 1, [], _, _ => rfl
  | f + 1, g + 1, c :: r, h1, h2 => by
    simp only [List.length_cons] at h1 h2
    have a := dropWhile_le ltB r
    have b := dropWhile_le dgB r
    have e1 := itemsF_up f g (r.dropWhile ltB) (by omega) (by omega)
    have e2 := itemsF_up f g (r.dropWhile dgB) (by omega) (by omega)
    unfold itemsF
    rw [e1, e2]
/-- the items of a text of letters and digits -/
def itemsL (s : List UInt8) : Option Co := itemsF (s.length + 1) s
theorem itemsL_nil : itemsL [] = some [] := rfl
theorem itemsL_lt {c : UInt8} (r : List UInt8) (h : ltB c = true) : itemsL (c :: r) = (itemsL (r.dropWhile ltB)).map ((0, c :: r.takeWhile ltB) :: ·) := by
  unfold itemsL
  rw [itemsF, if_pos h]
  congr 1
  have := dropWhile_le ltB r
  exact itemsF_up _ _ _ (by simp; omega) (by omega)
theorem itemsL_dg {c : UInt8} (r : List UInt8) (h : ltB c = false) : itemsL (c :: r) = (smallL (c :: r.takeWhile dgB)).bind fun n => (itemsL (r.dropWhile dgB)).map ((n, []) :: ·) := by
  unfold itemsL
  rw [itemsF, if_neg (by rw [h]; simp)]
  congr 1
  have := dropWhile_le dgB r
  rw [itemsF_up _ ((r.dropWhile dgB).length + 1) _ (by simp; omega) (by omega)]
/-- a component -/
def compL (s : List UInt8) : Option Co := match s with
  | [] => none
  | c :: r => if ltB c then (itemsL (c :: r)).map (zI :: ·) else itemsL (c :: r)
theorem compL_nil : compL [] = none := rfl
theorem compL_lt {c : UInt8} (r : List UInt8) (h : ltB c = true) : compL (c :: r) = (itemsL (c :: r)).map (zI :: ·) := by unfold compL; exact if_pos h
theorem compL_dg {c : UInt8} (r : List UInt8) (h : ltB c = false) : compL (c :: r) = itemsL (c :: r) := by unfold compL; exact if_neg (by rw [h]; simp)
theorem compL_nought {c : UInt8} (r : List UInt8) (h : ltB c = true) : compL (c :: r) = itemsL (48 :: c :: r) := by
  rw [compL_lt r h, itemsL_dg (c := 48) _ (by decide)]
  have e1 : (c :: r).takeWhile dgB = [] := by rw [List.takeWhile_cons, lt_dg h]; rfl
  have e2 : (c :: r).dropWhile dgB = c :: r := by rw [List.dropWhile_cons, lt_dg h]; rfl
  rw [e1, e2]
  rfl
/-- the row of what stands: cur is what of a component was met, rest what is to come -/
def rowL (cur : List UInt8) : List UInt8 → Option Row
  | [] => (compL cur).map fun c => [c]
  | b :: rest => if spB b then (compL cur).bind fun c => (rowL [] rest).map (c :: ·) else rowL (cur ++ [b]) rest
theorem rowL_nil (cur : List UInt8) : rowL cur [] = (compL cur).map fun c => [c] := rfl
theorem rowL_sp (cur : List UInt8) {b : UInt8} (rest : List UInt8) (h : spB b = true) : rowL cur (b :: rest) = (compL cur).bind fun c => (rowL [] rest).map (c :: ·) := by rw [rowL, if_pos h]
theorem rowL_no (cur : List UInt8) {b : UInt8} (rest : List UInt8) (h : spB b = false) : rowL cur (b :: rest) = rowL (cur ++ [b]) rest := by rw [rowL, if_neg (by rw [h]; simp)]
/-- a text cut at a byte -/
def cutL (c : UInt8) (s : List UInt8) : Option (List UInt8 × List UInt8) := if c ∈ s then some (s.takeWhile (· != c), (s.dropWhile (· != c)).drop 1) else none
def tailL (e : Int) (s : List UInt8) : Option Ver := match cutL 43 s with
  | some (p, l) => (rowL [] p).bind fun a => (rowL [] l).map fun b => (e, a, b)
  | none => (rowL [] s).map fun a => (e, a, [])
def verL (s : List UInt8) : Option Ver := match cutL 33 s with
  | some (d, r) => (smallL d).bind fun e => tailL e r
  | none => tailL 0 s
def capB (c : UInt8) : Bool := decide (65 ≤ c.toNat ∧ c.toNat ≤ 90)
def lowC (c : UInt8) : UInt8 := if capB c then c + 32 else c
def parseL (s : List UInt8) : Option Ver := if s.length ≤ 40 then verL (s.map lowC) else none

/-! ### order -/
def kindI (x : It) : Int := if x.2 = [] then 2 else if x.2 = [100, 101, 118] then 0 else if x.2 = [112, 111, 115, 116] then 3 else 1
def itemC (a b : It) : Int := if Lib.compareInt (kindI a) (kindI b) ≠ 0 then Lib.compareInt (kindI a) (kindI b) else if kindI a = 2 then Lib.compareInt a.1 b.1 else Lib.compareBytes a.2 b.2
def rowsR {α : Type} (z : α) (f : α → α → Int) : List α → Int
  | [] => 0
  | b :: bs => if f z b ≠ 0 then f z b else rowsR z f bs
def rowsC {α : Type} (z : α) (f : α → α → Int) : List α → List α → Int
  | [], l => rowsR z f l
  | a :: as, l => if f a (l.headD z) ≠ 0 then f a (l.headD z) else rowsC z f as l.tail
def compC (a b : Co) : Int := rowsC zI itemC a b
def rowC (a b : Row) : Int := rowsC [] compC a b
def verC (a b : Ver) : Int := if Lib.compareInt a.1 b.1 ≠ 0 then Lib.compareInt a.1 b.1 else if rowC a.2.1 b.2.1 ≠ 0 then rowC a.2.1 b.2.1 else rowC a.2.2 b.2.2
def headC {α : Type} (z : α) (f : α → α → Int) (h r : List α) : Bool := decide (rowsC z f h (r.take (min r.length h.length)) = 0)
def begC (v p : Ver) : Bool := decide (p.2.1 ≠ [] ∧ p.2.2 = [] ∧ v.1 = p.1) && headC [] compC (p.2.1.take (p.2.1.length - 1)) v.2.1 && headC zI itemC (p.2.1.getD (p.2.1.length - 1) []) (v.2.1.getD (p.2.1.length - 1) [])
/-- the place of the first one that none comes behind -/
def newC : List Ver → Option (Nat × Ver) → Nat → Option (Nat × Ver)
  | [], b, _ => b
  | v :: r, none, i => newC r (some (i, v)) (i + 1)
  | v :: r, some (j, u), i => newC r (if verC u v < 0 then some (i, v) else some (j, u)) (i + 1)

/-- the loop's step -/
theorem rowsC_step {α : Type} (z : α) (f : α → α → Int) : ∀ (i : Nat) (a b : List α), i < a.length ∨ i < b.length →
    rowsC z f (a.drop i) (b.drop i) = if f (a.getD i z) (b.getD i z) ≠ 0 then f (a.getD i z) (b.getD i z) else rowsC z f (a.drop (i + 1)) (b.drop (i + 1))
  | i, [], [], h => by simp at h
  | 0, a :: as, [], _ => by simp [rowsC]
  | 0, [], b :: bs, _ => by simp [rowsC, rowsR]
  | 0, a :: as, b :: bs, _ => by simp [rowsC]
  | i + 1, [], b :: bs, h => by
    have := rowsC_step z f i [] bs (by simpa using h)
    simpa using this
  | i + 1, a :: as, [], h => by
    have := rowsC_step z f i as [] (by simpa using h)
    simpa using this
  | i + 1, a :: as, b :: bs, h => by
    have := rowsC_step z f i as bs (by simpa using h)
    simpa using this
theorem rowsC_end {α : Type} (z : α) (f : α → α → Int) (i : Nat) (a b : List α) (h1 : a.length ≤ i) (h2 : b.length ≤ i) : rowsC z f (a.drop i) (b.drop i) = 0 := by
  rw [List.drop_of_length_le h1, List.drop_of_length_le h2]; simp [rowsC, rowsR]

theorem al_parse1 : parseL [49, 46, 48, 100, 101, 118] = some (0, [[(1, [])], [(0, []), (0, [100, 101, 118])]], []) := by rfl
theorem al_cmp1 : verC (0, [[(1, [])], [(0, []), (0, [100, 101, 118])]], []) (0, [[(1, [])], [(0, [])]], []) = -1 := by rfl

end Go.Proofs.YtecgjbddcmpggaaDoor
