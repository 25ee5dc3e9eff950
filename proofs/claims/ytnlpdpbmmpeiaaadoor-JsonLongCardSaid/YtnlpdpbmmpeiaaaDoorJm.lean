/- What a text of JSON is, over a list of bytes (no program): the value that is read from the left, or the number of the first error. -/
import Derived.Test.YtnlpdpbmmpeiaaaDoorQm
import Derived.Test.YtnlpdpbmmpeiaaaDoorRtp
namespace Go.Proofs.YtnlpdpbmmpeiaaaDoor
open I2

/-- a value: kind, number, text, keys, kids -/
inductive NT
  | mk (kind n : Int) (text : List UInt8) (keys : List (List UInt8)) (kids : List NT)

inductive Res
  | bad (e : Nat)
  | ok (v : NT) (rest : List UInt8) (count : Nat)

def isBl (c : UInt8) : Prop := c.toNat = 9 ∨ c.toNat = 10 ∨ c.toNat = 13 ∨ c.toNat = 32
instance (c : UInt8) : Decidable (isBl c) := by unfold isBl; infer_instance
def skipB : List UInt8 → List UInt8
  | [] => []
  | c :: t => if isBl c then skipB t else c :: t
theorem skipB_le : ∀ l : List UInt8, (skipB l).length ≤ l.length
  | [] => Nat.le_refl _
  | c :: t => by
    unfold skipB
    split
    · have := skipB_le t; simp; omega
    · exact Nat.le_refl _
theorem skipB_drop : ∀ l : List UInt8, skipB l = l.drop (l.length - (skipB l).length)
  | [] => rfl
  | c :: t => by
    unfold skipB
    split
    · have h := skipB_drop t
      have hl := skipB_le t
      rw [List.length_cons, show t.length + 1 - (skipB t).length = (t.length - (skipB t).length) + 1 by omega, List.drop_succ_cons]
      exact h
    · simp
theorem skipB_head {l t : List UInt8} {c : UInt8} (h : skipB l = c :: t) : ¬ isBl c := by
  induction l with
  | nil => simp [skipB] at h
  | cons x l ih =>
    unfold skipB at h
    split at h
    · exact ih h
    · rename_i hx
      simp only [List.cons.injEq] at h
      rw [← h.1]; exact hx
theorem skipB_idem (l : List UInt8) : skipB (skipB l) = skipB l := by
  cases h : skipB l with
  | nil => rfl
  | cons c t => unfold skipB; rw [if_neg (skipB_head h)]

/-- what is read next: a value, the next one of an Array, the next member of an Object -/
inductive Md
  | val
  | arr (acc : List NT)
  | obj (ks : List (List UInt8)) (acc : List NT)

def litN (k : Int) : NT := .mk k 0 [] [] []
/-- a word -/
def wordR (w : List UInt8) (k : Int) (l : List UInt8) (c : Nat) : Res := if w.isPrefixOf l then .ok (litN k) (l.drop w.length) c else .bad 1
def numR (l : List UInt8) (c : Nat) : Res := match takeR l with
  | (v, z, none) => .ok (.mk 4 v [] [] []) (l.drop z) c
  | (_, _, some e) => .bad (e + 1)
def strR (l : List UInt8) (c : Nat) : Res := match takeL l with
  | some (x, n) => .ok (.mk 5 0 x [] []) (l.drop n) c
  | none => .bad 1

def wNull : List UInt8 := [110, 117, 108, 108]
def wFalse : List UInt8 := [102, 97, 108, 115, 101]
def wTrue : List UInt8 := [116, 114, 117, 101]

/-- f: how many steps at most; d: the depth; c: how many values so far -/
def pJ : Nat → Md → Nat → Nat → List UInt8 → Res
  | 0, _, _, _, _ => .bad 0
  | f + 1, .val, d, c, l =>
    if 20000 ≤ c ∧ skipB l ≠ [] then .bad 3 else
    match skipB l with
    | [] => .bad 1
    | x :: t =>
      if x.toNat = 110 then wordR wNull 1 (x :: t) (c + 1)
      else if x.toNat = 102 then wordR wFalse 2 (x :: t) (c + 1)
      else if x.toNat = 116 then wordR wTrue 3 (x :: t) (c + 1)
      else if x.toNat = 34 then strR (x :: t) (c + 1)
      else if x.toNat = 91 then (if 32 ≤ d then .bad 2 else match skipB t with
        | [] => pJ f (.arr []) d (c + 1) t
        | y :: u => if y.toNat = 93 then .ok (.mk 6 0 [] [] []) u (c + 1) else pJ f (.arr []) d (c + 1) t)
      else if x.toNat = 123 then (if 32 ≤ d then .bad 2 else match skipB t with
        | [] => pJ f (.obj [] []) d (c + 1) t
        | y :: u => if y.toNat = 125 then .ok (.mk 7 0 [] [] []) u (c + 1) else pJ f (.obj [] []) d (c + 1) t)
      else numR (x :: t) (c + 1)
  | f + 1, .arr acc, d, c, l =>
    match pJ f .val (d + 1) c l with
    | .bad e => .bad e
    | .ok v r c' => match skipB r with
      | [] => .bad 1
      | y :: u => if y.toNat = 93 then .ok (.mk 6 0 [] [] (acc ++ [v])) u c' else if y.toNat = 44 then pJ f (.arr (acc ++ [v])) d c' u else .bad 1
  | f + 1, .obj ks acc, d, c, l =>
    match takeL (skipB l) with
    | none => .bad 1
    | some (k, n) => if k ∈ ks then .bad 5 else match skipB ((skipB l).drop n) with
      | [] => .bad 1
      | y :: u => if y.toNat = 58 then (match pJ f .val (d + 1) c u with
        | .bad e => .bad e
        | .ok v r c' => match skipB r with
          | [] => .bad 1
          | y :: u => if y.toNat = 125 then .ok (.mk 7 0 [] (ks ++ [k]) (acc ++ [v])) u c' else if y.toNat = 44 then pJ f (.obj (ks ++ [k]) (acc ++ [v])) d c' u else .bad 1)
        else .bad 1

/-- a whole text: its value, or the number of its error -/
inductive Ans
  | bad (e : Nat)
  | ok (v : NT)
def pText (l : List UInt8) : Ans :=
  if 100000 < l.length then .bad 3 else match pJ (2 * l.length + 2) .val 0 0 l with
  | .bad e => .bad e
  | .ok v r _ => if skipB r = [] then .ok v else .bad 1

/-! ### a value takes bytes -/
theorem skipB_cons {l t : List UInt8} {c : UInt8} (h : skipB l = c :: t) : t.length < l.length := by
  have := skipB_le l
  rw [h, List.length_cons] at this
  omega

theorem wordR_ok {w l r : List UInt8} {k : Int} {c c' : Nat} {v : NT} (h : wordR w k l c = .ok v r c') (hw : w ≠ []) : r.length < l.length ∧ c' = c ∧ v = litN k ∧ r = l.drop w.length := by
  unfold wordR at h
  split at h
  · rename_i hp
    have := (List.isPrefixOf_iff_prefix.1 hp).length_le
    have hw2 := List.length_pos_iff.2 hw
    simp only [Res.ok.injEq] at h
    obtain ⟨rfl, rfl, rfl⟩ := h
    rw [List.length_drop]
    exact ⟨by omega, rfl, rfl, rfl⟩
  · cases h
theorem strR_ok {l r : List UInt8} {c c' : Nat} {v : NT} (h : strR l c = .ok v r c') : r.length < l.length ∧ c' = c := by
  unfold strR at h
  split at h
  · rename_i x n hx
    obtain ⟨b, t, ps, hl, _, _, hn⟩ := takeL_of hx
    simp only [Res.ok.injEq] at h
    obtain ⟨_, rfl, rfl⟩ := h
    rw [List.length_drop, hl]
    simp
    omega
  · cases h
theorem takeR_size {l : List UInt8} {v : Int} {z : Nat} (h : takeR l = (v, z, none)) : 0 < z ∧ z ≤ l.length := by
  unfold takeR at h
  split at h
  · simp at h
  · rename_i hf
    have hl := front_le l
    split at h
    · simp only [Prod.mk.injEq] at h
      obtain ⟨_, rfl, _⟩ := h
      exact ⟨by omega, hl⟩
    · simp at h
theorem numR_ok {l r : List UInt8} {c c' : Nat} {v : NT} (h : numR l c = .ok v r c') : r.length < l.length ∧ c' = c := by
  unfold numR at h
  split at h
  · rename_i w z hx
    obtain ⟨h1, h2⟩ := takeR_size hx
    simp only [Res.ok.injEq] at h
    obtain ⟨_, rfl, rfl⟩ := h
    rw [List.length_drop]
    exact ⟨by omega, rfl⟩
  · cases h

/-- a value takes bytes -/
theorem pJ_ok : ∀ (f : Nat) (m : Md) (d c : Nat) (l : List UInt8) (v : NT) (r : List UInt8) (c' : Nat), pJ f m d c l = .ok v r c' → r.length < l.length
  | 0, _, _, _, _, _, _, _, h => by simp [pJ] at h
  | f + 1, .val, d, c, l, v, r, c', h => by
    have ih := pJ_ok f
    unfold pJ at h
    split at h
    · cases h
    · have hs := skipB_le l
      split at h
      · cases h
      · rename_i x t hx
        have h1 := skipB_cons hx
        have hw : ∀ {r : List UInt8}, r.length < (x :: t).length → r.length < l.length := fun {r} hr => by simp only [List.length_cons] at hr; omega
        split at h
        · exact hw (wordR_ok h (by simp [wNull])).1
        split at h
        · exact hw (wordR_ok h (by simp [wFalse])).1
        split at h
        · exact hw (wordR_ok h (by simp [wTrue])).1
        split at h
        · exact hw (strR_ok h).1
        split at h
        · split at h
          · cases h
          · split at h
            · have := ih _ _ _ _ _ _ _ h; omega
            · rename_i y u hy
              have := skipB_cons hy
              split at h
              · simp only [Res.ok.injEq] at h
                obtain ⟨_, rfl, _⟩ := h
                omega
              · have := ih _ _ _ _ _ _ _ h; omega
        split at h
        · split at h
          · cases h
          · split at h
            · have := ih _ _ _ _ _ _ _ h; omega
            · rename_i y u hy
              have := skipB_cons hy
              split at h
              · simp only [Res.ok.injEq] at h
                obtain ⟨_, rfl, _⟩ := h
                omega
              · have := ih _ _ _ _ _ _ _ h; omega
        · exact hw (numR_ok h).1
  | f + 1, .arr acc, d, c, l, v, r, c', h => by
    have ih := pJ_ok f
    unfold pJ at h
    split at h
    · cases h
    · rename_i v0 r0 c0 h0
      have h1 := ih _ _ _ _ _ _ _ h0
      split at h
      · cases h
      · rename_i y u hy
        have := skipB_cons hy
        split at h
        · simp only [Res.ok.injEq] at h
          obtain ⟨_, rfl, _⟩ := h
          omega
        · split at h
          · have := ih _ _ _ _ _ _ _ h; omega
          · cases h
  | f + 1, .obj ks acc, d, c, l, v, r, c', h => by
    have ih := pJ_ok f
    unfold pJ at h
    split at h
    · cases h
    · rename_i k n hk
      split at h
      · cases h
      · split at h
        · cases h
        · rename_i y u hy
          have h2 := skipB_cons hy
          have h3 := skipB_le l
          rw [List.length_drop] at h2
          split at h
          · split at h
            · cases h
            · rename_i v0 r0 c0 h0
              have h1 := ih _ _ _ _ _ _ _ h0
              split at h
              · cases h
              · rename_i y2 u2 hy2
                have := skipB_cons hy2
                split at h
                · simp only [Res.ok.injEq] at h
                  obtain ⟨_, rfl, _⟩ := h
                  omega
                · split at h
                  · have := ih _ _ _ _ _ _ _ h; omega
                  · cases h
          · cases h

end Go.Proofs.YtnlpdpbmmpeiaaaDoor
