/- The order of versions is one: over lists of bytes; no program. -/
import Derived.Test.YtecgjbddcmpggaaDoorVm
namespace Go.Proofs.YtecgjbddcmpggaaDoor

/-- an order that may hold different things the same -/
structure Cmp {α : Type} (f : α → α → Int) : Prop where
  anti : ∀ a b, f b a = - f a b
  rng : ∀ a b, f a b = -1 ∨ f a b = 0 ∨ f a b = 1
  tr : ∀ a b c, f a b ≤ 0 → f b c ≤ 0 → f a c ≤ 0
  ts : ∀ a b c, f a b ≤ 0 → f b c ≤ 0 → (f a b < 0 ∨ f b c < 0) → f a c < 0
section
variable {α : Type} {f g : α → α → Int}
theorem Cmp.self (h : Cmp f) (a : α) : f a a = 0 := by have := h.anti a a; omega
theorem Cmp.zero (h : Cmp f) {a b c : α} (h1 : f a b = 0) (h2 : f b c = 0) : f a c = 0 := by
  have r1 := h.tr a b c (by omega) (by omega)
  have e1 := h.anti a b
  have e2 := h.anti b c
  have e3 := h.anti a c
  have r2 := h.tr c b a (by omega) (by omega)
  omega
theorem lex3 (h : Cmp f) (x y z : α) (P Q R : Int) (hT : P ≤ 0 → Q ≤ 0 → R ≤ 0) (hS : P ≤ 0 → Q ≤ 0 → (P < 0 ∨ Q < 0) → R < 0) :
    ((if f x y ≠ 0 then f x y else P) ≤ 0 → (if f y z ≠ 0 then f y z else Q) ≤ 0 → (if f x z ≠ 0 then f x z else R) ≤ 0) ∧
    ((if f x y ≠ 0 then f x y else P) ≤ 0 → (if f y z ≠ 0 then f y z else Q) ≤ 0 → ((if f x y ≠ 0 then f x y else P) < 0 ∨ (if f y z ≠ 0 then f y z else Q) < 0) → (if f x z ≠ 0 then f x z else R) < 0) := by
  have a1 := h.tr x y z
  have a2 := h.ts x y z
  have a3 := @Cmp.zero _ _ h x y z
  by_cases c1 : f x y = 0
  · by_cases c2 : f y z = 0
    · have c3 := a3 c1 c2
      rw [if_neg (by omega), if_neg (by omega), if_neg (by omega)]
      exact ⟨hT, hS⟩
    · rw [if_neg (by omega), if_pos c2]
      constructor
      · intro _ h2
        have := a2 (by omega) h2 (.inr (by omega))
        rw [if_pos (by omega)]; omega
      · intro _ h2 _
        have := a2 (by omega) h2 (.inr (by omega))
        rw [if_pos (by omega)]; omega
  · rw [if_pos c1]
    by_cases c2 : f y z = 0
    · rw [if_neg (by omega)]
      constructor
      · intro h1 _
        have := a2 h1 (by omega) (.inl (by omega))
        rw [if_pos (by omega)]; omega
      · intro h1 _ _
        have := a2 h1 (by omega) (.inl (by omega))
        rw [if_pos (by omega)]; omega
    · rw [if_pos c2]
      constructor
      · intro h1 h2
        have := a2 h1 h2 (.inl (by omega))
        rw [if_pos (by omega)]; omega
      · intro h1 h2 _
        have := a2 h1 h2 (.inl (by omega))
        rw [if_pos (by omega)]; omega
theorem lex_anti (h : Cmp f) (x y : α) (P Q : Int) (hA : Q = - P) : (if f y x ≠ 0 then f y x else Q) = - (if f x y ≠ 0 then f x y else P) := by
  have := h.anti x y
  by_cases c : f x y = 0
  · rw [if_neg (by omega), if_neg (by omega), hA]
  · rw [if_pos (by omega), if_pos c, this]
theorem lex_rng (h : Cmp f) (x y : α) (P : Int) (hP : P = -1 ∨ P = 0 ∨ P = 1) : (if f x y ≠ 0 then f x y else P) = -1 ∨ (if f x y ≠ 0 then f x y else P) = 0 ∨ (if f x y ≠ 0 then f x y else P) = 1 := by
  by_cases c : f x y = 0
  · rw [if_neg (by omega)]; exact hP
  · rw [if_pos c]; exact h.rng x y
theorem Cmp.lex (hf : Cmp f) (hg : Cmp g) : Cmp (fun a b => if f a b ≠ 0 then f a b else g a b) where
  anti a b := lex_anti hf a b _ _ (hg.anti a b)
  rng a b := lex_rng hf a b _ (hg.rng a b)
  tr a b c := (lex3 hf a b c _ _ _ (hg.tr a b c) (hg.ts a b c)).1
  ts a b c := (lex3 hf a b c _ _ _ (hg.tr a b c) (hg.ts a b c)).2
theorem cmp_key (k : α → Int) : Cmp (fun a b => Lib.compareInt (k a) (k b)) where
  anti a b := by unfold Lib.compareInt; (repeat' split) <;> omega
  rng a b := by unfold Lib.compareInt; (repeat' split) <;> omega
  tr a b c := by unfold Lib.compareInt; (repeat' split) <;> omega
  ts a b c := by unfold Lib.compareInt; (repeat' split) <;> omega
theorem Cmp.on {β : Type} (h : Cmp f) (k : β → α) : Cmp (fun a b => f (k a) (k b)) where
  anti _a _b := h.anti _ _
  rng _a _b := h.rng _ _
  tr _a _b _c := h.tr _ _ _
  ts _a _b _c := h.ts _ _ _

/-! ### rows -/
theorem rowsC_head (z : α) (h : Cmp f) : ∀ a b : List α, rowsC z f a b = if f (a.headD z) (b.headD z) ≠ 0 then f (a.headD z) (b.headD z) else rowsC z f a.tail b.tail
  | [], [] => by simp [rowsC, rowsR, h.self z]
  | [], b :: l => by simp [rowsC, rowsR]
  | a :: r, l => by simp [rowsC]
theorem rows_all (z : α) (h : Cmp f) : ∀ (n : Nat) (a b c : List α), a.length ≤ n → b.length ≤ n → c.length ≤ n →
    (rowsC z f b a = - rowsC z f a b) ∧ (rowsC z f a b = -1 ∨ rowsC z f a b = 0 ∨ rowsC z f a b = 1) ∧ (rowsC z f a b ≤ 0 → rowsC z f b c ≤ 0 → rowsC z f a c ≤ 0) ∧ (rowsC z f a b ≤ 0 → rowsC z f b c ≤ 0 → (rowsC z f a b < 0 ∨ rowsC z f b c < 0) → rowsC z f a c < 0)
  | 0, a, b, c, ha, hb, hc => by
    have e1 : a = [] := List.eq_nil_of_length_eq_zero (by omega)
    have e2 : b = [] := List.eq_nil_of_length_eq_zero (by omega)
    have e3 : c = [] := List.eq_nil_of_length_eq_zero (by omega)
    subst e1; subst e2; subst e3
    simp [rowsC, rowsR]
  | n + 1, a, b, c, ha, hb, hc => by
    obtain ⟨i1, i2, i3, i4⟩ := rows_all z h n a.tail b.tail c.tail (by rw [List.length_tail]; omega) (by rw [List.length_tail]; omega) (by rw [List.length_tail]; omega)
    rw [rowsC_head z h b a, rowsC_head z h a b, rowsC_head z h b c, rowsC_head z h a c]
    have := lex3 h (a.headD z) (b.headD z) (c.headD z) _ _ _ i3 i4
    exact ⟨lex_anti h _ _ _ _ i1, lex_rng h _ _ _ i2, this.1, this.2⟩
theorem cmp_rows (z : α) (h : Cmp f) : Cmp (rowsC z f) where
  anti a b := (rows_all z h (max a.length b.length) a b [] (by omega) (by omega) (by simp)).1
  rng a b := (rows_all z h (max a.length b.length) a b [] (by omega) (by omega) (by simp)).2.1
  tr a b c := (rows_all z h (max a.length (max b.length c.length)) a b c (by omega) (by omega) (by omega)).2.2.1
  ts a b c := (rows_all z h (max a.length (max b.length c.length)) a b c (by omega) (by omega) (by omega)).2.2.2
end

/-! ### bytes -/
def cu (a b : UInt8) : Int := Lib.compareInt a.toNat b.toNat
theorem cmp_cu : Cmp cu := cmp_key (fun a : UInt8 => (a.toNat : Int))
theorem bytes_head (a b : UInt8) (r l : List UInt8) : Lib.compareBytes (a :: r) (b :: l) = if cu a b ≠ 0 then cu a b else Lib.compareBytes r l := by
  rw [Lib.compareBytes]
  unfold cu Lib.compareInt
  by_cases h1 : a < b
  · have h2 : a.toNat < b.toNat := h1
    rw [if_pos h1, if_pos (by omega : ((a.toNat : Int)) < b.toNat)]; simp
  · have h2 : ¬ a.toNat < b.toNat := h1
    rw [if_neg h1, if_neg (by omega : ¬ ((a.toNat : Int)) < b.toNat)]
    by_cases h3 : b < a
    · have h4 : b.toNat < a.toNat := h3
      rw [if_pos h3, if_pos (by omega : ((a.toNat : Int)) > b.toNat)]; simp
    · have h4 : ¬ b.toNat < a.toNat := h3
      rw [if_neg h3, if_neg (by omega : ¬ ((a.toNat : Int)) > b.toNat)]; simp
theorem bytes_anti : ∀ a b : List UInt8, Lib.compareBytes b a = - Lib.compareBytes a b
  | [], [] => rfl
  | [], _ :: _ => rfl
  | _ :: _, [] => rfl
  | a :: r, b :: l => by rw [bytes_head, bytes_head]; exact lex_anti cmp_cu a b _ _ (bytes_anti r l)
theorem bytes_rng : ∀ a b : List UInt8, Lib.compareBytes a b = -1 ∨ Lib.compareBytes a b = 0 ∨ Lib.compareBytes a b = 1
  | [], [] => .inr (.inl rfl)
  | [], _ :: _ => .inl rfl
  | _ :: _, [] => .inr (.inr rfl)
  | a :: r, b :: l => by rw [bytes_head]; exact lex_rng cmp_cu a b _ (bytes_rng r l)
theorem bytes_tr : ∀ a b c : List UInt8, (Lib.compareBytes a b ≤ 0 → Lib.compareBytes b c ≤ 0 → Lib.compareBytes a c ≤ 0) ∧ (Lib.compareBytes a b ≤ 0 → Lib.compareBytes b c ≤ 0 → (Lib.compareBytes a b < 0 ∨ Lib.compareBytes b c < 0) → Lib.compareBytes a c < 0)
  | [], [], [] => by simp [Lib.compareBytes]
  | [], [], _ :: _ => by simp [Lib.compareBytes]
  | [], _ :: _, [] => by simp [Lib.compareBytes]
  | [], _ :: _, _ :: _ => by simp [Lib.compareBytes]
  | _ :: _, [], [] => by simp [Lib.compareBytes]
  | _ :: _, [], _ :: _ => by simp [Lib.compareBytes]
  | _ :: _, _ :: _, [] => by simp [Lib.compareBytes]
  | a :: r, b :: l, c :: t => by
    have ih := bytes_tr r l t
    rw [bytes_head, bytes_head, bytes_head]
    exact lex3 cmp_cu a b c _ _ _ ih.1 ih.2
theorem cmp_bytes : Cmp Lib.compareBytes where
  anti := bytes_anti
  rng := bytes_rng
  tr a b c := (bytes_tr a b c).1
  ts a b c := (bytes_tr a b c).2

/-! ### items, components, versions -/
theorem kind_two {x : It} (h : kindI x = 2) : x.2 = [] := by
  unfold kindI at h
  by_cases h1 : x.2 = []
  · exact h1
  · rw [if_neg h1] at h
    by_cases h2 : x.2 = [100, 101, 118]
    · rw [if_pos h2] at h; exact absurd h (by decide)
    · rw [if_neg h2] at h
      by_cases h3 : x.2 = [112, 111, 115, 116]
      · rw [if_pos h3] at h; exact absurd h (by decide)
      · rw [if_neg h3] at h; exact absurd h (by decide)
theorem item_lex (a b : It) : itemC a b = if Lib.compareInt (kindI a) (kindI b) ≠ 0 then Lib.compareInt (kindI a) (kindI b) else if Lib.compareInt (if kindI a = 2 then a.1 else 0) (if kindI b = 2 then b.1 else 0) ≠ 0 then Lib.compareInt (if kindI a = 2 then a.1 else 0) (if kindI b = 2 then b.1 else 0) else Lib.compareBytes a.2 b.2 := by
  unfold itemC
  by_cases c : Lib.compareInt (kindI a) (kindI b) = 0
  · have hn : ¬ (Lib.compareInt (kindI a) (kindI b) ≠ 0) := by omega
    rw [if_neg hn, if_neg hn]
    have he : kindI a = kindI b := by
      unfold Lib.compareInt at c
      by_cases h1 : kindI a < kindI b
      · rw [if_pos h1] at c; omega
      · rw [if_neg h1] at c
        by_cases h2 : kindI a > kindI b
        · rw [if_pos h2] at c; omega
        · omega
    by_cases h2 : kindI a = 2
    · have h3 : kindI b = 2 := he.symm.trans h2
      have e1 : (if kindI a = 2 then a.1 else 0) = a.1 := if_pos h2
      have e2 : (if kindI b = 2 then b.1 else 0) = b.1 := if_pos h3
      rw [if_pos h2, e1, e2, kind_two h2, kind_two h3]
      by_cases c2 : Lib.compareInt a.1 b.1 = 0
      · rw [if_neg (by omega), c2]; rfl
      · rw [if_pos c2]
    · have h3 : ¬ kindI b = 2 := fun h => h2 (he.trans h)
      have e1 : (if kindI a = 2 then a.1 else 0) = 0 := if_neg h2
      have e2 : (if kindI b = 2 then b.1 else 0) = 0 := if_neg h3
      rw [if_neg h2, e1, e2, if_neg (by simp [Lib.compareInt])]
  · rw [if_pos c, if_pos c]
theorem cmp_item : Cmp itemC := by
  have h := (cmp_key kindI).lex ((cmp_key (fun a : It => if kindI a = 2 then a.1 else 0)).lex (cmp_bytes.on (fun a : It => a.2)))
  have e : itemC = fun a b => if Lib.compareInt (kindI a) (kindI b) ≠ 0 then Lib.compareInt (kindI a) (kindI b) else if Lib.compareInt (if kindI a = 2 then a.1 else 0) (if kindI b = 2 then b.1 else 0) ≠ 0 then Lib.compareInt (if kindI a = 2 then a.1 else 0) (if kindI b = 2 then b.1 else 0) else Lib.compareBytes a.2 b.2 := by
    funext a b
    exact item_lex a b
  rw [e]
  exact h
theorem cmp_comp : Cmp compC := cmp_rows zI cmp_item
theorem cmp_row : Cmp rowC := cmp_rows [] cmp_comp
theorem cmp_ver : Cmp verC := (cmp_key (fun a : Ver => a.1)).lex ((cmp_row.on (fun a : Ver => a.2.1)).lex (cmp_row.on (fun a : Ver => a.2.2)))

end Go.Proofs.YtecgjbddcmpggaaDoor
