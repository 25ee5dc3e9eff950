/- What a pattern matches, over lists of bytes (no program): by definition, parted in two, and by going back to the last star alone. -/
namespace Go.Proofs.YtpkhcelakfdjfaaDoor

/-- f of some tail of a list -/
def anyTail (f : List UInt8 → Bool) : List UInt8 → Bool
  | [] => f []
  | c :: s => f (c :: s) || anyTail f s
/-- does a pattern match a text? 42 is the star -/
def mB : List UInt8 → List UInt8 → Bool
  | [], s => s.isEmpty
  | a :: p, s => if a = 42 then anyTail (mB p) s else match s with
    | [] => false
    | c :: s' => a == c && mB p s'

theorem mB_nn : mB [] [] = true := rfl
theorem mB_nc (c : UInt8) (s : List UInt8) : mB [] (c :: s) = false := rfl
theorem mB_star (p s : List UInt8) : mB (42 :: p) s = anyTail (mB p) s := by rw [mB.eq_def]; simp
theorem mB_star_nil (p : List UInt8) : mB (42 :: p) [] = mB p [] := by rw [mB_star, anyTail]
theorem mB_star_cons (p : List UInt8) (c : UInt8) (s : List UInt8) : mB (42 :: p) (c :: s) = (mB p (c :: s) || mB (42 :: p) s) := by rw [mB_star, anyTail, mB_star]
theorem mB_one {a : UInt8} (h : a ≠ 42) (p : List UInt8) (c : UInt8) (s : List UInt8) : mB (a :: p) (c :: s) = (a == c && mB p s) := by simp [mB, h]
theorem mB_one_nil {a : UInt8} (h : a ≠ 42) (p : List UInt8) : mB (a :: p) [] = false := by simp [mB, h]

theorem anyTail_iff (f : List UInt8 → Bool) (s : List UInt8) : anyTail f s = true ↔ ∃ s1 s2, s = s1 ++ s2 ∧ f s2 = true := by
  induction s with
  | nil =>
    rw [anyTail]
    exact ⟨fun h => ⟨[], [], rfl, h⟩, fun ⟨s1, s2, e, h⟩ => by
      obtain ⟨rfl, rfl⟩ := List.append_eq_nil_iff.1 e.symm
      exact h⟩
  | cons c s ih =>
    rw [anyTail, Bool.or_eq_true, ih]
    constructor
    · rintro (h | ⟨s1, s2, rfl, h⟩)
      · exact ⟨[], _, rfl, h⟩
      · exact ⟨c :: s1, s2, rfl, h⟩
    · rintro ⟨s1, s2, e, h⟩
      cases s1 with
      | nil => left; rw [show c :: s = s2 from e]; exact h
      | cons d s1 =>
        injection e with e1 e2
        exact .inr ⟨s1, s2, e2, h⟩
theorem mB_star_iff (p s : List UInt8) : mB (42 :: p) s = true ↔ ∃ s1 s2, s = s1 ++ s2 ∧ mB p s2 = true := by rw [mB_star, anyTail_iff]

/-- a pattern in two parts matches a text in two parts -/
theorem mB_append (p q s : List UInt8) : mB (p ++ q) s = true ↔ ∃ s1 s2, s = s1 ++ s2 ∧ mB p s1 = true ∧ mB q s2 = true := by
  induction p generalizing s with
  | nil =>
    constructor
    · intro h; exact ⟨[], s, rfl, rfl, h⟩
    · rintro ⟨s1, s2, rfl, h1, h2⟩
      cases s1 with
      | nil => exact h2
      | cons c s1 => rw [mB_nc] at h1; cases h1
  | cons a p ih =>
    by_cases ha : a = 42
    · subst ha
      rw [List.cons_append, mB_star_iff]
      constructor
      · rintro ⟨t1, t2, rfl, h⟩
        obtain ⟨u1, u2, rfl, h1, h2⟩ := (ih _).1 h
        exact ⟨t1 ++ u1, u2, by rw [List.append_assoc], (mB_star_iff _ _).2 ⟨t1, u1, rfl, h1⟩, h2⟩
      · rintro ⟨s1, s2, rfl, h1, h2⟩
        obtain ⟨t1, t2, rfl, h⟩ := (mB_star_iff _ _).1 h1
        exact ⟨t1, t2 ++ s2, by rw [List.append_assoc], (ih _).2 ⟨t2, s2, rfl, h, h2⟩⟩
    · rw [List.cons_append]
      cases s with
      | nil =>
        rw [mB_one_nil ha]
        constructor
        · intro h; cases h
        · rintro ⟨s1, s2, e, h1, h2⟩
          obtain ⟨rfl, rfl⟩ := List.append_eq_nil_iff.1 e.symm
          rw [mB_one_nil ha] at h1; cases h1
      | cons c s =>
        rw [mB_one ha, Bool.and_eq_true, ih]
        constructor
        · rintro ⟨h, s1, s2, rfl, h1, h2⟩
          exact ⟨c :: s1, s2, rfl, by rw [mB_one ha, h, h1]; rfl, h2⟩
        · rintro ⟨s1, s2, e, h1, h2⟩
          cases s1 with
          | nil => rw [mB_one_nil ha] at h1; cases h1
          | cons d s1 =>
            injection e with e1 e2
            subst e1
            rw [mB_one ha, Bool.and_eq_true] at h1
            exact ⟨h1.1, s1, s2, e2, h1.2, h2⟩

/-- a part without a star matches itself alone -/
theorem mB_lit {q : List UInt8} (hq : ∀ a ∈ q, a ≠ 42) (s : List UInt8) : mB q s = true ↔ s = q := by
  induction q generalizing s with
  | nil => cases s <;> simp [mB]
  | cons a q ih =>
    have ha : a ≠ 42 := hq a (by simp)
    cases s with
    | nil => rw [mB_one_nil ha]; simp
    | cons c s =>
      rw [mB_one ha, Bool.and_eq_true, ih (fun b hb => hq b (by simp [hb]))]
      constructor
      · rintro ⟨h, rfl⟩; rw [eq_of_beq h]
      · intro h; injection h with h1 h2; subst h1; exact ⟨by simp, h2⟩
theorem mB_lit_append {q : List UInt8} (hq : ∀ a ∈ q, a ≠ 42) (P T : List UInt8) : mB (q ++ P) (q ++ T) = mB P T := by
  induction q with
  | nil => rfl
  | cons a q ih =>
    rw [List.cons_append, List.cons_append, mB_one (hq a (by simp)), ih (fun b hb => hq b (by simp [hb]))]
    simp
theorem star_any (s : List UInt8) : mB [42] s = true := (mB_star_iff _ _).2 ⟨s, [], by simp, rfl⟩
theorem star_suffix {P : List UInt8} {u : List UInt8} (t : List UInt8) (h : mB (42 :: P) u = true) : mB (42 :: P) (t ++ u) = true := by
  obtain ⟨s1, s2, rfl, h2⟩ := (mB_star_iff _ _).1 h
  exact (mB_star_iff _ _).2 ⟨t ++ s1, s2, by rw [List.append_assoc], h2⟩
theorem bool_iff {a b : Bool} (h : a = true ↔ b = true) : a = b := by cases a <;> cases b <;> simp_all

/-- a star takes the least that what stands between it and the next star allows -/
theorem greedy {q : List UInt8} (hq : ∀ a ∈ q, a ≠ 42) (P T : List UInt8) : mB (42 :: (q ++ 42 :: P)) (q ++ T) = mB (42 :: P) T := by
  apply bool_iff
  constructor
  · intro h
    obtain ⟨s1, s2, e, h2⟩ := (mB_star_iff _ _).1 h
    obtain ⟨v, u, rfl, h3, h4⟩ := (mB_append _ _ _).1 h2
    obtain rfl := (mB_lit hq _).1 h3
    have hl := congrArg List.length e
    simp only [List.length_append] at hl
    have e2 : T = T.take (T.length - u.length) ++ u := by
      have e3 : (v ++ T).drop (v.length + T.length - u.length) = u := by
        rw [e, ← List.append_assoc, List.drop_append_of_le_length (by simp; omega)]
        rw [List.drop_of_length_le (by simp; omega)]; rfl
      rw [List.drop_append, List.drop_of_length_le (by omega), List.nil_append] at e3
      have e4 : v.length + T.length - u.length - v.length = T.length - u.length := by omega
      rw [e4] at e3
      conv => lhs; rw [← List.take_append_drop (T.length - u.length) T, e3]
    rw [e2]
    exact star_suffix _ h4
  · intro h
    exact (mB_star_iff _ _).2 ⟨[], q ++ T, rfl, by rw [mB_lit_append hq]; exact h⟩

/-! ### the walk of the program: how much of the pattern (p) and of the text (i) is matched, the last star, and where the text that it takes ends -/
def GI (L S : List UInt8) (R : Bool) (p i : Nat) (star : Int) (taken : Nat) : Prop :=
  p ≤ L.length ∧ i ≤ S.length ∧ taken ≤ i ∧
    ((star = -1 ∧ taken = 0 ∧ R = mB (L.drop p) (S.drop i)) ∨
     ∃ (q : List UInt8) (st : Nat), star = st ∧ taken + q.length = i ∧ st + 1 + q.length = p ∧ L.drop st = 42 :: (q ++ L.drop p) ∧ S.drop taken = q ++ S.drop i ∧ (∀ a ∈ q, a ≠ 42) ∧ R = mB (L.drop st) (S.drop taken))
theorem GI.init (L S : List UInt8) : GI L S (mB L S) 0 0 (-1) 0 := ⟨Nat.zero_le _, Nat.zero_le _, Nat.le_refl _, .inl ⟨rfl, rfl, rfl⟩⟩
theorem drop_cons {L : List UInt8} {p : Nat} (h : p < L.length) : L.drop p = L[p] :: L.drop (p + 1) := List.drop_eq_getElem_cons h
theorem GI.star {L S : List UInt8} {R : Bool} {p i : Nat} {star : Int} {taken : Nat} (g : GI L S R p i star taken) (h : p < L.length) (h2 : L[p] = 42) : GI L S R (p + 1) i p i := by
  obtain ⟨g1, g2, g3, g4⟩ := g
  have e : L.drop p = 42 :: L.drop (p + 1) := by rw [drop_cons h, h2]
  refine ⟨h, g2, Nat.le_refl _, .inr ⟨[], p, rfl, rfl, rfl, e, rfl, by simp, ?_⟩⟩
  rcases g4 with ⟨rfl, rfl, rfl⟩ | ⟨q, st, rfl, k1, k2, k3, k4, k5, rfl⟩
  · rfl
  · rw [k3, k4, e, greedy k5]
theorem GI.byte {L S : List UInt8} {R : Bool} {p i : Nat} {star : Int} {taken : Nat} (g : GI L S R p i star taken) (h : p < L.length) (h2 : L[p] ≠ 42) (h3 : i < S.length) (h4 : L[p] = S[i]) : GI L S R (p + 1) (i + 1) star taken := by
  obtain ⟨g1, g2, g3, g4⟩ := g
  refine ⟨h, h3, by omega, ?_⟩
  rcases g4 with ⟨rfl, rfl, rfl⟩ | ⟨q, st, rfl, k1, k2, k3, k4, k5, rfl⟩
  · left
    refine ⟨rfl, rfl, ?_⟩
    rw [drop_cons h, drop_cons h3, mB_one h2, h4]; simp
  · right
    refine ⟨q ++ [L[p]], st, rfl, by simp; omega, by simp; omega, ?_, ?_, ?_, rfl⟩
    · rw [k3, drop_cons h]; simp
    · rw [k4, drop_cons h3, h4]; simp
    · intro a ha
      rcases List.mem_append.1 ha with ha | ha
      · exact k5 a ha
      · rw [List.mem_singleton.1 ha]; exact h2
theorem GI.done {L S : List UInt8} {R : Bool} {p i : Nat} {star : Int} {taken : Nat} (g : GI L S R p i star taken) (hi : i = S.length) (hp : ∀ h : p < L.length, L[p] ≠ 42) : R = decide (p = L.length) := by
  obtain ⟨g1, g2, g3, g4⟩ := g
  have es : S.drop i = [] := List.drop_of_length_le (by omega)
  by_cases h : p = L.length
  · have el : L.drop p = [] := List.drop_of_length_le (by omega)
    rw [decide_eq_true h]
    rcases g4 with ⟨rfl, rfl, rfl⟩ | ⟨q, st, rfl, k1, k2, k3, k4, k5, rfl⟩
    · rw [es, el]; rfl
    · rw [k3, k4, es, el]
      exact (mB_star_iff _ _).2 ⟨[], q ++ [], rfl, by rw [mB_lit_append k5]; rfl⟩
  · have h2 : p < L.length := by omega
    have el := drop_cons h2
    rw [decide_eq_false h]
    rcases g4 with ⟨rfl, rfl, rfl⟩ | ⟨q, st, rfl, k1, k2, k3, k4, k5, rfl⟩
    · rw [es, el, mB_one_nil (hp h2)]
    · rw [k3, k4, es, el, List.append_nil]
      rw [Bool.eq_false_iff]
      intro hc
      obtain ⟨s1, s2, e, h3⟩ := (mB_star_iff _ _).1 hc
      obtain ⟨v, u, rfl, h4, h5⟩ := (mB_append _ _ _).1 h3
      obtain rfl := (mB_lit k5 _).1 h4
      have hl := congrArg List.length e
      simp only [List.length_append] at hl
      have : u = [] := List.length_eq_zero_iff.1 (by omega)
      subst this
      rw [mB_one_nil (hp h2)] at h5
      cases h5
theorem no_head {P : List UInt8} {c : UInt8} {T : List UInt8} (h : ∀ a P', P = a :: P' → a ≠ 42 ∧ a ≠ c) : mB P (c :: T) = false := by
  cases P with
  | nil => rfl
  | cons a P => obtain ⟨h1, h2⟩ := h a P rfl; rw [mB_one h1]; simp [h2]
theorem no_here {L S : List UInt8} {p i : Nat} (hi : i < S.length) (hp : ∀ h : p < L.length, L[p] ≠ 42 ∧ L[p] ≠ S[i]) : mB (L.drop p) (S.drop i) = false := by
  rw [drop_cons hi]
  refine no_head fun a P' e => ?_
  by_cases h : p < L.length
  · rw [drop_cons h] at e
    injection e with e1 e2
    rw [← e1]; exact hp h
  · rw [List.drop_of_length_le (by omega)] at e; cases e
theorem GI.fail {L S : List UInt8} {R : Bool} {p i : Nat} {star : Int} {taken : Nat} (g : GI L S R p i star taken) (hi : i < S.length) (hp : ∀ h : p < L.length, L[p] ≠ 42 ∧ L[p] ≠ S[i]) (hs : star < 0) : R = false := by
  obtain ⟨g1, g2, g3, g4⟩ := g
  rcases g4 with ⟨rfl, rfl, rfl⟩ | ⟨q, st, rfl, k1, k2, k3, k4, k5, rfl⟩
  · exact no_here hi hp
  · omega
theorem GI.more {L S : List UInt8} {R : Bool} {p i : Nat} {star : Int} {taken : Nat} (g : GI L S R p i star taken) (hi : i < S.length) (hp : ∀ h : p < L.length, L[p] ≠ 42 ∧ L[p] ≠ S[i]) (hs : 0 ≤ star) :
    ∃ st : Nat, star = st ∧ st < L.length ∧ GI L S R (st + 1) (taken + 1) st (taken + 1) := by
  obtain ⟨g1, g2, g3, g4⟩ := g
  rcases g4 with ⟨rfl, rfl, rfl⟩ | ⟨q, st, rfl, k1, k2, k3, k4, k5, rfl⟩
  · omega
  have hst : st < L.length := by omega
  have ht : taken < S.length := by omega
  have e1 : L.drop (st + 1) = q ++ L.drop p := by
    have := drop_cons hst
    rw [k3] at this
    injection this with _ t; exact t.symm
  refine ⟨st, rfl, hst, by omega, by omega, Nat.le_refl _, .inr ⟨[], st, rfl, rfl, rfl, ?_, rfl, by simp, ?_⟩⟩
  · rw [k3, e1]; rfl
  · have hno : mB (q ++ L.drop p) (S.drop taken) = false := by rw [k4, mB_lit_append k5]; exact no_here hi hp
    rw [k3]
    conv => lhs; rw [drop_cons ht]
    rw [mB_star_cons, ← drop_cons ht, hno, Bool.false_or]
/-- what is left of a text after a jump is less -/
theorem GI.lt {L S : List UInt8} {R : Bool} {p i : Nat} {star : Int} {taken : Nat} (g : GI L S R p i star taken) : p ≤ L.length ∧ i ≤ S.length ∧ taken ≤ i := ⟨g.1, g.2.1, g.2.2.1⟩

/-! ### by all places: what was read of the pattern (k bytes) matches the first i bytes -/
def pm (L S : List UInt8) (k i : Nat) : Bool := mB (L.take k) (S.take i)
theorem pm_all (L S : List UInt8) : pm L S L.length S.length = mB L S := by unfold pm; rw [List.take_of_length_le (by omega), List.take_of_length_le (by omega)]
theorem pm_zero (L S : List UInt8) (i : Nat) (h : i ≤ S.length) : pm L S 0 i = decide (i = 0) := by
  unfold pm
  rw [List.take_zero]
  by_cases h0 : i = 0
  · subst h0; simp [mB]
  · have : S.take i ≠ [] := by intro e; have := congrArg List.length e; rw [List.length_take, Nat.min_eq_left h] at this; exact h0 this
    cases hs : S.take i with
    | nil => exact absurd hs this
    | cons c s => rw [mB_nc]; simp [h0]
theorem take_snocL {L : List UInt8} {k : Nat} (h : k < L.length) : L.take (k + 1) = L.take k ++ [L[k]] := List.take_succ_eq_append_getElem h
theorem pm_star_zero (L S : List UInt8) (k : Nat) (h : k < L.length) (h2 : L[k] = 42) : pm L S (k + 1) 0 = pm L S k 0 := by
  unfold pm
  rw [take_snocL h, h2, List.take_zero]
  apply bool_iff
  rw [mB_append]
  constructor
  · rintro ⟨s1, s2, e, h1, _⟩
    obtain ⟨rfl, rfl⟩ := List.append_eq_nil_iff.1 e.symm
    exact h1
  · intro h1; exact ⟨[], [], rfl, h1, rfl⟩
theorem pm_star_succ (L S : List UInt8) (k i : Nat) (h : k < L.length) (h2 : L[k] = 42) (hi : i < S.length) : pm L S (k + 1) (i + 1) = (pm L S k (i + 1) || pm L S (k + 1) i) := by
  unfold pm
  rw [take_snocL h, h2, take_snocL hi]
  apply bool_iff
  rw [Bool.or_eq_true, mB_append, mB_append]
  constructor
  · rintro ⟨s1, s2, e, h1, h3⟩
    rcases List.eq_nil_or_concat s2 with rfl | ⟨t, c, rfl⟩
    · left; rw [e, List.append_nil]; exact h1
    · right
      rw [List.concat_eq_append, ← List.append_assoc] at e
      obtain ⟨e1, e2⟩ := List.append_inj' e rfl
      exact ⟨s1, t, e1, h1, star_any _⟩
  · rintro (h1 | ⟨s1, s2, e, h1, h3⟩)
    · exact ⟨_, [], (List.append_nil _).symm, h1, rfl⟩
    · exact ⟨s1, s2 ++ [S[i]], by rw [e, List.append_assoc], h1, star_any _⟩
theorem one_iff {a : UInt8} (h : a ≠ 42) (s : List UInt8) : mB [a] s = true ↔ s = [a] := mB_lit (by simpa using h) s
theorem pm_one_zero (L S : List UInt8) (k : Nat) (h : k < L.length) (h2 : L[k] ≠ 42) : pm L S (k + 1) 0 = false := by
  unfold pm
  rw [take_snocL h, List.take_zero, Bool.eq_false_iff]
  intro hc
  obtain ⟨s1, s2, e, h1, h3⟩ := (mB_append _ _ _).1 hc
  obtain ⟨rfl, rfl⟩ := List.append_eq_nil_iff.1 e.symm
  have := (one_iff h2 _).1 h3
  cases this
theorem pm_one_succ (L S : List UInt8) (k i : Nat) (h : k < L.length) (h2 : L[k] ≠ 42) (hi : i < S.length) : pm L S (k + 1) (i + 1) = (pm L S k i && decide (S[i] = L[k])) := by
  unfold pm
  rw [take_snocL h, take_snocL hi]
  apply bool_iff
  rw [Bool.and_eq_true, mB_append]
  constructor
  · rintro ⟨s1, s2, e, h1, h3⟩
    obtain rfl := (one_iff h2 _).1 h3
    obtain ⟨e1, e2⟩ := List.append_inj' e rfl
    rw [e1]; injection e2 with e3 _
    exact ⟨h1, by simp [e3]⟩
  · rintro ⟨h1, h3⟩
    have h4 : S[i] = L[k] := by simpa using h3
    exact ⟨_, _, rfl, h1, by rw [h4]; exact (one_iff h2 _).2 rfl⟩

/-! ### the laws' mathematics -/
/-- a star more lets no text go -/
theorem star_more {a b s : List UInt8} (h : mB (a ++ b) s = true) : mB (a ++ 42 :: b) s = true := by
  obtain ⟨s1, s2, rfl, h1, h2⟩ := (mB_append _ _ _).1 h
  exact (mB_append _ _ _).2 ⟨s1, s2, rfl, h1, (mB_star_iff _ _).2 ⟨[], s2, rfl, h2⟩⟩
theorem two_stars (b s : List UInt8) : mB (42 :: 42 :: b) s = mB (42 :: b) s := by
  apply bool_iff
  rw [mB_star_iff, mB_star_iff]
  constructor
  · rintro ⟨s1, s2, rfl, h⟩
    obtain ⟨t1, t2, rfl, h2⟩ := (mB_star_iff _ _).1 h
    exact ⟨s1 ++ t1, t2, by rw [List.append_assoc], h2⟩
  · rintro ⟨s1, s2, rfl, h⟩
    exact ⟨s1, s2, rfl, (mB_star_iff _ _).2 ⟨[], s2, rfl, h⟩⟩
theorem two_stars_in (a b s : List UInt8) : mB (a ++ 42 :: 42 :: b) s = mB (a ++ 42 :: b) s := by
  apply bool_iff
  rw [mB_append, mB_append]
  constructor <;> rintro ⟨s1, s2, e, h1, h2⟩ <;> exact ⟨s1, s2, e, h1, by first | rwa [two_stars] at h2 | rwa [two_stars]⟩
theorem plain_eq {a s : List UInt8} (h : ∀ c ∈ a, c ≠ 42) : mB a s = decide (a = s) := by
  apply bool_iff
  rw [mB_lit h, decide_eq_true_iff]
  exact eq_comm
/-- a pattern matches itself without the stars -/
theorem least_ok (L : List UInt8) : mB L (L.filter fun c => c != 42) = true := by
  induction L with
  | nil => rfl
  | cons a L ih =>
    by_cases h : a = 42
    · subst h
      exact (mB_star_iff _ _).2 ⟨[], _, rfl, by simpa using ih⟩
    · have hf : (a :: L).filter (fun c => c != 42) = a :: L.filter (fun c => c != 42) := by simp [h]
      rw [hf, mB_one h, ih]; simp
/-- what was filled so far matches what was read of the pattern -/
theorem fill_star {P B : List UInt8} (h : mB P B = true) (F : List UInt8) : mB (P ++ [42]) (B ++ F) = true := (mB_append _ _ _).2 ⟨B, F, rfl, h, star_any _⟩
theorem fill_one {P B : List UInt8} (h : mB P B = true) {a : UInt8} (ha : a ≠ 42) : mB (P ++ [a]) (B ++ [a]) = true := (mB_append _ _ _).2 ⟨B, [a], rfl, h, (one_iff ha _).2 rfl⟩

end Go.Proofs.YtpkhcelakfdjfaaDoor
