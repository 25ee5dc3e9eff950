/- Capital letters, marks and components 0: what they leave of a version; over lists of bytes; no program. -/
import Derived.Test.YtecgjbddcmpggaaDoorVq
import Derived.Test.YtecgjbddcmpggaaDoorVo
namespace Go.Proofs.YtecgjbddcmpggaaDoor

/-! ### a text changed byte by byte -/
def seps : List UInt8 := [46, 95, 45]
/-- the byte at place i, changed -/
def modB (i : Nat) (c : UInt8) : UInt8 := if ltB c then c - 32 else if c = 46 then seps.getD (i % 3) 46 else c
def modL (l : List UInt8) : List UInt8 := l.mapIdx modB
/-- and k components 0 behind it -/
def noughts : Nat → List UInt8
  | 0 => []
  | k + 1 => noughts k ++ [46, 48]
theorem low_mod (i : Nat) (c : UInt8) : nrm (lowC (modB i c)) = nrm (lowC c) := by
  unfold modB
  by_cases h : ltB c = true
  · rw [if_pos h]
    have hb := (ltB_iff c).1 h
    have e : (c - 32).toNat = c.toNat - 32 := by
      rw [UInt8.toNat_sub_of_le]
      · rfl
      · show (32 : UInt8).toNat ≤ c.toNat
        have : (32 : UInt8).toNat = 32 := rfl
        omega
    have h1 : capB (c - 32) = true := by unfold capB; rw [e]; exact decide_eq_true (by omega)
    have h2 : capB c = false := by unfold capB; exact decide_eq_false (by omega)
    unfold lowC
    rw [if_pos h1, h2, if_neg (by simp)]
    congr 1
    apply UInt8.toNat_inj.1
    rw [UInt8.toNat_add, e]
    have : (32 : UInt8).toNat = 32 := rfl
    omega
  · rw [if_neg h]
    by_cases h2 : c = 46
    · subst h2
      rw [if_pos rfl]
      have h3 : i % 3 < 3 := Nat.mod_lt _ (by omega)
      have : i % 3 = 0 ∨ i % 3 = 1 ∨ i % 3 = 2 := by omega
      rcases this with e | e | e <;> rw [e] <;> decide
    · rw [if_neg h2]
theorem mod_low (l : List UInt8) : ((modL l).map lowC).map nrm = (l.map lowC).map nrm := by
  unfold modL
  apply List.ext_getElem
  · simp
  · intro i h1 h2
    simp only [List.getElem_map, List.getElem_mapIdx]
    exact low_mod i _
theorem modL_len (l : List UInt8) : (modL l).length = l.length := by unfold modL; simp
theorem noughts_len (k : Nat) : (noughts k).length = 2 * k := by
  induction k with
  | zero => rfl
  | succ k ih => rw [noughts, List.length_append, ih]; simp; omega

/-! ### marks don't matter -/
theorem cutL_nrm (c : UInt8) (hc : spB c = false) (hc2 : c ≠ 46) (s : List UInt8) : cutL c (s.map nrm) = (cutL c s).map fun p => (p.1.map nrm, p.2.map nrm) := by
  have key : ∀ b : UInt8, (nrm b != c) = (b != c) := by
    intro b
    cases hb : spB b with
    | true =>
      rw [nrm_sp hb]
      have h1 : (46 : UInt8) ≠ c := Ne.symm hc2
      have h2 : b ≠ c := by intro e; rw [e, hc] at hb; cases hb
      rw [bne_iff_ne.2 h1, bne_iff_ne.2 h2]
    | false => rw [nrm_no hb]
  have e1 : ∀ s : List UInt8, (s.map nrm).takeWhile (· != c) = (s.takeWhile (· != c)).map nrm := by
    intro s
    induction s with
    | nil => rfl
    | cons b l ih =>
      rw [List.map_cons, List.takeWhile_cons, List.takeWhile_cons, key b]
      cases b != c with
      | true => simp [ih]
      | false => rfl
  have e2 : ∀ s : List UInt8, (s.map nrm).dropWhile (· != c) = (s.dropWhile (· != c)).map nrm := by
    intro s
    induction s with
    | nil => rfl
    | cons b l ih =>
      rw [List.map_cons, List.dropWhile_cons, List.dropWhile_cons, key b]
      cases b != c with
      | true => simpa using ih
      | false => rfl
  have e3 : (c ∈ s.map nrm) ↔ c ∈ s := by
    rw [List.mem_map]
    constructor
    · rintro ⟨b, hb, he⟩
      have := key b
      rw [he] at this
      have h3 : (b != c) = false := by rw [← this]; simp
      have h4 : b = c := by simpa using h3
      rw [← h4]; exact hb
    · intro h
      exact ⟨c, h, nrm_no hc⟩
  unfold cutL
  by_cases h : c ∈ s
  · rw [if_pos h, if_pos (e3.2 h), e1, e2, ← List.map_drop]; rfl
  · rw [if_neg h, if_neg (fun h2 => h (e3.1 h2))]; rfl
theorem all_nrm : ∀ s : List UInt8, (s.map nrm).all dgB = s.all dgB
  | [] => rfl
  | b :: l => by
    rw [List.map_cons, List.all_cons, List.all_cons, all_nrm l]
    cases hb : spB b with
    | true => rw [nrm_sp hb, (sp_no hb).2]; rfl
    | false => rw [nrm_no hb]
theorem dg_nrm : ∀ s : List UInt8, s.all dgB = true → s.map nrm = s
  | [], _ => rfl
  | b :: l, h => by
    rw [List.all_cons, Bool.and_eq_true] at h
    have hb : spB b = false := by
      cases hs : spB b with
      | true => rw [(sp_no hs).2] at h; cases h.1
      | false => rfl
    rw [List.map_cons, nrm_no hb, dg_nrm l h.2]
theorem small_nrm (s : List UInt8) : smallL (s.map nrm) = smallL s := by
  unfold smallL
  by_cases h : s.all dgB = true
  · rw [dg_nrm s h]
  · rw [if_neg (fun h2 => h (by rw [← all_nrm]; exact h2.2.2)), if_neg (fun h2 => h h2.2.2)]
theorem tail_nrm (e : Int) (s : List UInt8) : tailL e (s.map nrm) = tailL e s := by
  unfold tailL
  rw [cutL_nrm 43 (by decide) (by decide)]
  cases cutL 43 s with
  | none => simp only [Option.map_none]; rw [rowL_nrm]
  | some p => simp only [Option.map_some]; rw [rowL_nrm, rowL_nrm]
theorem ver_nrm (s : List UInt8) : verL (s.map nrm) = verL s := by
  unfold verL
  rw [cutL_nrm 33 (by decide) (by decide)]
  cases cutL 33 s with
  | none => simp only [Option.map_none]; exact tail_nrm 0 s
  | some p =>
    simp only [Option.map_some]
    rw [small_nrm]
    congr 1
    funext e
    exact tail_nrm e p.2

/-! ### a text behind a text -/
theorem row_app : ∀ (u cur r : List UInt8), rowL cur (u ++ 46 :: r) = (rowL cur u).bind fun a => (rowL [] r).map (a ++ ·)
  | [], cur, r => by
    rw [List.nil_append, rowL_sp cur r (by decide), rowL_nil]
    cases compL cur <;> rfl
  | b :: u, cur, r => by
    rw [List.cons_append]
    cases hb : spB b with
    | true =>
      rw [rowL_sp cur _ hb, rowL_sp cur _ hb, row_app u [] r]
      cases compL cur with
      | none => rfl
      | some c =>
        cases rowL [] u with
        | none => rfl
        | some a =>
          cases rowL [] r with
          | none => rfl
          | some d => rfl
    | false => rw [rowL_no cur _ hb, rowL_no cur _ hb, row_app u (cur ++ [b]) r]
theorem row_nought (u : List UInt8) {a : Row} (h : rowL [] u = some a) : ∀ k, rowL [] (u ++ noughts k) = some (a ++ List.replicate k [zI])
  | 0 => by rw [noughts, List.append_nil, h]; simp
  | k + 1 => by
    rw [noughts, ← List.append_assoc, row_app (u ++ noughts k) [] [48], row_nought u h k]
    have e : rowL [] [48] = some [[zI]] := by rfl
    rw [e]
    simp [List.replicate_succ']
theorem cutL_app {c : UInt8} {s r : List UInt8} (h : c ∉ r) : cutL c (s ++ r) = (cutL c s).map fun p => (p.1, p.2 ++ r) := by
  unfold cutL
  by_cases hs : c ∈ s
  · rw [if_pos hs, if_pos (List.mem_append_left _ hs)]
    have e : ∀ s : List UInt8, c ∈ s → (s ++ r).takeWhile (· != c) = s.takeWhile (· != c) ∧ ((s ++ r).dropWhile (· != c)).drop 1 = (s.dropWhile (· != c)).drop 1 ++ r := by
      intro s
      induction s with
      | nil => intro h; cases h
      | cons b l ih =>
        intro hm
        rw [List.cons_append, List.takeWhile_cons, List.takeWhile_cons, List.dropWhile_cons, List.dropWhile_cons]
        by_cases hb : b = c
        · subst hb; simp
        · have hbc : (b != c) = true := bne_iff_ne.2 hb
          have := ih (by rcases List.mem_cons.1 hm with h2 | h2
                         · exact absurd h2.symm hb
                         · exact h2)
          rw [hbc]
          simp only [if_true]
          exact ⟨by rw [this.1], this.2⟩
    rw [(e s hs).1, (e s hs).2]; rfl
  · rw [if_neg hs, if_neg (fun h2 => by rcases List.mem_append.1 h2 with h3 | h3
                                        · exact hs h3
                                        · exact h h3)]
    rfl
theorem noughts_no (c : UInt8) (h : c ≠ 46) (h2 : c ≠ 48) : ∀ k, c ∉ noughts k
  | 0 => by simp [noughts]
  | k + 1 => by
    rw [noughts]
    intro hm
    rcases List.mem_append.1 hm with h3 | h3
    · exact noughts_no c h h2 k h3
    · simp at h3
      rcases h3 with h3 | h3
      · exact h h3
      · exact h2 h3
theorem row_ne : ∀ (s cur : List UInt8) {a : Row}, rowL cur s = some a → a ≠ []
  | [], cur, a, h => by
    rw [rowL_nil] at h
    cases hc : compL cur with
    | none => rw [hc] at h; cases h
    | some c => rw [hc] at h; cases h; simp
  | b :: s, cur, a, h => by
    cases hb : spB b with
    | true =>
      rw [rowL_sp cur _ hb] at h
      cases hc : compL cur with
      | none => rw [hc] at h; cases h
      | some c =>
        rw [hc] at h
        cases hr : rowL [] s with
        | none => rw [hr] at h; cases h
        | some r => rw [hr] at h; cases h; simp
    | false =>
      rw [rowL_no cur _ hb] at h
      exact row_ne s _ h
theorem tail_nought {e : Int} {s : List UInt8} {x : Ver} (h : tailL e s = some x) (hl : x.2.2 = []) (k : Nat) : tailL e (s ++ noughts k) = some (e, x.2.1 ++ List.replicate k [zI], []) ∧ x.1 = e := by
  unfold tailL at *
  rw [cutL_app (noughts_no 43 (by decide) (by decide) k)]
  cases hc : cutL 43 s with
  | none =>
    rw [hc] at h
    simp only [Option.map_none] at h ⊢
    cases hr : rowL [] s with
    | none => rw [hr] at h; cases h
    | some a =>
      rw [hr] at h
      cases h
      rw [row_nought s hr k]
      exact ⟨rfl, rfl⟩
  | some p =>
    rw [hc] at h
    simp only [] at h
    cases ha : rowL [] p.1 with
    | none => rw [ha] at h; cases h
    | some a =>
      rw [ha] at h
      cases hb : rowL [] p.2 with
      | none => rw [hb] at h; cases h
      | some b =>
        rw [hb] at h
        cases h
        exact absurd hl (row_ne _ _ hb)
theorem ver_nought {s : List UInt8} {x : Ver} (h : verL s = some x) (hl : x.2.2 = []) (k : Nat) : verL (s ++ noughts k) = some (x.1, x.2.1 ++ List.replicate k [zI], []) := by
  unfold verL at *
  rw [cutL_app (noughts_no 33 (by decide) (by decide) k)]
  cases hc : cutL 33 s with
  | none =>
    rw [hc] at h
    simp only [Option.map_none] at h ⊢
    obtain ⟨h1, h2⟩ := tail_nought h hl k
    rw [h1, h2]
  | some p =>
    rw [hc] at h
    simp only [Option.map_some] at h ⊢
    cases hs : smallL p.1 with
    | none => rw [hs] at h; cases h
    | some e =>
      rw [hs] at h
      simp only [Option.bind_some] at h ⊢
      obtain ⟨h1, h2⟩ := tail_nought h hl k
      rw [h1, h2]
theorem noughts_low (k : Nat) : (noughts k).map lowC = noughts k := by
  induction k with
  | zero => rfl
  | succ k ih => rw [noughts, List.map_append, ih]; rfl
theorem noughts_nrm (k : Nat) : (noughts k).map nrm = noughts k := by
  induction k with
  | zero => rfl
  | succ k ih => rw [noughts, List.map_append, ih]; rfl
/-- the changed text's version -/
theorem parse_nought {s : List UInt8} {x : Ver} (h : parseL s = some x) (hl : x.2.2 = []) (k : Nat) (hk : (modL s ++ noughts k).length ≤ 40) : parseL (modL s ++ noughts k) = some (x.1, x.2.1 ++ List.replicate k [zI], []) := by
  unfold parseL at *
  rw [if_pos hk]
  rw [List.length_append, modL_len] at hk
  rw [if_pos (by omega)] at h
  rw [List.map_append, noughts_low, ← ver_nrm, List.map_append, mod_low, noughts_nrm]
  exact ver_nought (by rw [ver_nrm]; exact h) hl k

/-! ### components 0 are held to be none -/
theorem rowsC_self {α : Type} (z : α) (f : α → α → Int) (h : Cmp f) (a : List α) : rowsC z f a a = 0 := (cmp_rows z h).self a
theorem row_pad : ∀ (a : Row) (k : Nat), rowC a (a ++ List.replicate k [zI]) = 0
  | [], k => by
    rw [List.nil_append]
    unfold rowC
    induction k with
    | zero => simp [rowsC, rowsR]
    | succ k ih =>
      rw [List.replicate_succ]
      have e : compC [] [zI] = 0 := by rfl
      simp only [rowsC, rowsR, e]
      simpa [rowsC] using ih
  | c :: a, k => by
    have ih := row_pad a k
    unfold rowC at *
    rw [List.cons_append, rowsC]
    have e : compC c ((c :: (a ++ List.replicate k [zI])).headD []) = 0 := by
      rw [List.headD_cons]; exact cmp_comp.self c
    rw [if_neg (by omega)]
    exact ih
theorem head_self {α : Type} (z : α) (f : α → α → Int) (hf : Cmp f) (h r : List α) (hr : r.take h.length = h) : headC z f h r = true := by
  unfold headC
  have hl : min r.length h.length = h.length := by
    have := congrArg List.length hr
    rw [List.length_take] at this
    omega
  rw [hl, hr]
  exact decide_eq_true (rowsC_self z f hf h)
theorem beg_pad (x : Ver) (hl : x.2.2 = []) (hp : x.2.1 ≠ []) (k : Nat) : begC (x.1, x.2.1 ++ List.replicate k [zI], []) x = true := by
  unfold begC
  have hlen : 0 < x.2.1.length := List.length_pos_iff.2 hp
  have h1 : headC [] compC (x.2.1.take (x.2.1.length - 1)) (x.2.1 ++ List.replicate k [zI]) = true := by
    apply head_self _ _ cmp_comp
    rw [List.length_take, Nat.min_eq_left (by omega), List.take_append_of_le_length (by omega)]
  have h2 : (x.2.1 ++ List.replicate k [zI]).getD (x.2.1.length - 1) [] = x.2.1.getD (x.2.1.length - 1) [] := by
    simp [List.getD_eq_getElem?_getD, List.getElem?_append_left (show x.2.1.length - 1 < x.2.1.length by omega)]
  rw [decide_eq_true ⟨hp, hl, rfl⟩, h1, h2, head_self _ _ cmp_item _ _ (List.take_length ..)]
  rfl
theorem ver_pad (x : Ver) (hl : x.2.2 = []) (k : Nat) : verC x (x.1, x.2.1 ++ List.replicate k [zI], []) = 0 := by
  unfold verC
  have e1 : Lib.compareInt x.1 x.1 = 0 := by simp [Lib.compareInt]
  simp only []
  rw [e1, row_pad, hl]
  simp [rowC, rowsC, rowsR]
theorem parts_ne {s : List UInt8} {x : Ver} (h : parseL s = some x) : x.2.1 ≠ [] := by
  unfold parseL at h
  split at h
  · unfold verL at h
    have key : ∀ e r, tailL e r = some x → x.2.1 ≠ [] := by
      intro e r h
      unfold tailL at h
      cases hc : cutL 43 r with
      | none =>
        rw [hc] at h
        simp only [] at h
        cases hr : rowL [] r with
        | none => rw [hr] at h; cases h
        | some a => rw [hr] at h; cases h; exact row_ne _ _ hr
      | some p =>
        rw [hc] at h
        simp only [] at h
        cases ha : rowL [] p.1 with
        | none => rw [ha] at h; cases h
        | some a =>
          rw [ha] at h
          cases hb : rowL [] p.2 with
          | none => rw [hb] at h; cases h
          | some b => rw [hb] at h; cases h; exact row_ne _ _ ha
    split at h
    · rename_i d r _
      cases hs : smallL d with
      | none => rw [hs] at h; cases h
      | some e => rw [hs] at h; exact key _ _ h
    · exact key _ _ h
  · cases h

end Go.Proofs.YtecgjbddcmpggaaDoor
