/- A text's pieces and its row of components: over lists of bytes; no program. -/
import Derived.Test.YtecgjbddcmpggaaDoorVm
import Derived.Lib.SplitLaws
import Derived.Lib.Replace
import Derived.Lib.CutLaws
namespace Go.Proofs.YtecgjbddcmpggaaDoor

theorem repl_all (c d : UInt8) : ∀ s : List UInt8, Lib.replaceK [c] [d] (Lib.count s [c]) s = s.map fun b => if b = c then d else b
  | [] => by rw [Lib.count_miss (by simp [Lib.index])]; rfl
  | b :: l => by
    have ih := repl_all c d l
    by_cases h : b = c
    · subst h
      have hix : Lib.index (b :: l) [b] = ((0 : Nat) : Int) := by rw [Lib.index]; simp [List.isPrefixOf]
      rw [Lib.count_cons_eq, Nat.add_comm, Lib.replaceK_hit _ _ _ _ _ hix]
      simpa using ih
    · rw [Lib.count_cons_ne b c l h]
      have hf : (b :: l).map (fun b => if b = c then d else b) = b :: l.map (fun b => if b = c then d else b) := by simp [h]
      rw [hf, ← ih]
      cases hk : Lib.count l [c] with
      | zero => rfl
      | succ k =>
        obtain ⟨i, hi⟩ := Lib.index_of_count (s := l) (old := [c]) (by omega)
        have hp : ([c] : List UInt8).isPrefixOf (b :: l) = false := by simp [List.isPrefixOf, Ne.symm h]
        have hix : Lib.index (b :: l) [c] = ((i + 1 : Nat) : Int) := by
          rw [Lib.index, hp, hi]
          have : ((i : Int) == -1) = false := by rw [beq_eq_false_iff_ne]; omega
          simp [this]
        rw [Lib.replaceK_hit _ _ _ _ _ hix, Lib.replaceK_hit _ _ _ _ _ hi]
        simp
theorem repl_one (c d : UInt8) (s : List UInt8) : Lib.replaceAll s [c] [d] = s.map fun b => if b = c then d else b := by
  unfold Lib.replaceAll Lib.replace
  by_cases h : c = d
  · subst h
    have e : (s.map fun b => if b = c then c else b) = s := by
      have : (fun b : UInt8 => if b = c then c else b) = id := by
        funext b
        by_cases hb : b = c <;> simp [hb]
      rw [this, List.map_id]
    rw [if_pos (by simp), e]
  · rw [if_neg (by simp; exact h)]
    unfold Lib.replaceNum
    rw [if_pos (by omega)]
    exact repl_all c d s
/-- every byte that parts as a point -/
def nrm (c : UInt8) : UInt8 := if spB c then 46 else c
theorem nrm_two (s : List UInt8) : (s.map fun b => if b = 95 then 46 else b).map (fun b => if b = 45 then 46 else b) = s.map nrm := by
  rw [List.map_map]
  congr 1
  funext b
  unfold nrm spB
  simp only [Function.comp]
  by_cases h1 : b = 95
  · subst h1; decide
  · by_cases h2 : b = 45
    · subst h2; decide
    · by_cases h3 : b = 46
      · subst h3; decide
      · simp [h1, h2, h3]
theorem nrm_no {c : UInt8} (h : spB c = false) : nrm c = c := by unfold nrm; rw [h]; rfl
theorem nrm_sp {c : UInt8} (h : spB c = true) : nrm c = 46 := by unfold nrm; rw [h]; rfl
theorem nrm_pt (c : UInt8) : spB (nrm c) = spB c := by
  cases h : spB c with
  | true => rw [nrm_sp h]; rfl
  | false => rw [nrm_no h, h]
theorem rowL_nrm : ∀ (s cur : List UInt8), rowL cur (s.map nrm) = rowL cur s
  | [], _ => rfl
  | b :: s, cur => by
    rw [List.map_cons]
    cases h : spB b with
    | true => rw [rowL_sp cur _ (by rw [nrm_pt, h]), rowL_sp cur _ h, rowL_nrm s]
    | false => rw [rowL_no cur _ (by rw [nrm_pt, h]), rowL_no cur _ h, nrm_no h, rowL_nrm s]

/-- the components of pieces -/
def mapO : List (List UInt8) → Option Row
  | [] => some []
  | p :: ps => (compL p).bind fun c => (mapO ps).map (c :: ·)
theorem mapO_one (p : List UInt8) : mapO [p] = (compL p).map fun c => [c] := by
  unfold mapO mapO
  cases compL p <;> rfl
theorem row_split : ∀ (s cur : List UInt8), (∀ b ∈ s, spB b = true → b = 46) → ∃ p ps, Lib.splitK [46] 0 (Lib.count s [46]) s = p :: ps ∧ rowL cur s = mapO ((cur ++ p) :: ps)
  | [], cur, _ => ⟨[], [], by rw [Lib.count_miss (by simp [Lib.index])]; rfl, by rw [List.append_nil, mapO_one]; rfl⟩
  | b :: l, cur, h => by
    have hl : ∀ x ∈ l, spB x = true → x = 46 := fun x hx => h x (List.mem_cons_of_mem _ hx)
    by_cases hb : b = 46
    · subst hb
      obtain ⟨p, ps, h1, h2⟩ := row_split l [] hl
      have hix : Lib.index (46 :: l) [46] = ((0 : Nat) : Int) := by rw [Lib.index]; simp [List.isPrefixOf]
      refine ⟨[], p :: ps, ?_, ?_⟩
      · rw [Lib.count_cons_eq, Nat.add_comm, Lib.splitK, hix, if_neg (by decide)]
        show _ = [] :: (p :: ps)
        rw [← h1]
        simp
      · rw [rowL_sp cur l (by decide), h2, List.append_nil, List.nil_append]
        rfl
    · have hs : spB b = false := by
        cases h3 : spB b with
        | true => exact absurd (h b (List.mem_cons_self ..) h3) hb
        | false => rfl
      obtain ⟨p, ps, h1, h2⟩ := row_split l (cur ++ [b]) hl
      refine ⟨b :: p, ps, ?_, by rw [rowL_no cur l hs, h2, List.append_assoc]; rfl⟩
      rw [Lib.count_cons_ne b 46 l hb]
      cases hk : Lib.count l [46] with
      | zero =>
        rw [hk] at h1
        have h3 : [l] = p :: ps := h1
        cases h3
        rfl
      | succ k =>
        obtain ⟨i, hi⟩ := Lib.index_of_count (s := l) (old := [46]) (by omega)
        have hp : ([46] : List UInt8).isPrefixOf (b :: l) = false := by simp [List.isPrefixOf, Ne.symm hb]
        have hne : ((i : Int) == -1) = false := by rw [beq_eq_false_iff_ne]; omega
        have hix : Lib.index (b :: l) [46] = ((i + 1 : Nat) : Int) := by
          rw [Lib.index, hp, hi]
          simp [hne]
        have hne2 : (((i + 1 : Nat) : Int) == -1) = false := by rw [beq_eq_false_iff_ne]; omega
        rw [hk, Lib.splitK, hi, hne] at h1
        rw [Lib.splitK, hix, hne2]
        simp only [Bool.false_eq_true, if_false] at h1 ⊢
        simp only [List.cons.injEq] at h1
        have e1 : ((i + 1 : Nat) : Int).toNat = i + 1 := by omega
        have e2 : ((i : Int)).toNat = i := by omega
        rw [e2] at h1
        rw [e1]
        simp only [Nat.add_zero, List.length_singleton] at h1 ⊢
        rw [List.take_succ_cons, h1.1]
        congr 1
        exact h1.2
theorem nrm_only (s : List UInt8) : ∀ b ∈ s.map nrm, spB b = true → b = 46 := by
  intro b hb h
  obtain ⟨c, _, rfl⟩ := List.mem_map.1 hb
  rw [nrm_pt] at h
  exact nrm_sp h

end Go.Proofs.YtecgjbddcmpggaaDoor
