/- What a text's string is, byte by byte and code point by code point; it is read back: plain mathematics. -/
import Derived.Test.YtnlpdpbmmpeiaaaDoorQat
import Derived.Test.YtnlpdpbmmpeiaaaDoorList
namespace Go.Proofs.YtnlpdpbmmpeiaaaDoor

def hexd (n : Nat) : UInt8 := if n < 10 then UInt8.ofNat (48 + n) else UInt8.ofNat (87 + n)
/-- what stands for a byte in a string; [] : it stands for itself -/
def escB (c : Nat) : List UInt8 := if c = 34 then [92, 34] else if c = 92 then [92, 92] else if c = 8 then [92, 98] else if c = 9 then [92, 116] else if c = 10 then [92, 110]
  else if c = 12 then [92, 102] else if c = 13 then [92, 114] else if c < 32 then [92, 117, 48, 48, hexd (c / 16), hexd (c % 16)] else []
def escT (c : UInt8) : List UInt8 := if escB c.toNat = [] then [c] else escB c.toNat
def bodyT (l : List UInt8) : List UInt8 := l.flatMap escT
def quoteL (l : List UInt8) : List UInt8 := 34 :: (bodyT l ++ [34])

theorem escB_big {c : Nat} (h : 93 ≤ c) : escB c = [] := by
  unfold escB
  repeat rw [if_neg (by omega)]
theorem escB_len (c : Nat) : (escB c).length ≤ 6 := by
  unfold escB
  repeat' split
  all_goals simp
theorem escT_len (c : UInt8) : (escT c).length ≤ 6 := by
  unfold escT
  split
  · simp
  · exact escB_len _
theorem bodyT_len (l : List UInt8) : (bodyT l).length ≤ 6 * l.length := by
  unfold bodyT
  induction l with
  | nil => simp
  | cons c l ih =>
    have := escT_len c
    simp only [List.flatMap_cons, List.length_append, List.length_cons]
    omega
theorem bodyT_append (l m : List UInt8) : bodyT (l ++ m) = bodyT l ++ bodyT m := by simp [bodyT]

/-- what stands for a code point -/
def escP (r : Int) : List UInt8 := if r < 128 then escT (UInt8.ofNat r.toNat) else encB r
def bodyP (l : List Int) : List UInt8 := l.flatMap escP

theorem flat_self : ∀ l : List UInt8, (∀ c ∈ l, escB c.toNat = []) → bodyT l = l
  | [], _ => rfl
  | c :: l, h => by
    have h1 : escT c = [c] := by unfold escT; rw [if_pos (h c (by simp))]
    show escT c ++ bodyT l = _
    rw [h1, flat_self l (fun d hd => h d (by simp [hd]))]
    rfl
theorem bodyT_enc {r : Int} (h : isPt r) : bodyT (encB r) = escP r := by
  have hb : 0 ≤ r := by unfold isPt at h; omega
  unfold escP
  by_cases h1 : r < 128
  · rw [if_pos h1, encB_one h1]
    simp [bodyT]
  · rw [if_neg h1]
    exact flat_self _ (fun c hc => escB_big (by have := encB_big h (by omega) c hc; omega))
theorem bodyT_pts : ∀ l : List Int, (∀ r ∈ l, isPt r) → bodyT (encLB l) = bodyP l
  | [], _ => rfl
  | r :: l, h => by
    rw [encLB_cons, bodyT_append, bodyT_enc (h r (by simp)), bodyT_pts l (fun q hq => h q (by simp [hq]))]
    rfl

theorem low_hex : ∀ c : Fin 32, hex4 48 48 (hexd (c.val / 16)) (hexd (c.val % 16)) = some c.val := by decide +kernel
theorem escP_piece {r : Int} (h : isPt r) : Piece (escP r) r := by
  have hb : 0 ≤ r := by unfold isPt at h; omega
  unfold escP
  by_cases h1 : r < 128
  · rw [if_pos h1]
    obtain ⟨n, rfl⟩ := Int.eq_ofNat_of_zero_le hb
    have hn : (UInt8.ofNat (n : Int).toNat).toNat = n := by simp; omega
    unfold escT
    rw [hn]
    by_cases e1 : n = 34
    · subst e1; exact .letter 34 34 rfl
    by_cases e2 : n = 92
    · subst e2; exact .letter 92 92 rfl
    by_cases e3 : n = 8
    · subst e3; exact .letter 98 8 rfl
    by_cases e4 : n = 9
    · subst e4; exact .letter 116 9 rfl
    by_cases e5 : n = 10
    · subst e5; exact .letter 110 10 rfl
    by_cases e6 : n = 12
    · subst e6; exact .letter 102 12 rfl
    by_cases e7 : n = 13
    · subst e7; exact .letter 114 13 rfl
    by_cases e8 : n < 32
    · have e : escB n = [92, 117, 48, 48, hexd (n / 16), hexd (n % 16)] := by
        unfold escB
        rw [if_neg e1, if_neg e2, if_neg e3, if_neg e4, if_neg e5, if_neg e6, if_neg e7, if_pos e8]
      rw [e, if_neg (by simp)]
      exact .unit 48 48 _ _ n (low_hex ⟨n, e8⟩) h
    · have e : escB n = [] := by
        unfold escB
        rw [if_neg e1, if_neg e2, if_neg e3, if_neg e4, if_neg e5, if_neg e6, if_neg e7, if_neg e8]
      rw [e, if_pos rfl]
      have e9 : [UInt8.ofNat (n : Int).toNat] = encB n := (encB_one h1).symm
      rw [e9]
      exact .plain n h (by omega) (by omega) (by omega)
  · rw [if_neg h1]
    exact .plain r h (by omega) (by omega) (by omega)
theorem bodyP_body : ∀ l : List Int, (∀ r ∈ l, isPt r) → Body (bodyP l) l
  | [], _ => .nil
  | r :: l, h => .cons (escP_piece (h r (by simp))) (bodyP_body l (fun q hq => h q (by simp [hq])))

/-! ### valid texts -/
theorem vld_pts (s : ByteArray) : ∀ (f pos : Nat), s.size ≤ pos + f → vld s f pos = true → s.data.toList.drop pos = encLB (ptsD s f pos) ∧ ∀ r ∈ ptsD s f pos, isPt r
  | 0, pos, hf, _ => by
    have : s.data.toList.drop pos = [] := by rw [List.drop_eq_nil_iff, size_list]; omega
    rw [this]
    exact ⟨rfl, fun r hr => by simp [ptsD] at hr⟩
  | f + 1, pos, hf, hv => by
    by_cases hp : pos < s.size
    · rw [vld, if_pos hp] at hv
      by_cases hc : (Utf8.decode s pos).1 = 65533 ∧ (Utf8.decode s pos).2 = 1
      · rw [if_pos hc] at hv; cases hv
      · rw [if_neg hc] at hv
        have h0 : ¬ (codeD s pos).2 = 0 := fun x => hc (codeD_zero.2 x)
        have hbd := decode_bd s pos
        rw [← codeD_eq h0] at hv hbd
        have hl := drop_len (s := s) (a := pos) rfl
        have hne : s.data.toList.drop pos ≠ [] := by intro e; rw [e] at hl; simp at hl; omega
        have hps := codeD_drop s pos
        rw [hps] at h0 hbd hv
        obtain ⟨h1, h2, h3⟩ := plain_some hne (r := (plainL (s.data.toList.drop pos)).1) (n := (plainL (s.data.toList.drop pos)).2) rfl h0
        obtain ⟨i1, i2⟩ := vld_pts s f _ (by omega) hv
        rw [ptsD, if_pos hp, ← codeD_eq (by rw [hps]; exact h0), hps]
        refine ⟨?_, ?_⟩
        · rw [encLB_cons, ← i1, ← List.drop_drop]; exact h2
        · intro r hr
          rcases List.mem_cons.1 hr with rfl | hr
          · exact h1
          · exact i2 r hr
    · have : s.data.toList.drop pos = [] := by rw [List.drop_eq_nil_iff, size_list]; omega
      rw [this, ptsD, if_neg hp]
      exact ⟨rfl, fun r hr => by simp at hr⟩

theorem vld_of (s : ByteArray) : ∀ (l : List Int) (f pos : Nat), (∀ r ∈ l, isPt r) → s.data.toList.drop pos = encLB l → s.size ≤ pos + f → vld s f pos = true
  | [], f, pos, _, hd, _ => by
    have hl := drop_len hd
    exact vld_end s f pos (by simp [encLB] at hl; omega)
  | r :: l, 0, pos, _, hd, hf => vld_end s 0 pos (by omega)
  | r :: l, f + 1, pos, h, hd, hf => by
    have hl := drop_len hd
    have hr := h r (by simp)
    have hpos := encZ_pos r
    rw [← encB_len] at hpos
    rw [encLB_cons] at hd hl
    rw [List.length_append] at hl
    have hp : pos < s.size := by omega
    obtain ⟨h1, h2⟩ := plain_enc hr (encLB l)
    rw [← hd, ← codeD_drop] at h1 h2
    have h0 : ¬ (codeD s pos).2 = 0 := by omega
    have hc : ¬ ((Utf8.decode s pos).1 = 65533 ∧ (Utf8.decode s pos).2 = 1) := fun x => h0 (codeD_zero.1 x)
    rw [vld, if_pos hp, if_neg hc, ← codeD_eq h0, h2]
    refine vld_of s l f _ (fun q hq => h q (by simp [hq])) ?_ (by omega)
    rw [← List.drop_drop, hd, List.drop_left]

/-- a text is valid -/
def Vd (s : ByteArray) : Prop := vld s s.size 0 = true
theorem vd_pts {s : ByteArray} (h : vld s s.size 0 = true) : s.data.toList = encLB (ptsD s s.size 0) ∧ ∀ r ∈ ptsD s s.size 0, isPt r := by
  have := vld_pts s s.size 0 (by omega) h
  rwa [List.drop_zero] at this
theorem vd_of {s : ByteArray} {l : List Int} (h : ∀ r ∈ l, isPt r) (hs : s.data.toList = encLB l) : vld s s.size 0 = true :=
  vld_of s l s.size 0 h (by rw [List.drop_zero]; exact hs) (by omega)

/-- what is quoted is read back -/
theorem quote_back {s : ByteArray} (h : vld s s.size 0 = true) : takeL (quoteL s.data.toList) = some (s.data.toList, (quoteL s.data.toList).length) := by
  obtain ⟨h1, h2⟩ := vd_pts h
  have hq : quoteL s.data.toList = 34 :: (bodyP (ptsD s s.size 0) ++ [34]) := by
    unfold quoteL
    rw [h1, bodyT_pts _ h2]
  rw [hq, takeL_body (bodyP_body _ h2) [], ← h1]
  simp
theorem quote_pts {s : ByteArray} (h : vld s s.size 0 = true) : quoteL s.data.toList = 34 :: (bodyP (ptsD s s.size 0) ++ [34]) := by
  obtain ⟨h1, h2⟩ := vd_pts h
  unfold quoteL
  rw [h1, bodyT_pts _ h2]

/-- a text that needs no "\" -/
theorem self_of : ∀ l : List UInt8, bodyT l = l → ∀ c ∈ l, escB c.toNat = []
  | [], _, c, hc => by simp at hc
  | c :: l, h, d, hd => by
    have hlen : ∀ m : List UInt8, m.length ≤ (bodyT m).length := fun m => by
      induction m with
      | nil => simp [bodyT]
      | cons x m ih =>
        show _ ≤ (escT x ++ bodyT m).length
        have : 1 ≤ (escT x).length := by
          unfold escT
          split
          · simp
          · rename_i hne
            exact List.length_pos_iff.2 hne
        rw [List.length_append, List.length_cons]; omega
    have h1 : escT c ++ bodyT l = c :: l := h
    have hl := congrArg List.length h1
    rw [List.length_append, List.length_cons] at hl
    have := hlen l
    by_cases he : escB c.toNat = []
    · have e : escT c = [c] := by unfold escT; rw [if_pos he]
      rw [e] at h1
      simp only [List.cons_append, List.nil_append, List.cons.injEq, true_and] at h1
      rcases List.mem_cons.1 hd with rfl | hd
      · exact he
      · exact self_of l h1 d hd
    · have e : escT c = escB c.toNat := by unfold escT; rw [if_neg he]
      have h2 : 2 ≤ (escB c.toNat).length := by
        unfold escB at he ⊢
        repeat' split
        all_goals first | (simp; done) | (exfalso; apply he; repeat rw [if_neg (by assumption)])
      rw [e] at hl
      omega
theorem quote_self (l : List UInt8) : quoteL l = 34 :: (l ++ [34]) ↔ ∀ c ∈ l, escB c.toNat = [] := by
  unfold quoteL
  constructor
  · intro h
    simp only [List.cons.injEq, true_and] at h
    exact self_of l (List.append_cancel_right h)
  · intro h
    rw [flat_self l h]

end Go.Proofs.YtnlpdpbmmpeiaaaDoor
