/- Show: what a right value's text is; it is read as the value again; what is read is right (no program). -/
import Derived.Test.YtlaagdpanbineaaDoorJa
import Derived.Test.YtlaagdpanbineaaDoorQc
import Derived.Test.YtlaagdpanbineaaDoorNa
import Derived.Lib.ItoaLen
namespace Go.Proofs.YtlaagdpanbineaaDoor
open I2

def VdL (x : List UInt8) : Prop := vld ⟨x.toArray⟩ (⟨x.toArray⟩ : ByteArray).size 0 = true
theorem quoteL_back {x : List UInt8} (h : VdL x) : takeL (quoteL x) = some (x, (quoteL x).length) := quote_back h
theorem takeL_vd {l x : List UInt8} {n : Nat} (h : takeL l = some (x, n)) : VdL x ∧ x.length + 2 ≤ n := by
  obtain ⟨b, t, ps, rfl, hb, rfl, rfl⟩ := takeL_of h
  exact ⟨vd_of hb.pts rfl, by have := hb.le; omega⟩
theorem vdL_nil : VdL [] := by unfold VdL; decide +kernel

def comB (b : Bool) : List UInt8 := if b then [] else [44]
mutual
def showT : NT → List UInt8
  | .mk k n tx ks kids => if k = 1 then wNull else if k = 2 then wFalse else if k = 3 then wTrue else if k = 4 then Lib.itoa n else if k = 5 then quoteL tx
    else if k = 6 then 91 :: (showA true kids ++ [93]) else 123 :: (showO true kids ks ++ [125])
def showA : Bool → List NT → List UInt8
  | _, [] => []
  | b, t :: ts => comB b ++ (showT t ++ showA false ts)
def showO : Bool → List NT → List (List UInt8) → List UInt8
  | _, [], _ => []
  | b, t :: ts, ks => match ks with
    | [] => []
    | k :: ks => comB b ++ (quoteL k ++ 58 :: (showT t ++ showO false ts ks))
end
mutual
def rgt : Nat → NT → Prop
  | d, .mk k n tx ks kids => (k = 4 ∨ n = 0) ∧ (k = 5 ∨ tx = []) ∧ (k = 7 ∨ ks = []) ∧ (k = 6 ∨ k = 7 ∨ kids = []) ∧ 1 ≤ k ∧ k ≤ 7 ∧ -9223372036854775808 ≤ n ∧ n ≤ 9223372036854775807 ∧ VdL tx
    ∧ (6 ≤ k → d < 32) ∧ (k = 7 → ks.length = kids.length) ∧ (∀ x ∈ ks, VdL x) ∧ ks.Nodup ∧ rgtL (d + 1) kids
def rgtL : Nat → List NT → Prop
  | _, [] => True
  | d, t :: ts => rgt d t ∧ rgtL d ts
end
theorem rgtL_append (d : Nat) : ∀ a b : List NT, rgtL d (a ++ b) ↔ rgtL d a ∧ rgtL d b
  | [], b => by simp [rgtL]
  | t :: a, b => by simp only [List.cons_append, rgtL, rgtL_append d a b, and_assoc]
theorem rgtL_mem {d : Nat} : ∀ {l : List NT}, rgtL d l ↔ ∀ t ∈ l, rgt d t
  | [] => by simp [rgtL]
  | t :: l => by simp only [rgtL, rgtL_mem (l := l), List.mem_cons, forall_eq_or_imp]

/-! ### the text is read as the value -/
theorem itoa_head (n : Int) : ∃ x u, Lib.itoa n = x :: u ∧ (x.toNat = 45 ∨ (48 ≤ x.toNat ∧ x.toNat ≤ 57)) := by
  unfold Lib.itoa
  split
  · exact ⟨45, _, rfl, .inl rfl⟩
  · cases h : Lib.decDigits n.toNat with
    | nil => exact absurd h (dd_ne _)
    | cons x u => exact ⟨x, u, rfl, .inr (dd_dg n.toNat x (by rw [h]; simp))⟩
theorem showT_head {d : Nat} : ∀ {t : NT}, rgt d t → ∃ x u, showT t = x :: u ∧ ¬ isBl x ∧ x.toNat ≠ 93 ∧ x.toNat ≠ 125
  | .mk k n tx ks kids, h => by
    unfold showT
    by_cases h1 : k = 1
    · rw [if_pos h1]; exact ⟨110, _, rfl, by unfold isBl; decide, by decide, by decide⟩
    rw [if_neg h1]
    by_cases h2 : k = 2
    · rw [if_pos h2]; exact ⟨102, _, rfl, by unfold isBl; decide, by decide, by decide⟩
    rw [if_neg h2]
    by_cases h3 : k = 3
    · rw [if_pos h3]; exact ⟨116, _, rfl, by unfold isBl; decide, by decide, by decide⟩
    rw [if_neg h3]
    by_cases h4 : k = 4
    · rw [if_pos h4]
      obtain ⟨x, u, hx, h⟩ := itoa_head n
      exact ⟨x, u, hx, by unfold isBl; omega, by omega, by omega⟩
    rw [if_neg h4]
    by_cases h5 : k = 5
    · rw [if_pos h5]; exact ⟨34, _, rfl, by unfold isBl; decide, by decide, by decide⟩
    rw [if_neg h5]
    by_cases h6 : k = 6
    · rw [if_pos h6]; exact ⟨91, _, rfl, by unfold isBl; decide, by decide, by decide⟩
    rw [if_neg h6]; exact ⟨123, _, rfl, by unfold isBl; decide, by decide, by decide⟩
theorem wordR_pre (w z : List UInt8) (k : Int) (c : Nat) : wordR w k (w ++ z) c = .ok (litN k) z c := by
  unfold wordR
  rw [if_pos (List.isPrefixOf_iff_prefix.2 (List.prefix_append _ _)), List.drop_left]
theorem Stp.ends {z : List UInt8} (h : Stp z) : I2.Ends z := by have := h.b; unfold I2.Ends isDg; omega
theorem stp_44 (z : List UInt8) : Stp (44 :: z) := fun x u e => by simp only [List.cons.injEq] at e; rw [← e.1]; right; left; rfl
theorem stp_93 (z : List UInt8) : Stp (93 :: z) := fun x u e => by simp only [List.cons.injEq] at e; rw [← e.1]; right; right; left; rfl
theorem stp_125 (z : List UInt8) : Stp (125 :: z) := fun x u e => by simp only [List.cons.injEq] at e; rw [← e.1]; right; right; right; rfl
theorem stp_nil : Stp [] := fun x u e => by cases e
theorem showA_false (t : NT) (ts : List NT) : showA false (t :: ts) = 44 :: showA true (t :: ts) := by simp [showA, comB]
theorem showO_false (t : NT) (ts : List NT) (k : List UInt8) (ks : List (List UInt8)) : showO false (t :: ts) (k :: ks) = 44 :: showO true (t :: ts) (k :: ks) := by simp [showO, comB]
theorem skip_44 (z : List UInt8) : skipB (44 :: z) = 44 :: z := skip_no (by unfold isBl; decide)
theorem skip_93 (z : List UInt8) : skipB (93 :: z) = 93 :: z := skip_no (by unfold isBl; decide)
theorem skip_125 (z : List UInt8) : skipB (125 :: z) = 125 :: z := skip_no (by unfold isBl; decide)
theorem skip_58 (z : List UInt8) : skipB (58 :: z) = 58 :: z := skip_no (by unfold isBl; decide)
theorem skip_34 (z : List UInt8) : skipB (34 :: z) = 34 :: z := skip_no (by unfold isBl; decide)

mutual
theorem show_read : ∀ (t : NT) (d c : Nat) (z : List UInt8), rgt d t → c + cnt t ≤ 20000 → Stp z → pI .val d c (showT t ++ z) = .ok t z (c + cnt t)
  | .mk k n tx ks kids, d, c, z, h, hc, hz => by
    have hA := showA_read kids
    have hO := showO_read kids
    have hcn : cnt (.mk k n tx ks kids) = 1 + cntL kids := rfl
    rw [hcn] at hc ⊢
    unfold rgt at h
    obtain ⟨a1, a2, a3, a4, a5, a6, a7, a8, a9, a10, a11, a12, a13, a14⟩ := h
    unfold showT
    by_cases h1 : k = 1
    · rw [if_pos h1]
      obtain ⟨rfl, rfl, rfl, rfl⟩ : n = 0 ∧ tx = [] ∧ ks = [] ∧ kids = [] := ⟨by omega, a2.resolve_left (by omega), a3.resolve_left (by omega), (a4.resolve_left (by omega)).resolve_left (by omega)⟩
      have hs : skipB (wNull ++ z) = 110 :: ([117, 108, 108] ++ z) := skip_no (by unfold isBl; decide)
      rw [val_leaf hs (by omega) (by decide) (by decide), leaf_eq, if_pos (by decide)]
      rw [show (110 :: ([117, 108, 108] ++ z) : List UInt8) = wNull ++ z from rfl, wordR_pre, h1]
      rfl
    rw [if_neg h1]
    by_cases h2 : k = 2
    · rw [if_pos h2]
      obtain ⟨rfl, rfl, rfl, rfl⟩ : n = 0 ∧ tx = [] ∧ ks = [] ∧ kids = [] := ⟨by omega, a2.resolve_left (by omega), a3.resolve_left (by omega), (a4.resolve_left (by omega)).resolve_left (by omega)⟩
      have hs : skipB (wFalse ++ z) = 102 :: ([97, 108, 115, 101] ++ z) := skip_no (by unfold isBl; decide)
      rw [val_leaf hs (by omega) (by decide) (by decide), leaf_eq, if_neg (by decide), if_pos (by decide)]
      rw [show (102 :: ([97, 108, 115, 101] ++ z) : List UInt8) = wFalse ++ z from rfl, wordR_pre, h2]
      rfl
    rw [if_neg h2]
    by_cases h3 : k = 3
    · rw [if_pos h3]
      obtain ⟨rfl, rfl, rfl, rfl⟩ : n = 0 ∧ tx = [] ∧ ks = [] ∧ kids = [] := ⟨by omega, a2.resolve_left (by omega), a3.resolve_left (by omega), (a4.resolve_left (by omega)).resolve_left (by omega)⟩
      have hs : skipB (wTrue ++ z) = 116 :: ([114, 117, 101] ++ z) := skip_no (by unfold isBl; decide)
      rw [val_leaf hs (by omega) (by decide) (by decide), leaf_eq, if_neg (by decide), if_neg (by decide), if_pos (by decide)]
      rw [show (116 :: ([114, 117, 101] ++ z) : List UInt8) = wTrue ++ z from rfl, wordR_pre, h3]
      rfl
    rw [if_neg h3]
    by_cases h4 : k = 4
    · rw [if_pos h4]
      obtain ⟨rfl, rfl, rfl⟩ : tx = [] ∧ ks = [] ∧ kids = [] := ⟨a2.resolve_left (by omega), a3.resolve_left (by omega), (a4.resolve_left (by omega)).resolve_left (by omega)⟩
      obtain ⟨x, u, hx, hxx⟩ := itoa_head n
      have hs : skipB (Lib.itoa n ++ z) = x :: (u ++ z) := by rw [hx]; exact skip_no (by unfold isBl; omega)
      rw [val_leaf hs (by omega) (by omega) (by omega), leaf_eq, if_neg (by omega), if_neg (by omega), if_neg (by omega), if_neg (by omega)]
      rw [show x :: (u ++ z) = Lib.itoa n ++ z by rw [hx]; rfl]
      unfold numR
      rw [takeR_itoa n hz.ends a7 a8]
      simp only []
      rw [List.drop_left, h4]
      rfl
    rw [if_neg h4]
    by_cases h5 : k = 5
    · rw [if_pos h5]
      obtain ⟨rfl, rfl, rfl⟩ : n = 0 ∧ ks = [] ∧ kids = [] := ⟨by omega, a3.resolve_left (by omega), (a4.resolve_left (by omega)).resolve_left (by omega)⟩
      have hs : skipB (quoteL tx ++ z) = 34 :: (bodyT tx ++ [34] ++ z) := skip_no (by unfold isBl; decide)
      rw [val_leaf hs (by omega) (by decide) (by decide), leaf_eq, if_neg (by decide), if_neg (by decide), if_neg (by decide), if_pos (by decide)]
      rw [show (34 :: (bodyT tx ++ [34] ++ z) : List UInt8) = quoteL tx ++ z from rfl]
      unfold strR
      rw [takeL_app (quoteL_back a9)]
      simp only []
      rw [List.drop_left, h5]
      rfl
    rw [if_neg h5]
    by_cases h6 : k = 6
    · rw [if_pos h6]
      obtain ⟨rfl, rfl, rfl⟩ : n = 0 ∧ tx = [] ∧ ks = [] := ⟨by omega, a2.resolve_left (by omega), a3.resolve_left (by omega)⟩
      rw [List.cons_append, List.append_assoc]
      have hs : skipB (91 :: (showA true kids ++ ([93] ++ z))) = 91 :: (showA true kids ++ ([93] ++ z)) := skip_no (by unfold isBl; decide)
      rw [val_arr hs (by omega) (by decide) (a10 (by omega))]
      cases kids with
      | nil =>
        simp only [showA, List.nil_append, List.cons_append]
        rw [skip_93]
        simp only []
        rw [if_pos (by decide), h6]
        rfl
      | cons t ts =>
        obtain ⟨x, u, hx, hb, h93, _⟩ := showT_head a14.1
        have hsk : skipB (showA true (t :: ts) ++ ([93] ++ z)) = x :: (u ++ showA false ts ++ ([93] ++ z)) := by
          simp only [showA, comB, if_true, List.nil_append]
          rw [hx]
          exact skip_no hb
        rw [hsk]
        simp only []
        rw [if_neg h93]
        have := hA [] d (c + 1) z (by simp) a14 (by omega)
        rw [show ([93] ++ z : List UInt8) = 93 :: z from rfl, this, h6]
        rw [List.nil_append]
        congr 1
        omega
    rw [if_neg h6]
    obtain rfl : k = 7 := by omega
    obtain ⟨rfl, rfl⟩ : n = 0 ∧ tx = [] := ⟨by omega, a2.resolve_left (by omega)⟩
    rw [List.cons_append, List.append_assoc]
    have hs : skipB (123 :: (showO true kids ks ++ ([125] ++ z))) = 123 :: (showO true kids ks ++ ([125] ++ z)) := skip_no (by unfold isBl; decide)
    have hlen := a11 rfl
    rw [val_obj hs (by omega) (by decide) (a10 (by omega))]
    cases kids with
    | nil =>
      cases ks with
      | cons k ks => simp at hlen
      | nil =>
        simp only [showO, List.nil_append, List.cons_append]
        rw [skip_125]
        simp only []
        rw [if_pos (by decide)]
        rfl
    | cons t ts =>
      cases ks with
      | nil => simp at hlen
      | cons k ks =>
        have hsk : skipB (showO true (t :: ts) (k :: ks) ++ ([125] ++ z)) = 34 :: (bodyT k ++ [34] ++ 58 :: (showT t ++ showO false ts ks) ++ ([125] ++ z)) := by
          simp only [showO, comB, if_true, List.nil_append, quoteL]
          exact skip_no (by unfold isBl; decide)
        rw [hsk]
        simp only []
        rw [if_neg (by decide)]
        have := hO (k :: ks) [] [] d (c + 1) z (by simp) hlen a14 (by omega) a12 (by simpa using a13)
        rw [show ([125] ++ z : List UInt8) = 125 :: z from rfl, this]
        rw [List.nil_append, List.nil_append]
        congr 1
        omega
termination_by t => SizeOf.sizeOf t
theorem showA_read : ∀ (kids : List NT) (acc : List NT) (d c : Nat) (z : List UInt8), kids ≠ [] → rgtL (d + 1) kids → c + cntL kids ≤ 20000 → pI (.arr acc) d c (showA true kids ++ 93 :: z) = .ok (.mk 6 0 [] [] (acc ++ kids)) z (c + cntL kids)
  | [], _, _, _, _, h, _, _ => absurd rfl h
  | t :: ts, acc, d, c, z, _, h, hc => by
    have hT := show_read t
    have hA := showA_read ts
    simp only [cntL] at hc ⊢
    rw [pI_arr]
    rw [show showA true (t :: ts) ++ 93 :: z = showT t ++ (showA false ts ++ 93 :: z) by simp [showA, comB]]
    have hst : Stp (showA false ts ++ 93 :: z) := by
      cases ts with
      | nil => exact stp_93 z
      | cons t2 ts => rw [showA_false]; exact stp_44 _
    rw [hT (d + 1) c _ h.1 (by omega) hst]
    simp only []
    cases ts with
    | nil =>
      simp only [showA, List.nil_append]
      rw [skip_93]
      simp only []
      rw [if_pos (by decide)]
      simp [cntL]
    | cons t2 ts =>
      rw [showA_false, List.cons_append, skip_44]
      simp only []
      rw [if_neg (by decide), if_pos (by decide), hA (acc ++ [t]) d (c + cnt t) z (by simp) h.2 (by omega), List.append_assoc]
      rw [show c + cnt t + cntL (t2 :: ts) = c + (cnt t + cntL (t2 :: ts)) by omega]
      rfl
termination_by kids => SizeOf.sizeOf kids
theorem showO_read : ∀ (kids : List NT) (ks ks0 : List (List UInt8)) (acc : List NT) (d c : Nat) (z : List UInt8), kids ≠ [] → ks.length = kids.length → rgtL (d + 1) kids → c + cntL kids ≤ 20000 → (∀ x ∈ ks, VdL x) → (ks0 ++ ks).Nodup →
    pI (.obj ks0 acc) d c (showO true kids ks ++ 125 :: z) = .ok (.mk 7 0 [] (ks0 ++ ks) (acc ++ kids)) z (c + cntL kids)
  | [], _, _, _, _, _, _, h, _, _, _, _, _ => absurd rfl h
  | t :: ts, [], _, _, _, _, _, _, h, _, _, _, _ => by simp at h
  | t :: ts, k :: ks, ks0, acc, d, c, z, _, hlen, h, hc, hv, hnd => by
    have hT := show_read t
    have hO := showO_read ts
    simp only [cntL] at hc ⊢
    simp only [List.length_cons, Nat.add_right_cancel_iff] at hlen
    rw [pI_obj]
    rw [show showO true (t :: ts) (k :: ks) ++ 125 :: z = quoteL k ++ (58 :: (showT t ++ (showO false ts ks ++ 125 :: z))) by simp [showO, comB]]
    have hsk : skipB (quoteL k ++ (58 :: (showT t ++ (showO false ts ks ++ 125 :: z)))) = quoteL k ++ (58 :: (showT t ++ (showO false ts ks ++ 125 :: z))) := skip_no (by unfold isBl; decide)
    rw [hsk, takeL_app (quoteL_back (hv k (by simp)))]
    simp only []
    rw [if_neg (by
      have h1 := (List.nodup_append.1 hnd).2.2
      exact fun e => h1 k e k (by simp) rfl)]
    rw [List.drop_left, skip_58]
    simp only []
    rw [if_pos (by decide)]
    have hst : Stp (showO false ts ks ++ 125 :: z) := by
      cases ts with
      | nil => simp only [showO, List.nil_append]; exact stp_125 z
      | cons t2 ts =>
        cases ks with
        | nil => simp at hlen
        | cons k2 ks => rw [showO_false]; exact stp_44 _
    rw [hT (d + 1) c _ h.1 (by omega) hst]
    simp only []
    cases ts with
    | nil =>
      cases ks with
      | cons k2 ks => simp at hlen
      | nil =>
        simp only [showO, List.nil_append]
        rw [skip_125]
        simp only []
        rw [if_pos (by decide)]
        simp [cntL]
    | cons t2 ts =>
      cases ks with
      | nil => simp at hlen
      | cons k2 ks =>
        rw [showO_false, List.cons_append, skip_44]
        simp only []
        rw [if_neg (by decide), if_pos (by decide), hO (k2 :: ks) (ks0 ++ [k]) (acc ++ [t]) d (c + cnt t) z (by simp) hlen h.2 (by omega) (fun x hx => hv x (by simp [hx])) (by rw [List.append_assoc]; exact hnd), List.append_assoc, List.append_assoc]
        rw [show c + cnt t + cntL (t2 :: ts) = c + (cnt t + cntL (t2 :: ts)) by omega]
        rfl
termination_by kids => SizeOf.sizeOf kids
end

theorem show_text {t : NT} (h : rgt 0 t) (hc : cnt t ≤ 20000) (hl : (showT t).length ≤ 100000) : pText (showT t) = .ok t := by
  rw [pText_eq, if_neg (by omega)]
  have := show_read t 0 0 [] h (by omega) stp_nil
  rw [List.append_nil] at this
  rw [this]
  rfl

/-! ### what is read is right -/
mutual
def szT : NT → Nat
  | .mk _ _ tx ks kids => 1 + tx.length + (ks.map fun k => k.length + 1).sum + szL kids
def szL : List NT → Nat
  | [] => 0
  | t :: ts => szT t + szL ts
end
theorem szL_append : ∀ a b : List NT, szL (a ++ b) = szL a + szL b
  | [], b => by simp [szL]
  | t :: a, b => by simp [szL, szL_append a b]; omega

def kidsOf : NT → List NT
  | .mk _ _ _ _ kids => kids
/-- what is so of a value that was read in a mode -/
def Fit : Md → Nat → Nat → Nat → NT → Nat → Nat → Prop
  | .val, d, c, ll, v, rl, c' => rgt d v ∧ c' = c + cnt v ∧ szT v + rl ≤ ll
  | .arr acc, d, c, ll, v, rl, c' => d < 32 → rgtL (d + 1) acc → rgt d v ∧ c' + 1 + cntL acc = c + cnt v ∧ szT v + rl ≤ ll + 1 + szL acc
  | .obj ks acc, d, c, ll, v, rl, c' => d < 32 → rgtL (d + 1) acc → ks.length = acc.length → ks.Nodup → (∀ x ∈ ks, VdL x) →
    rgt d v ∧ c' + 1 + cntL acc = c + cnt v ∧ szT v + rl ≤ ll + 1 + szL acc + (ks.map fun k => k.length + 1).sum

theorem rgt_lit (d : Nat) (k : Int) (h : k = 1 ∨ k = 2 ∨ k = 3) : rgt d (litN k) := by
  unfold litN rgt
  exact ⟨.inr rfl, .inr rfl, .inr rfl, .inr (.inr rfl), by omega, by omega, by omega, by omega, vdL_nil, by omega, by omega, by simp, by simp, by simp [rgtL]⟩
theorem rgt_arr {d : Nat} {l : List NT} (hd : d < 32) (h : rgtL (d + 1) l) : rgt d (.mk 6 0 [] [] l) := by
  unfold rgt
  exact ⟨.inr rfl, .inr rfl, .inr rfl, .inl rfl, by omega, by omega, by omega, by omega, vdL_nil, fun _ => hd, by omega, by simp, by simp, h⟩
theorem rgt_obj {d : Nat} {ks : List (List UInt8)} {l : List NT} (hd : d < 32) (hl : ks.length = l.length) (hv : ∀ x ∈ ks, VdL x) (hn : ks.Nodup) (h : rgtL (d + 1) l) : rgt d (.mk 7 0 [] ks l) := by
  unfold rgt
  exact ⟨.inr rfl, .inr rfl, .inl rfl, .inr (.inl rfl), by omega, by omega, by omega, by omega, vdL_nil, fun _ => hd, fun _ => hl, hv, hn, h⟩
theorem wholeV_bd {l : List UInt8} {v : Int} (hf : front l ≠ 0) (h : wholeV (l.take (front l)) = some v) : -9223372036854775808 ≤ v ∧ v ≤ 9223372036854775807 := by
  obtain ⟨D, hn, hd, ⟨_, e⟩ | ⟨_, e⟩⟩ := front_cases hf
  · rw [e] at h
    unfold wholeV at h
    rw [atoi_neg D hd hn] at h
    by_cases hc : valFrom 0 D ≤ 9223372036854775808
    · rw [if_pos hc] at h; simp only [Option.some.injEq] at h; omega
    · rw [if_neg hc] at h; cases h
  · rw [e] at h
    unfold wholeV at h
    rw [atoi_pos D hd hn] at h
    by_cases hc : valFrom 0 D < 9223372036854775808
    · rw [if_pos hc] at h; simp only [Option.some.injEq] at h; omega
    · rw [if_neg hc] at h; cases h
theorem numR_fit {d : Nat} {l r : List UInt8} {c c' : Nat} {v : NT} (h : numR l c = .ok v r c') : rgt d v ∧ c' = c ∧ cnt v = 1 ∧ szT v + r.length ≤ l.length := by
  have h2 := numR_ok h
  unfold numR at h
  rcases hR : takeR l with ⟨a, n, o⟩
  rw [hR] at h
  cases o with
  | some e => cases h
  | none =>
    simp only [Res.ok.injEq] at h
    obtain ⟨rfl, rfl, rfl⟩ := h
    have hb : -9223372036854775808 ≤ a ∧ a ≤ 9223372036854775807 := by
      unfold takeR at hR
      split at hR
      · simp at hR
      · rename_i hf
        split at hR
        · rename_i v hv
          split at hv
          · simp only [Prod.mk.injEq] at hR
            rw [← hR.1]; exact wholeV_bd hf hv
          · cases hv
        · simp at hR
    refine ⟨?_, rfl, rfl, ?_⟩
    · unfold rgt
      exact ⟨.inl rfl, .inr rfl, .inr rfl, .inr (.inr rfl), by omega, by omega, hb.1, hb.2, vdL_nil, by omega, by omega, by simp, by simp, by simp [rgtL]⟩
    · have : szT (.mk 4 a [] [] []) = 1 := rfl
      omega
theorem strR_fit {d : Nat} {l r : List UInt8} {c c' : Nat} {v : NT} (h : strR l c = .ok v r c') : rgt d v ∧ c' = c ∧ cnt v = 1 ∧ szT v + r.length ≤ l.length := by
  unfold strR at h
  split at h
  · rename_i x n hx
    have hv := takeL_vd hx
    have hl := takeL_le hx
    simp only [Res.ok.injEq] at h
    obtain ⟨rfl, rfl, rfl⟩ := h
    refine ⟨?_, rfl, rfl, ?_⟩
    · unfold rgt
      exact ⟨.inr rfl, .inl rfl, .inr rfl, .inr (.inr rfl), by omega, by omega, by omega, by omega, hv.1, by omega, by omega, by simp, by simp, by simp [rgtL]⟩
    · have : szT (.mk 5 0 x [] []) = 1 + x.length := by simp [szT, szL]
      rw [List.length_drop]; omega
  · cases h

theorem pJ_fit : ∀ (f : Nat) (m : Md) (d c : Nat) (l : List UInt8) (v : NT) (r : List UInt8) (c' : Nat), pJ f m d c l = .ok v r c' → c' ≤ 20000 ∧ Fit m d c l.length v r.length c'
  | 0, _, _, _, _, _, _, _, h => by simp [pJ] at h
  | f + 1, .val, d, c, l, v, r, c', h => by
    have ih := pJ_fit f
    unfold pJ at h
    split at h
    · cases h
    rename_i hcc
    split at h
    · cases h
    rename_i x t hl
    rw [hl] at hcc
    have hc : c < 20000 := by
      rcases Nat.lt_or_ge c 20000 with h' | h'
      · exact h'
      · exact absurd ⟨h', by simp⟩ hcc
    have hle := skipB_le l
    rw [hl] at hle
    simp only [List.length_cons] at hle
    have word : ∀ w (k : Int), (k = 1 ∨ k = 2 ∨ k = 3) → w ≠ [] → wordR w k (x :: t) (c + 1) = .ok v r c' → c' ≤ 20000 ∧ Fit .val d c l.length v r.length c' := fun w k hk hw e => by
      have h2 := wordR_ok e hw
      obtain ⟨h3, h4, rfl, _⟩ := h2
      simp only [List.length_cons] at h3
      refine ⟨by omega, rgt_lit d k hk, ?_, ?_⟩
      · show c' = c + 1; exact h4
      · have : szT (litN k) = 1 := rfl
        omega
    split at h
    · exact word _ _ (.inl rfl) (by simp [wNull]) h
    split at h
    · exact word _ _ (.inr (.inl rfl)) (by simp [wFalse]) h
    split at h
    · exact word _ _ (.inr (.inr rfl)) (by simp [wTrue]) h
    split at h
    · have h2 := strR_fit (d := d) h
      simp only [List.length_cons] at h2
      exact ⟨by omega, h2.1, by omega, by omega⟩
    split at h
    · split at h
      · cases h
      · rename_i hd
        split at h
        · have h2 := ih _ _ _ _ _ _ _ h
          have h3 := h2.2 (by omega) trivial
          simp only [cntL, szL] at h3
          exact ⟨h2.1, h3.1, by omega, by omega⟩
        · rename_i y u hy
          have h3 := skipB_cons hy
          split at h
          · simp only [Res.ok.injEq] at h
            obtain ⟨rfl, rfl, rfl⟩ := h
            refine ⟨by omega, rgt_arr (by omega) trivial, rfl, ?_⟩
            have : szT (.mk 6 0 [] [] []) = 1 := rfl
            omega
          · have h2 := ih _ _ _ _ _ _ _ h
            have h3 := h2.2 (by omega) trivial
            simp only [cntL, szL] at h3
            exact ⟨h2.1, h3.1, by omega, by omega⟩
    split at h
    · split at h
      · cases h
      · rename_i hd
        split at h
        · have h2 := ih _ _ _ _ _ _ _ h
          have h3 := h2.2 (by omega) trivial rfl (by simp) (by simp)
          simp only [cntL, szL, List.map_nil, List.sum_nil] at h3
          exact ⟨h2.1, h3.1, by omega, by omega⟩
        · rename_i y u hy
          have h3 := skipB_cons hy
          split at h
          · simp only [Res.ok.injEq] at h
            obtain ⟨rfl, rfl, rfl⟩ := h
            refine ⟨by omega, rgt_obj (by omega) rfl (by simp) (by simp) trivial, rfl, ?_⟩
            have : szT (.mk 7 0 [] [] []) = 1 := rfl
            omega
          · have h2 := ih _ _ _ _ _ _ _ h
            have h3 := h2.2 (by omega) trivial rfl (by simp) (by simp)
            simp only [cntL, szL, List.map_nil, List.sum_nil] at h3
            exact ⟨h2.1, h3.1, by omega, by omega⟩
    · have h2 := numR_fit (d := d) h
      simp only [List.length_cons] at h2
      exact ⟨by omega, h2.1, by omega, by omega⟩
  | f + 1, .arr acc, d, c, l, v, r, c', h => by
    have ih := pJ_fit f
    unfold pJ at h
    split at h
    · cases h
    rename_i v0 r0 c0 hv
    have h0 := ih _ _ _ _ _ _ _ hv
    obtain ⟨h00, h01, h02, h03⟩ := h0
    split at h
    · cases h
    rename_i y u hy
    have h3 := skipB_cons hy
    split at h
    · simp only [Res.ok.injEq] at h
      obtain ⟨rfl, rfl, rfl⟩ := h
      refine ⟨h00, fun hd hacc => ⟨rgt_arr hd ((rgtL_append _ _ _).2 ⟨hacc, h01, trivial⟩), ?_, ?_⟩⟩
      · show _ = c + (1 + cntL _)
        rw [cntL_append]; simp only [cntL]; omega
      · show 1 + 0 + 0 + szL _ + _ ≤ _
        rw [szL_append]; simp only [szL]; omega
    split at h
    · have h2 := ih _ _ _ _ _ _ _ h
      refine ⟨h2.1, fun hd hacc => ?_⟩
      have h4 := h2.2 hd ((rgtL_append _ _ _).2 ⟨hacc, h01, trivial⟩)
      rw [cntL_append, szL_append] at h4
      simp only [cntL, szL] at h4
      exact ⟨h4.1, by omega, by omega⟩
    · cases h
  | f + 1, .obj ks acc, d, c, l, v, r, c', h => by
    have ih := pJ_fit f
    have hle := skipB_le l
    unfold pJ at h
    split at h
    · cases h
    rename_i k n hk
    have hkv := takeL_vd hk
    have hkl := takeL_le hk
    split at h
    · cases h
    rename_i hmem
    split at h
    · cases h
    rename_i y u hy
    have h3 := skipB_cons hy
    rw [List.length_drop] at h3
    split at h
    · split at h
      · cases h
      rename_i v0 r0 c0 hv
      obtain ⟨h00, h01, h02, h03⟩ := ih _ _ _ _ _ _ _ hv
      split at h
      · cases h
      rename_i y2 u2 hy2
      have h4 := skipB_cons hy2
      have hnd2 : ks.Nodup → (ks ++ [k]).Nodup := fun hn => by
        rw [List.nodup_append]
        exact ⟨hn, by simp, fun a ha b hb => by simp only [List.mem_singleton] at hb; rw [hb]; exact fun e => hmem (e ▸ ha)⟩
      have hvd2 : (∀ x ∈ ks, VdL x) → ∀ x ∈ ks ++ [k], VdL x := fun hv x hx => by
        rcases List.mem_append.1 hx with e | e
        · exact hv x e
        · simp only [List.mem_singleton] at e; rw [e]; exact hkv.1
      have hsum : ((ks ++ [k]).map fun k => k.length + 1).sum = (ks.map fun k => k.length + 1).sum + (k.length + 1) := by simp
      split at h
      · simp only [Res.ok.injEq] at h
        obtain ⟨rfl, rfl, rfl⟩ := h
        refine ⟨h00, fun hd hacc hlen hn hvd => ⟨rgt_obj hd (by simp [hlen]) (hvd2 hvd) (hnd2 hn) ((rgtL_append _ _ _).2 ⟨hacc, h01, trivial⟩), ?_, ?_⟩⟩
        · show _ = c + (1 + cntL _)
          rw [cntL_append]; simp only [cntL]; omega
        · show 1 + 0 + _ + szL _ + _ ≤ _
          rw [szL_append, hsum]; simp only [szL]; omega
      split at h
      · have h2 := ih _ _ _ _ _ _ _ h
        refine ⟨h2.1, fun hd hacc hlen hn hvd => ?_⟩
        have h5 := h2.2 hd ((rgtL_append _ _ _).2 ⟨hacc, h01, trivial⟩) (by simp [hlen]) (hnd2 hn) (hvd2 hvd)
        rw [cntL_append, szL_append, hsum] at h5
        simp only [cntL, szL] at h5
        exact ⟨h5.1, by omega, by omega⟩
      · cases h
    · cases h

theorem text_fit {s : List UInt8} {v : NT} (h : pText s = .ok v) : rgt 0 v ∧ cnt v ≤ 20000 ∧ szT v ≤ s.length := by
  obtain ⟨_, r, c, hp, _, _⟩ := text_ok h
  obtain ⟨h1, h2, h3, h4⟩ := pJ_fit _ _ _ _ _ _ _ _ hp
  exact ⟨h2, by omega, by omega⟩

/-! ### how long the text is -/
theorem quoteL_len (x : List UInt8) : (quoteL x).length ≤ 6 * x.length + 2 := by
  have := bodyT_len x
  simp [quoteL]; omega
theorem itoa_len20 {n : Int} (h0 : -9223372036854775808 ≤ n) (h1 : n ≤ 9223372036854775807) : (Lib.itoa n).length ≤ 21 := by
  have hd : ∀ u : Nat, u < 18446744073709551616 → (Lib.decDigits u).length ≤ 20 := fun u hu => by
    rw [Lib.decDigits_length]; exact Lib.nDigits_le20 u hu
  unfold Lib.itoa
  split
  · have := hd n.natAbs (by omega); simp; omega
  · have := hd n.toNat (by omega); omega
mutual
theorem show_len : ∀ (d : Nat) (t : NT), rgt d t → (showT t).length + 1 ≤ 22 * szT t
  | d, .mk k n tx ks kids, h => by
    have hA := showA_len (d + 1) kids
    have hO := showO_len (d + 1) kids
    unfold rgt at h
    obtain ⟨a1, a2, a3, a4, a5, a6, a7, a8, a9, a10, a11, a12, a13, a14⟩ := h
    have hq := quoteL_len tx
    have hi := itoa_len20 a7 a8
    have hA := hA true a14
    have hO := hO true ks a14
    unfold showT szT
    repeat' split
    · simp [wNull]; omega
    · simp [wFalse]; omega
    · simp [wTrue]; omega
    · omega
    · omega
    · simp only [List.length_cons, List.length_append, List.length_nil]; omega
    · simp only [List.length_cons, List.length_append, List.length_nil]; omega
termination_by _ t => SizeOf.sizeOf t
theorem showA_len : ∀ (d : Nat) (kids : List NT) (b : Bool), rgtL d kids → (showA b kids).length ≤ 22 * szL kids
  | _, [], _, _ => by simp [showA]
  | d, t :: ts, b, h => by
    have h1 := show_len d t h.1
    have h2 := showA_len d ts false h.2
    have h3 : (comB b).length ≤ 1 := by cases b <;> simp [comB]
    simp only [showA, szL, List.length_append]
    omega
termination_by _ kids => SizeOf.sizeOf kids
theorem showO_len : ∀ (d : Nat) (kids : List NT) (b : Bool) (ks : List (List UInt8)), rgtL d kids → (showO b kids ks).length ≤ 22 * szL kids + 22 * (ks.map fun k => k.length + 1).sum
  | _, [], _, _, _ => by simp [showO]
  | _, _ :: _, _, [], _ => by simp [showO]
  | d, t :: ts, b, k :: ks, h => by
    have h1 := show_len d t h.1
    have h2 := showO_len d ts false ks h.2
    have h3 : (comB b).length ≤ 1 := by cases b <;> simp [comB]
    have h4 := quoteL_len k
    simp only [showO, szL, List.length_append, List.length_cons, List.map_cons, List.sum_cons]
    omega
termination_by _ kids => SizeOf.sizeOf kids
end

end Go.Proofs.YtlaagdpanbineaaDoor

