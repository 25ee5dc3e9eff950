/- What a number's text is, over a list of bytes (no program): digits, the whole part, the fraction, the exponent; a whole number's value. -/
import Derived.Lib.AtoiAllCases
import Derived.Lib.ItoaNum
import Derived.Test.YtlaagdpanbineaaDoorRows
import Derived.WalkKit
import Derived.WalkSpells
import Derived.WalkLawsBesides
import Derived.Lib.Hide
import Derived.Lib.Strings
namespace Go.Proofs.YtlaagdpanbineaaDoor.I2
open Go.Lib

/-- the byte at a place; 0 outside of the text -/
def bAt (l : List UInt8) (i : Nat) : Nat := match l[i]? with
  | some c => c.toNat
  | none => 0
theorem bAt_drop (l : List UInt8) (a i : Nat) : bAt (l.drop a) i = bAt l (a + i) := by unfold bAt; rw [List.getElem?_drop]
theorem bAt_lt (l : List UInt8) (i : Nat) : bAt l i < 256 := by
  unfold bAt; split
  · exact UInt8.toNat_lt _
  · omega
theorem bAt_out {l : List UInt8} {i : Nat} (h : l.length ≤ i) : bAt l i = 0 := by unfold bAt; rw [List.getElem?_eq_none h]
theorem bAt_pos {l : List UInt8} {i : Nat} (h : 0 < bAt l i) : i < l.length := by
  rcases Nat.lt_or_ge i l.length with h1 | h1
  · exact h1
  · rw [bAt_out h1] at h; omega
theorem bAt_get {l : List UInt8} {i : Nat} (h : i < l.length) : bAt l i = l[i].toNat := by unfold bAt; rw [List.getElem?_eq_getElem h]
theorem bAt_in (s : ByteArray) (i : Nat) (h : i < s.size) : s[i].toNat = bAt s.data.toList i := by
  rw [bAt_get (by simpa using h)]; rfl
theorem bAt_cons (c : UInt8) (l : List UInt8) : bAt (c :: l) 0 = c.toNat := rfl
theorem bAt_succ (c : UInt8) (l : List UInt8) (i : Nat) : bAt (c :: l) (i + 1) = bAt l i := rfl
theorem bAt_take {l : List UInt8} {n i : Nat} (h : i < n) : bAt (l.take n) i = bAt l i := by unfold bAt; rw [List.getElem?_take_of_lt h]
theorem bAt_left {l r : List UInt8} {i : Nat} (h : i < l.length) : bAt (l ++ r) i = bAt l i := by unfold bAt; rw [List.getElem?_append_left h]
theorem bAt_right (l r : List UInt8) (i : Nat) : bAt (l ++ r) (l.length + i) = bAt r i := by unfold bAt; rw [List.getElem?_append_right (by omega)]; simp

/-- a digit -/
def isDg (n : Nat) : Prop := 48 ≤ n ∧ n ≤ 57
theorem isDg_no {n : Nat} (h : ¬ isDg n) : n < 48 ∨ 57 < n := by unfold isDg at h; omega

/-- how many digits a text begins with -/
def digs : List UInt8 → Nat
  | [] => 0
  | c :: r => if 48 ≤ c.toNat ∧ c.toNat ≤ 57 then digs r + 1 else 0
theorem digs_le : ∀ l : List UInt8, digs l ≤ l.length
  | [] => Nat.le_refl _
  | c :: r => by have := digs_le r; unfold digs; split <;> simp <;> omega
theorem digs_at : ∀ {l : List UInt8} {k : Nat}, k < digs l → isDg (bAt l k)
  | [], _, h => by simp [digs] at h
  | c :: r, 0, h => by
    unfold digs at h
    split at h
    · assumption
    · omega
  | c :: r, k + 1, h => by
    unfold digs at h
    split at h
    · rw [bAt_succ]; exact digs_at (by omega)
    · omega
theorem digs_stop : ∀ l : List UInt8, ¬ isDg (bAt l (digs l))
  | [] => by simp [digs, bAt, isDg]
  | c :: r => by
    unfold digs
    split
    · rw [bAt_succ]; exact digs_stop r
    · assumption
theorem digs_of : ∀ {l : List UInt8} {n : Nat}, (∀ k, k < n → isDg (bAt l k)) → ¬ isDg (bAt l n) → digs l = n
  | l, n, h, hn => by
    rcases Nat.lt_trichotomy (digs l) n with h1 | h1 | h1
    · exact absurd (h _ h1) (digs_stop l)
    · exact h1
    · exact absurd (digs_at h1) hn

/-- the bytes of a sign -/
def sgn (l : List UInt8) : Nat := if bAt l 0 = 45 then 1 else 0
theorem sgn_le (l : List UInt8) : sgn l ≤ l.length := by
  unfold sgn; split
  · have := bAt_pos (l := l) (i := 0) (by omega); omega
  · omega
/-- the bytes of the whole part; 0: there is none -/
def front (l : List UInt8) : Nat := if bAt l (sgn l) = 48 then sgn l + 1 else if digs (l.drop (sgn l)) = 0 then 0 else sgn l + digs (l.drop (sgn l))
theorem front_le (l : List UInt8) : front l ≤ l.length := by
  have h1 := digs_le (l.drop (sgn l))
  have h2 := sgn_le l
  rw [List.length_drop] at h1
  unfold front; split
  · have := bAt_pos (l := l) (i := sgn l) (by omega); omega
  · split <;> omega
/-- the bytes of ".", digits -/
def frac (l : List UInt8) : Nat := if bAt l 0 = 46 ∧ 0 < digs (l.drop 1) then 1 + digs (l.drop 1) else 0
theorem frac_le (l : List UInt8) : frac l ≤ l.length := by
  have h1 := digs_le (l.drop 1)
  rw [List.length_drop] at h1
  unfold frac; split
  · have := bAt_pos (l := l) (i := 0) (by omega); omega
  · omega
/-- "e", and maybe a sign -/
def exps (l : List UInt8) : Nat := if bAt l 1 = 43 ∨ bAt l 1 = 45 then 2 else 1
/-- the bytes of an exponent -/
def expo (l : List UInt8) : Nat := if (bAt l 0 = 101 ∨ bAt l 0 = 69) ∧ 0 < digs (l.drop (exps l)) then exps l + digs (l.drop (exps l)) else 0
theorem expo_le (l : List UInt8) : expo l ≤ l.length := by
  have h1 := digs_le (l.drop (exps l))
  rw [List.length_drop] at h1
  unfold expo; split
  · omega
  · omega
def two (l : List UInt8) : Nat := front l + frac (l.drop (front l))
theorem two_le (l : List UInt8) : two l ≤ l.length := by
  have h1 := front_le l
  have h2 := frac_le (l.drop (front l))
  rw [List.length_drop] at h2
  unfold two; omega
/-- the bytes of a number's text, if there is one -/
def allOf (l : List UInt8) : Nat := two l + expo (l.drop (two l))
theorem allOf_le (l : List UInt8) : allOf l ≤ l.length := by
  have h1 := two_le l
  have h2 := expo_le (l.drop (two l))
  rw [List.length_drop] at h2
  unfold allOf; omega
theorem front_all (l : List UInt8) : front l ≤ allOf l := by unfold allOf two; omega

/-! ### The value of a whole number's text -/

def stepV (a : Nat) (c : UInt8) : Nat := a * 10 + (c.toNat - 48)
def valFrom (acc : Nat) (l : List UInt8) : Nat := l.foldl stepV acc
theorem valFrom_nil (acc : Nat) : valFrom acc [] = acc := by unfold valFrom; rw [List.foldl_nil]
theorem valFrom_cons (acc : Nat) (c : UInt8) (l : List UInt8) : valFrom acc (c :: l) = valFrom (acc * 10 + (c.toNat - 48)) l := by
  unfold valFrom; rw [List.foldl_cons]; unfold stepV; exact Eq.refl _
theorem valFrom_append (acc : Nat) (l r : List UInt8) : valFrom acc (l ++ r) = valFrom (valFrom acc l) r := by unfold valFrom; rw [List.foldl_append]
theorem valFrom_le : ∀ (l : List UInt8) (acc : Nat), acc ≤ valFrom acc l
  | [], acc => by rw [valFrom_nil]; exact Nat.le_refl _
  | c :: r, acc => by rw [valFrom_cons]; have := valFrom_le r (acc * 10 + (c.toNat - 48)); omega
/-- a text of digits alone -/
def allDg (l : List UInt8) : Prop := ∀ c ∈ l, 48 ≤ c.toNat ∧ c.toNat ≤ 57
theorem allDg_digs {l : List UInt8} (h : allDg l) : digs l = l.length := by
  induction l with
  | nil => rfl
  | cons c r ih =>
    have hc := h c (List.mem_cons_self ..)
    unfold digs
    rw [if_pos hc, ih (fun x hx => h x (List.mem_cons_of_mem _ hx))]
    rfl
theorem allDg_take {l : List UInt8} {n : Nat} (h : n ≤ digs l) : allDg (l.take n) := by
  intro c hc
  obtain ⟨i, hi, rfl⟩ := List.mem_iff_getElem.1 hc
  rw [List.length_take] at hi
  have h1 := digs_at (l := l) (k := i) (by omega)
  rw [bAt_get (by omega)] at h1
  rw [List.getElem_take]
  exact h1
theorem allDg_at {l : List UInt8} {i : Nat} (h : allDg l) (hi : i < l.length) : isDg (bAt l i) := by
  rw [bAt_get hi]; exact h _ (List.getElem_mem hi)

theorem parseUint10_dg (l : List UInt8) : ∀ (acc : Nat), allDg l → acc < 18446744073709551616 → parseUint10 acc l = if valFrom acc l < 18446744073709551616 then .ok (valFrom acc l) else .range := by
  induction l with
  | nil =>
    intro acc _ ha
    rw [valFrom_nil, if_pos ha, parseUint10]
  | cons c r ih =>
    intro acc h ha
    have hc := h c (List.mem_cons_self ..)
    have hr : allDg r := fun x hx => h x (List.mem_cons_of_mem _ hx)
    have hle := valFrom_le r (acc * 10 + (c.toNat - 48))
    rw [valFrom_cons, parseUint10, if_pos hc]
    have ih2 := ih (acc * 10 + (c.toNat - 48)) hr
    clear ih
    generalize valFrom (acc * 10 + (c.toNat - 48)) r = V at *
    split
    · rw [if_neg (by omega)]
    · split
      · rw [if_neg (by omega)]
      · exact ih2 (by omega)
theorem parseMag_dg (l : List UInt8) (h : allDg l) (hn : l ≠ []) : parseMag l = if valFrom 0 l < 18446744073709551616 then .ok (valFrom 0 l) else .range := by
  unfold parseMag
  rw [if_neg hn]
  exact parseUint10_dg l 0 h (by omega)

/-- the value of a whole number's text, if it fits -/
def wholeV (l : List UInt8) : Option Int := match atoiAll l with
  | .ok v => some v
  | _ => none
theorem atoi_neg (l : List UInt8) (h : allDg l) (hn : l ≠ []) : atoiAll (45 :: l) = if valFrom 0 l ≤ 9223372036854775808 then .ok (-(valFrom 0 l : Int)) else .range := by
  rw [atoiAll_minus, parseMag_dg l h hn]
  split
  · simp only [signed]
    split
    · rw [if_neg (by omega)]
    · rw [if_pos (by omega)]
  · simp only [signed]
    rw [if_neg (by omega)]
theorem atoi_pos (l : List UInt8) (h : allDg l) (hn : l ≠ []) : atoiAll l = if valFrom 0 l < 9223372036854775808 then .ok (valFrom 0 l : Int) else .range := by
  cases l with
  | nil => exact absurd rfl hn
  | cons c r =>
    have hc := h c (List.mem_cons_self ..)
    rw [atoiAll_plain c r (by omega) (by omega), parseMag_dg _ h hn]
    split
    · simp only [signless]
      split
      · rw [if_neg (by omega)]
      · rw [if_pos (by omega)]
    · simp only [signless]
      rw [if_neg (by omega)]

/-- what a whole number's text is: maybe "-", digits -/
theorem front_cases {l : List UInt8} (h : front l ≠ 0) : ∃ D, D ≠ [] ∧ allDg D ∧ ((sgn l = 1 ∧ l.take (front l) = 45 :: D) ∨ (sgn l = 0 ∧ l.take (front l) = D)) := by
  have hb : ∃ m, 0 < m ∧ m ≤ digs (l.drop (sgn l)) ∧ front l = sgn l + m := by
    unfold front at h ⊢
    split
    · rename_i h0
      refine ⟨1, by omega, ?_, rfl⟩
      have hd : ¬ digs (l.drop (sgn l)) = 0 := fun e => by
        have := digs_stop (l.drop (sgn l))
        rw [e, bAt_drop, Nat.add_zero, h0] at this
        exact this ⟨by omega, by omega⟩
      omega
    · rename_i h0
      rw [if_neg h0] at h
      split at h
      · exact absurd rfl h
      · rename_i h1
        exact ⟨_, by omega, Nat.le_refl _, by rw [if_neg h1]⟩
  obtain ⟨m, hm, hmd, hf⟩ := hb
  have hdl := digs_le (l.drop (sgn l))
  refine ⟨(l.drop (sgn l)).take m, ?_, allDg_take hmd, ?_⟩
  · intro e
    have := congrArg List.length e
    rw [List.length_take] at this
    simp at this hdl
    omega
  · rcases Nat.eq_zero_or_pos (sgn l) with h0 | h0
    · exact .inr ⟨h0, by rw [hf, h0, Nat.zero_add, List.drop_zero]⟩
    · have h1 : bAt l 0 = 45 := by unfold sgn at h0; split at h0 <;> omega
      have h2 : sgn l = 1 := by unfold sgn; rw [if_pos h1]
      refine .inl ⟨h2, ?_⟩
      rw [hf, h2]
      cases l with
      | nil => simp [bAt] at h1
      | cons c r =>
        rw [bAt_cons] at h1
        have hc : c = 45 := UInt8.toNat_inj.1 (by rw [h1]; rfl)
        subst hc
        rw [Nat.add_comm]
        rfl
theorem wholeV_some {l : List UInt8} {v : Int} (h : wholeV l = some v) : atoiAll l = .ok v := by
  unfold wholeV at h
  cases he : atoiAll l <;> rw [he] at h <;> simp at h
  rw [h]
theorem wholeV_none {l : List UInt8} (hf : front l ≠ 0) (h : wholeV (l.take (front l)) = none) : atoiAll (l.take (front l)) = .range := by
  have hno : ∀ v, atoiAll (l.take (front l)) ≠ .ok v := fun v e => by
    unfold wholeV at h; rw [e] at h; simp at h
  obtain ⟨D, hn, hd, ⟨_, e⟩ | ⟨_, e⟩⟩ := front_cases hf
  · rw [e, atoi_neg D hd hn] at hno ⊢
    by_cases hv : valFrom 0 D ≤ 9223372036854775808
    · exact absurd (if_pos hv) (hno _)
    · rw [if_neg hv]
  · rw [e, atoi_pos D hd hn] at hno ⊢
    by_cases hv : valFrom 0 D < 9223372036854775808
    · exact absurd (if_pos hv) (hno _)
    · rw [if_neg hv]

end Go.Proofs.YtlaagdpanbineaaDoor.I2

/- ints.digits and the document's run: how many digits stand at a place. -/
namespace Go.Proofs.YtlaagdpanbineaaDoor.I2
open Go.RowKit

theorem ret_bool {a b : Bool} (h : a = b) : Ending.returned (.bool a) = .returned (.bool b) := by rw [h]

theorem size_list (s : ByteArray) : s.data.toList.length = s.size := by simp

set_option maxHeartbeats 400000 in
theorem digits_any (s : ByteArray) (w : World) (hs : s.size ≤ maxLen) :
    Calls Tryd.prog 85 #[.string s] w fun e w' => e = .returned (.int .i64 (digs s.data.toList)) ∧ w = w' := by
  unfold maxLen at hs
  have hle : digs s.data.toList ≤ s.size := by have := digs_le s.data.toList; simpa using this
  have HAT := Lib.hid (fun k => digs_at (l := s.data.toList) (k := k))
  have HST := Lib.hid (digs_stop s.data.toList)
  generalize digs s.data.toList = n at *
  go_enter Tryd.func85, Tryd.ntmps85
  go_wp2
  go_loop [3] (fun i => ∃ k : Nat, k ≤ n ∧ i = .int .i64 k) (fun i => n - (intOf i).toNat)
  case atStart => exact ⟨0, Nat.zero_le _, rfl⟩
  case round =>
    obtain ⟨k, hk, rfl⟩ := hrel
    by_cases hlt : k < n
    · have hks : k < s.size := by omega
      have hd := HAT.out k hlt
      unfold isDg at hd
      rw [← bAt_in s k hks] at hd
      obtain ⟨h1, h2⟩ := hd
      go_wp2
      go_round
      case rel => exact ⟨k + 1, by omega, by go_num⟩
      case measure => simp [intOf]; omega
    · obtain rfl : k = n := by omega
      by_cases hks : k < s.size
      · have hd := isDg_no HST.out
        rw [← bAt_in s k hks] at hd
        rcases hd with h1 | h1
        all_goals
          go_wp2
          go_ret
          exact ⟨rfl, rfl⟩
      · go_wp2
        go_ret
        exact ⟨rfl, rfl⟩






































end Go.Proofs.YtlaagdpanbineaaDoor.I2

/- ints.exponent: how many bytes an exponent at the head of a text has. -/
namespace Go.Proofs.YtlaagdpanbineaaDoor.I2
open Go.RowKit

theorem ne_list {s : ByteArray} (h : 0 < s.size) : ¬ s.toList = [] := by
  intro e
  have h2 : s.data.toList.length = 0 := by rw [← ByteArray.toList_eq, e]; rfl
  rw [size_list] at h2
  omega
theorem ne_listB {s : ByteArray} (h : 0 < s.size) : s.toList.isEmpty = false := by
  have := ne_list h
  cases hl : s.toList with
  | nil => exact absurd hl this
  | cons c r => rfl
theorem nil_list {s : ByteArray} (h : s.size = 0) : s.toList = [] := by
  apply List.eq_nil_of_length_eq_zero
  rw [ByteArray.toList_eq, size_list]; exact h
theorem nil_listB {s : ByteArray} (h : s.size = 0) : s.toList.isEmpty = true := by rw [nil_list h]; rfl

theorem ext_list (s : ByteArray) (a : Nat) : (s.extract a s.size).data.toList = s.data.toList.drop a := by
  rw [Lib.extract_data, List.take_of_length_le]
  rw [List.length_drop, size_list]
  omega
theorem ext_size (s : ByteArray) (a : Nat) (h : a ≤ s.size) : (s.extract a s.size).size = s.size - a := by
  rw [ByteArray.size_extract]; omega

def eIs (n : Nat) : Prop := n = 101 ∨ n = 69

/-- digits behind a place of s -/
theorem digits_ext (s : ByteArray) (a : Nat) (w : World) (hs : s.size ≤ maxLen) :
    Calls Tryd.prog 85 #[.string (s.extract a s.size)] w fun e w' => e = .returned (.int .i64 (digs (s.data.toList.drop a))) ∧ w = w' := by
  have h := digits_any (s.extract a s.size) w (by rw [ByteArray.size_extract]; omega)
  rw [ext_list] at h
  exact h

set_option maxHeartbeats 400000 in
theorem expo_nil (s : ByteArray) (w : World) (h0 : s.size = 0) :
    Calls Tryd.prog 75 #[.string s] w fun e w' => e = .returned (.int .i64 0) ∧ w = w' := by
  have hl := nil_list h0
  have hb := nil_listB h0
  go_enter Tryd.func75, Tryd.ntmps75
  go_wp2
  go_ret
  exact ⟨rfl, rfl⟩

set_option maxHeartbeats 400000 in
theorem expo_not (s : ByteArray) (w : World) (_hs : s.size ≤ maxLen) (h0 : 0 < s.size) (h1 : ¬ s[0].toNat = 101) (h2 : ¬ s[0].toNat = 69) :
    Calls Tryd.prog 75 #[.string s] w fun e w' => e = .returned (.int .i64 0) ∧ w = w' := by
  have hl := ne_list h0
  have hb := ne_listB h0
  have h1 : ((s[0].toNat : Int) == 101) = false := by simp; omega
  have h2 : ((s[0].toNat : Int) == 69) = false := by simp; omega
  have h3 : ((s[0].toNat : Int) != 101) = true := by simp; omega
  have h4 : ((s[0].toNat : Int) != 69) = true := by simp; omega
  go_enter Tryd.func75, Tryd.ntmps75
  go_wp2
  go_ret
  exact ⟨rfl, rfl⟩

theorem expo_eq1 {l : List UInt8} (h : bAt l 0 = 101 ∨ bAt l 0 = 69) {f : Nat} (hf : exps l = f) {n : Nat} (hn : digs (l.drop f) = n) (hp : 0 < n) : expo l = f + n := by
  unfold expo; rw [hf, hn, if_pos ⟨h, hp⟩]
theorem expo_eq0 {l : List UInt8} {f : Nat} (hf : exps l = f) {n : Nat} (hn : digs (l.drop f) = n) (hp : ¬ 0 < n) : expo l = 0 := by
  unfold expo; rw [hf, hn, if_neg (fun h => hp h.2)]

set_option maxHeartbeats 1000000 in
theorem expo_e (s : ByteArray) (w : World) (hs : s.size ≤ maxLen) (h0 : 0 < s.size) (he : s[0].toNat = 101 ∨ s[0].toNat = 69) :
    Calls Tryd.prog 75 #[.string s] w fun e w' => e = .returned (.int .i64 (expo s.data.toList)) ∧ w = w' := by
  have heb : bAt s.data.toList 0 = 101 ∨ bAt s.data.toList 0 = 69 := by rw [← bAt_in s 0 h0]; exact he
  have hl := ne_list h0
  have hb := ne_listB h0
  have hs2 := hs
  unfold maxLen at hs2
  by_cases h1 : 1 < s.size
  · by_cases hp : s[1].toNat = 43 ∨ s[1].toNat = 45
    · have hf : exps s.data.toList = 2 := by unfold exps; rw [← bAt_in s 1 h1, if_pos hp]
      have hD := digits_ext s 2
      generalize hn : digs (s.data.toList.drop 2) = n at *
      have hnb : 2 + n ≤ s.size := by rw [← hn]; have := digs_le (s.data.toList.drop 2); rw [List.length_drop, size_list] at this; omega
      by_cases hp0 : 0 < n
      · rw [expo_eq1 heb hf hn hp0]
        clear heb hf hn
        rcases he with he | he <;> rcases hp with hp | hp
        all_goals
          go_enter Tryd.func75, Tryd.ntmps75
          go_wp2_with (go_at_call 85; refine (hD _ hs).mono ?_; rintro e w' ⟨rfl, rfl⟩)
          go_ret
          exact ⟨by first | rfl | simp, rfl⟩
      · rw [expo_eq0 hf hn hp0]
        obtain rfl : n = 0 := by omega
        clear heb hf hn
        rcases he with he | he <;> rcases hp with hp | hp
        all_goals
          go_enter Tryd.func75, Tryd.ntmps75
          go_wp2_with (go_at_call 85; refine (hD _ hs).mono ?_; rintro e w' ⟨rfl, rfl⟩)
          go_ret
          exact ⟨rfl, rfl⟩
    · have hf : exps s.data.toList = 1 := by unfold exps; rw [← bAt_in s 1 h1, if_neg hp]
      have hD := digits_ext s 1
      generalize hn : digs (s.data.toList.drop 1) = n at *
      have hnb : 1 + n ≤ s.size := by rw [← hn]; have := digs_le (s.data.toList.drop 1); rw [List.length_drop, size_list] at this; omega
      have q1 : ((s[1].toNat : Int) == 43) = false := by simp; omega
      have q2 : ((s[1].toNat : Int) == 45) = false := by simp; omega
      by_cases hp0 : 0 < n
      · rw [expo_eq1 heb hf hn hp0]
        clear heb hf hn hp
        rcases he with he | he
        all_goals
          go_enter Tryd.func75, Tryd.ntmps75
          go_wp2_with (go_at_call 85; refine (hD _ hs).mono ?_; rintro e w' ⟨rfl, rfl⟩)
          go_ret
          exact ⟨by first | rfl | simp, rfl⟩
      · rw [expo_eq0 hf hn hp0]
        obtain rfl : n = 0 := by omega
        clear heb hf hn hp
        rcases he with he | he
        all_goals
          go_enter Tryd.func75, Tryd.ntmps75
          go_wp2_with (go_at_call 85; refine (hD _ hs).mono ?_; rintro e w' ⟨rfl, rfl⟩)
          go_ret
          exact ⟨rfl, rfl⟩
  · have hz : bAt s.data.toList 1 = 0 := bAt_out (by rw [size_list]; omega)
    have hf : exps s.data.toList = 1 := by unfold exps; rw [hz, if_neg (by omega)]
    have hn : digs (s.data.toList.drop 1) = 0 := by
      have := digs_le (s.data.toList.drop 1); rw [List.length_drop, size_list] at this; omega
    have hD := digits_ext s 1
    rw [expo_eq0 hf hn (by omega)]
    rw [hn] at hD
    clear heb hf hn hz
    rcases he with he | he
    all_goals
      go_enter Tryd.func75, Tryd.ntmps75
      go_wp2_with (go_at_call 85; refine (hD _ hs).mono ?_; rintro e w' ⟨rfl, rfl⟩)
      go_ret
      exact ⟨rfl, rfl⟩

theorem expo_any (s : ByteArray) (w : World) (hs : s.size ≤ maxLen) :
    Calls Tryd.prog 75 #[.string s] w fun e w' => e = .returned (.int .i64 (expo s.data.toList)) ∧ w = w' := by
  rcases Nat.eq_zero_or_pos s.size with h0 | h0
  · have : expo s.data.toList = 0 := by
      have := expo_le s.data.toList; rw [size_list] at this; omega
    rw [this]
    exact expo_nil s w h0
  · by_cases he : s[0].toNat = 101 ∨ s[0].toNat = 69
    · exact expo_e s w hs h0 he
    · have : expo s.data.toList = 0 := by
        unfold expo
        rw [← bAt_in s 0 h0, if_neg (fun h => he h.1)]
      rw [this]
      exact expo_not s w hs h0 (fun h => he (.inl h)) (fun h => he (.inr h))

end Go.Proofs.YtlaagdpanbineaaDoor.I2

/- What ints.Take answers at a place (no program). -/
namespace Go.Proofs.YtlaagdpanbineaaDoor.I2

/-- what stands from a place of a text on -/
def restL (l : List UInt8) (x : Int) : List UInt8 := if x < 0 then [] else l.drop x.toNat
theorem restL_out {s : ByteArray} {x : Int} (h : x < 0 ∨ s.size ≤ x) : restL s.data.toList x = [] := by
  unfold restL
  split
  · rfl
  · exact List.drop_eq_nil_of_le (by rw [size_list]; omega)
theorem restL_in {s : ByteArray} {a : Nat} : restL s.data.toList (a : Int) = s.data.toList.drop a := by
  unfold restL; rw [if_neg (by omega), Int.toNat_natCast]

/-- the answer at the head of a text: the number, its size, which error -/
def takeR (l : List UInt8) : Int × Nat × Option Nat :=
  if front l = 0 then (0, 0, some 0) else match (if allOf l = front l then wholeV (l.take (front l)) else none) with
    | some v => (v, front l, none)
    | none => (0, 0, some 3)
theorem takeR_syn {l : List UInt8} (h : front l = 0) : takeR l = (0, 0, some 0) := by unfold takeR; rw [if_pos h]
theorem takeR_part {l : List UInt8} (h : front l ≠ 0) (h2 : allOf l ≠ front l) : takeR l = (0, 0, some 3) := by unfold takeR; rw [if_neg h, if_neg h2]
theorem takeR_none {l : List UInt8} (h : front l ≠ 0) (h3 : wholeV (l.take (front l)) = none) : takeR l = (0, 0, some 3) := by
  unfold takeR; rw [if_neg h, h3]; split <;> rename_i h4 <;> split at h4 <;> simp_all
theorem takeR_ok {l : List UInt8} {v : Int} (h : front l ≠ 0) (h2 : allOf l = front l) (h3 : wholeV (l.take (front l)) = some v) : takeR l = (v, front l, none) := by
  unfold takeR; rw [if_neg h, if_pos h2, h3]

def numOf : Option Nat → Int
  | none => 0
  | some k => k + 1

end Go.Proofs.YtlaagdpanbineaaDoor.I2

/- The decimal text of a number (no program): it is a number's text, and its value is the number. -/
namespace Go.Proofs.YtlaagdpanbineaaDoor.I2
open Go.Lib

theorem dd_small {u : Nat} (h : u < 10) : decDigits u = [UInt8.ofNat (48 + u)] := by rw [decDigits, dif_pos h]
theorem dd_big {u : Nat} (h : ¬ u < 10) : decDigits u = decDigits (u / 10) ++ [UInt8.ofNat (48 + u % 10)] := by rw [decDigits, dif_neg h]
theorem dg_byte {d : Nat} (h : d < 10) : (UInt8.ofNat (48 + d)).toNat = 48 + d := by
  rw [UInt8.toNat_ofNat']; omega

theorem dd_ind {P : Nat → List UInt8 → Prop} (h1 : ∀ u, u < 10 → P u [UInt8.ofNat (48 + u)]) (h2 : ∀ u l, ¬ u < 10 → P (u / 10) l → P u (l ++ [UInt8.ofNat (48 + u % 10)])) : ∀ u, P u (decDigits u) := by
  intro u
  induction u using Nat.strongRecOn with
  | _ u ih =>
    by_cases h : u < 10
    · rw [dd_small h]; exact h1 u h
    · rw [dd_big h]; exact h2 u _ h (ih (u / 10) (by omega))

theorem dd_dg (u : Nat) : allDg (decDigits u) := by
  refine dd_ind (P := fun _ l => allDg l) ?_ ?_ u
  · intro u h c hc
    simp only [List.mem_singleton] at hc
    rw [hc, dg_byte h]; omega
  · intro u l _ ih c hc
    rcases List.mem_append.1 hc with h | h
    · exact ih c h
    · simp only [List.mem_singleton] at h
      rw [h, dg_byte (by omega)]; omega
theorem dd_val (u : Nat) : valFrom 0 (decDigits u) = u := by
  refine dd_ind (P := fun u l => valFrom 0 l = u) ?_ ?_ u
  · intro u h
    rw [valFrom_cons, valFrom_nil, dg_byte h]; omega
  · intro u l _ ih
    rw [valFrom_append, ih, valFrom_cons, valFrom_nil, dg_byte (by omega)]; omega
theorem dd_ne (u : Nat) : decDigits u ≠ [] := by
  refine dd_ind (P := fun _ l => l ≠ []) ?_ ?_ u
  · intro u h; simp
  · intro u l _ _; simp
/-- no needless nought -/
theorem dd_head (u : Nat) : (u = 0 ∧ decDigits u = [48]) ∨ (decDigits u ≠ [] ∧ bAt (decDigits u) 0 ≠ 48) := by
  refine dd_ind (P := fun u l => (u = 0 ∧ l = [48]) ∨ (l ≠ [] ∧ bAt l 0 ≠ 48)) ?_ ?_ u
  · intro u h
    rcases Nat.eq_zero_or_pos u with h0 | h0
    · exact .inl ⟨h0, by rw [h0]; rfl⟩
    · exact .inr ⟨by simp, by rw [bAt_cons, dg_byte h]; omega⟩
  · intro u l h ih
    rcases ih with ⟨h0, _⟩ | ⟨ih1, ih2⟩
    · omega
    · refine .inr ⟨by simp, ?_⟩
      cases l with
      | nil => exact absurd rfl ih1
      | cons c r => exact ih2

theorem digs_dd (u : Nat) {b : List UInt8} (hb : ¬ isDg (bAt b 0)) : digs (decDigits u ++ b) = (decDigits u).length := by
  refine digs_of (fun k hk => ?_) ?_
  · rw [bAt_left hk]; exact allDg_at (dd_dg u) hk
  · have := bAt_right (decDigits u) b 0
    rw [Nat.add_zero] at this
    rw [this]; exact hb
theorem dd_len (u : Nat) : 0 < (decDigits u).length := List.length_pos_iff.2 (dd_ne u)
theorem front_of {l : List UInt8} {σ : Nat} {u : Nat} {b : List UInt8} (hs : sgn l = σ) (hl : l.drop σ = decDigits u ++ b) (hb : ¬ isDg (bAt b 0)) : front l = σ + (decDigits u).length := by
  have hp := dd_len u
  unfold front
  have e : bAt l (sgn l) = bAt (decDigits u) 0 := by
    have := bAt_drop l σ 0
    rw [hl, Nat.add_zero, bAt_left hp] at this
    rw [hs, this]
  rw [e, hs, hl, digs_dd u hb]
  rcases dd_head u with ⟨h0, h1⟩ | ⟨h0, h1⟩
  · rw [h1]; rfl
  · rw [if_neg h1, if_neg (by omega)]

/-- what stands behind does not go on with a number's text -/
def Ends (b : List UInt8) : Prop := ¬ isDg (bAt b 0) ∧ bAt b 0 ≠ 46 ∧ bAt b 0 ≠ 101 ∧ bAt b 0 ≠ 69
theorem ends_nil : Ends [] := ⟨by simp [bAt, isDg], by simp [bAt], by simp [bAt], by simp [bAt]⟩

theorem front_itoa (n : Int) {b : List UInt8} (hb : Ends b) : front (itoa n ++ b) = (itoa n).length := by
  unfold itoa
  split
  · rw [front_of (σ := 1) (u := n.natAbs) (b := b) (by unfold sgn; rw [List.cons_append, bAt_cons]; rfl) (by rw [List.cons_append]; rfl) hb.1, List.length_cons]; omega
  · have h := allDg_at (dd_dg n.toNat) (dd_len n.toNat)
    unfold isDg at h
    rw [front_of (σ := 0) (u := n.toNat) (b := b) (by unfold sgn; rw [bAt_left (dd_len _), if_neg (by omega)]) (by rw [List.drop_zero]) hb.1]; omega
theorem all_itoa (n : Int) {b : List UInt8} (hb : Ends b) : allOf (itoa n ++ b) = (itoa n).length := by
  have h2 : two (itoa n ++ b) = (itoa n).length := by
    unfold two
    rw [front_itoa n hb, List.drop_left]
    unfold frac
    rw [if_neg (fun h => hb.2.1 h.1)]
    rfl
  unfold allOf
  rw [h2, List.drop_left]
  unfold expo
  rw [if_neg (fun h => h.1.elim hb.2.2.1 hb.2.2.2)]
  rfl
theorem itoa_len (n : Int) : 0 < (itoa n).length := by
  unfold itoa; split
  · simp
  · exact dd_len _
theorem wholeV_of {l : List UInt8} {v : Int} (h : atoiAll l = .ok v) : wholeV l = some v := by unfold wholeV; rw [h]
theorem whole_itoa (n : Int) (h0 : -9223372036854775808 ≤ n) (h1 : n ≤ 9223372036854775807) : wholeV (itoa n) = some n := by
  apply wholeV_of
  unfold itoa
  by_cases hn : n < 0
  · rw [if_pos hn, atoi_neg _ (dd_dg _) (dd_ne _), dd_val, if_pos (by omega)]
    congr 1; omega
  · rw [if_neg hn, atoi_pos _ (dd_dg _) (dd_ne _), dd_val, if_pos (by omega)]
    congr 1; omega
theorem takeR_itoa (n : Int) {b : List UInt8} (hb : Ends b) (h0 : -9223372036854775808 ≤ n) (h1 : n ≤ 9223372036854775807) : takeR (itoa n ++ b) = (n, (itoa n).length, none) := by
  have hl := itoa_len n
  have hf := front_itoa n hb
  rw [takeR_ok (v := n) (by omega) (by rw [hf, all_itoa n hb]) (by rw [hf, List.take_left]; exact whole_itoa n h0 h1), hf]
end Go.Proofs.YtlaagdpanbineaaDoor.I2

