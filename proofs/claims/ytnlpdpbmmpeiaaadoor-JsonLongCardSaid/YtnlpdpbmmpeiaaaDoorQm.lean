/- What a string of JSON is, over a list of bytes (no program): pieces, a string's text; the same read back. -/
import Derived.Test.YtnlpdpbmmpeiaaaDoorMath
import Derived.Lib.ValidU
namespace Go.Proofs.YtnlpdpbmmpeiaaaDoor

theorem size_list (s : ByteArray) : s.data.toList.length = s.size := rfl
theorem toBA (l : List UInt8) : (⟨l.toArray⟩ : ByteArray).data.toList = l := rfl
theorem ba_of (s : ByteArray) : (⟨s.data.toList.toArray⟩ : ByteArray) = s := by cases s; simp
theorem ba_eq {s t : ByteArray} (h : s.data.toList = t.data.toList) : s = t := by rw [← ba_of s, ← ba_of t, h]

/-- a code point's bytes -/
def encB (r : Int) : List UInt8 := (strOfNums (encZ r)).data.toList
theorem encB_map (r : Int) : encB r = (encZ r).map fun n => UInt8.ofNat n.toNat := by simp [encB, strOfNums]
theorem encB_len (r : Int) : (encB r).length = (encZ r).length := by rw [encB_map, List.length_map]
theorem encB_ba (r : Int) : strOfNums (encZ r) = ⟨(encB r).toArray⟩ := (ba_of _).symm
theorem encZ_one {r : Int} (h : r < 128) : encZ r = [r] := by unfold encZ; rw [if_pos h]
theorem encB_one {r : Int} (h : r < 128) : encB r = [UInt8.ofNat r.toNat] := by rw [encB_map, encZ_one h]; rfl
theorem encZ_pos (r : Int) : 1 ≤ (encZ r).length := by
  unfold encZ
  repeat' split
  all_goals simp
theorem encZ_four (r : Int) : (encZ r).length ≤ 4 := by
  unfold encZ
  repeat' split
  all_goals simp

/-! ### the byte at a place, over lists -/
theorem byteAt_list (s : ByteArray) (i : Nat) : byteAt s i = ((s.data.toList[i]?).map UInt8.toNat).getD 0 := by
  unfold byteAt
  by_cases h : i < s.size
  · have h2 : i < s.data.toList.length := by rw [size_list]; exact h
    rw [dif_pos h, List.getElem?_eq_getElem h2]
    rfl
  · have h2 : s.data.toList.length ≤ i := by rw [size_list]; omega
    rw [dif_neg h, List.getElem?_eq_none h2]
    rfl
theorem byteAt_dropL (s : ByteArray) (a i : Nat) : byteAt ⟨(s.data.toList.drop a).toArray⟩ i = byteAt s (a + i) := by
  rw [byteAt_list, byteAt_list, toBA, List.getElem?_drop]
theorem size_dropL (s : ByteArray) (a : Nat) : (⟨(s.data.toList.drop a).toArray⟩ : ByteArray).size = s.size - a := by
  rw [← size_list, toBA, List.length_drop, size_list]

/-- the code point at the head of a text, and its size; (0, 0): there is none -/
def plainL (l : List UInt8) : Nat × Nat := codeD ⟨l.toArray⟩ 0
theorem codeD_drop (s : ByteArray) (a : Nat) : codeD s a = plainL (s.data.toList.drop a) := by
  have e : Utf8.decode ⟨(s.data.toList.drop a).toArray⟩ 0 = Utf8.decode s a := by
    rw [Lib.decode_at, Lib.decode_at]
    simp only [byteAt_get, byteAt_dropL, Nat.zero_add, Nat.add_zero, Nat.sub_zero]
    rw [size_dropL]
  unfold plainL codeD
  rw [e]

theorem ref_total (s : ByteArray) (a : Nat) : ∃ r, RefIs s a r := by
  by_cases h : ∃ k, 1 ≤ k ∧ k ≤ 4 ∧ a + k ≤ s.size ∧ okK s a k
  · obtain ⟨k, h1, h2, h3, h4⟩ := h
    exact ⟨_, .inl ⟨k, h1, h2, h3, h4, rfl⟩⟩
  · exact ⟨_, .inr ⟨fun k h1 h2 h3 h4 => h ⟨k, h1, h2, h3, h4⟩, rfl⟩⟩

theorem listS_head (l : List UInt8) (k : Nat) (h : k ≤ l.length) : (strOfNums (listS ⟨l.toArray⟩ 0 k)).data.toList = l.take k := by
  have := extract_listS ⟨l.toArray⟩ 0 k (by rw [← size_list, toBA]; omega)
  rw [← this]
  rw [ByteArray.data_extract]
  simp

/-- where a code point stands, its bytes stand -/
theorem plain_some {l : List UInt8} {r n : Nat} (hl : l ≠ []) (h : plainL l = (r, n)) (hn : n ≠ 0) : isPt r ∧ l = encB r ++ l.drop n ∧ n = (encB r).length := by
  obtain ⟨q, hq⟩ := ref_total ⟨l.toArray⟩ 0
  have hlen : 0 < l.length := List.length_pos_iff.2 hl
  have hc := code_ref ⟨l.toArray⟩ 0 (by rw [← size_list, toBA]; exact hlen) q hq
  unfold plainL at h
  rw [hc] at h
  subst h
  rcases hq with ⟨k, h1, h4, hk, ⟨ho1, ho2⟩, he⟩ | ⟨_, he⟩
  · simp only [Prod.mk.injEq] at he
    obtain ⟨rfl, rfl⟩ := he
    rw [← size_list, toBA] at hk
    have hb : encB (cand ⟨l.toArray⟩ 0 n) = l.take n := by
      unfold encB; rw [ho2]; exact listS_head l n (by omega)
    refine ⟨ho1, ?_, ?_⟩
    · rw [hb, List.take_append_drop]
    · rw [hb, List.length_take]; omega
  · simp only [Prod.mk.injEq] at he
    exact absurd he.2 hn

theorem listS_pre (xs : List Int) (hb : ∀ y ∈ xs, 0 ≤ y ∧ y < 256) (t : List UInt8) : xs = listS ⟨((strOfNums xs).data.toList ++ t).toArray⟩ 0 xs.length := by
  apply List.ext_getElem
  · simp [listS]
  · intro i h1 h2
    have := hb xs[i] (List.getElem_mem h1)
    simp only [listS, List.getElem_map, List.getElem_range, Nat.zero_add]
    rw [byteAt_list, toBA]
    have e : (strOfNums xs).data.toList = xs.map fun n => UInt8.ofNat n.toNat := by simp [strOfNums]
    rw [e, List.getElem?_append_left (by simpa using h1)]
    simp [h1]
    omega

theorem cand_enc (s : ByteArray) (a : Nat) (r : Int) (hr : isPt r) (h : encZ r = listS s a (encZ r).length) : (cand s a (encZ r).length : Int) = r := by
  have hb : 0 ≤ r ∧ r ≤ 1114111 := by unfold isPt at hr; omega
  unfold encZ at h ⊢
  by_cases h1 : r < 128
  · rw [if_pos h1] at h ⊢
    simp only [List.length_cons, List.length_nil] at h ⊢
    rw [show listS s a (0 + 1) = [(byteAt s a : Int)] from rfl] at h
    simp only [List.cons.injEq, and_true] at h
    show ((byteAt s a : Nat) : Int) = r
    exact h.symm
  · rw [if_neg h1] at h ⊢
    by_cases h2 : r < 2048
    · rw [if_pos h2] at h ⊢
      simp only [List.length_cons, List.length_nil] at h ⊢
      rw [show listS s a (0 + 1 + 1) = [(byteAt s a : Int), (byteAt s (a + 1) : Int)] from rfl] at h
      simp only [List.cons.injEq, and_true] at h
      show ((byteAt s a % 32 * 64 + byteAt s (a + 1) % 64 : Nat) : Int) = r
      omega
    · rw [if_neg h2] at h ⊢
      by_cases h3 : r < 65536
      · rw [if_pos h3] at h ⊢
        simp only [List.length_cons, List.length_nil] at h ⊢
        rw [show listS s a (0 + 1 + 1 + 1) = [(byteAt s a : Int), (byteAt s (a + 1) : Int), (byteAt s (a + 2) : Int)] from rfl] at h
        simp only [List.cons.injEq, and_true] at h
        show (((byteAt s a % 16 * 64 + byteAt s (a + 1) % 64) * 64 + byteAt s (a + 2) % 64 : Nat) : Int) = r
        omega
      · rw [if_neg h3] at h ⊢
        simp only [List.length_cons, List.length_nil] at h ⊢
        rw [show listS s a (0 + 1 + 1 + 1 + 1) = [(byteAt s a : Int), (byteAt s (a + 1) : Int), (byteAt s (a + 2) : Int), (byteAt s (a + 3) : Int)] from rfl] at h
        simp only [List.cons.injEq, and_true] at h
        show ((((byteAt s a % 8 * 64 + byteAt s (a + 1) % 64) * 64 + byteAt s (a + 2) % 64) * 64 + byteAt s (a + 3) % 64 : Nat) : Int) = r
        omega

/-- where a code point's bytes stand, it stands -/
theorem plain_enc {r : Int} (hr : isPt r) (t : List UInt8) : ((plainL (encB r ++ t)).1 : Int) = r ∧ (plainL (encB r ++ t)).2 = (encB r).length := by
  have h := listS_pre (encZ r) (encZ_bd r hr) t
  have hc := cand_enc _ 0 r hr h
  have h1 := encZ_pos r
  have hsz : (⟨(encB r ++ t).toArray⟩ : ByteArray).size = (encB r).length + t.length := by rw [← size_list, toBA, List.length_append]
  have := code_ref ⟨(encB r ++ t).toArray⟩ 0 (by rw [hsz, encB_len]; omega) (cand ⟨(encB r ++ t).toArray⟩ 0 (encZ r).length, (encZ r).length)
    (.inl ⟨(encZ r).length, h1, encZ_four r, by rw [hsz, encB_len]; omega, ⟨by unfold encB; rw [hc]; exact hr, by unfold encB; rw [hc]; exact h⟩, rfl⟩)
  unfold plainL
  rw [this, encB_len]
  exact ⟨hc, rfl⟩

/-! ### hexadecimal digits -/
def dg (c : Nat) : Option Nat := if 48 ≤ c ∧ c ≤ 57 then some (c - 48) else if 97 ≤ c ∧ c ≤ 102 then some (c - 87) else if 65 ≤ c ∧ c ≤ 70 then some (c - 55) else none
theorem dg_lt {c d : Nat} (h : dg c = some d) : d < 16 := by
  unfold dg at h
  split at h
  · simp at h; omega
  · split at h
    · simp at h; omega
    · split at h
      · simp at h; omega
      · simp at h

def hex4 (a b c d : UInt8) : Option Nat := match dg a.toNat, dg b.toNat, dg c.toNat, dg d.toNat with
  | some x, some y, some z, some u => some (((x * 16 + y) * 16 + z) * 16 + u)
  | _, _, _, _ => none
theorem hex4_lt {a b c d : UInt8} {v : Nat} (h : hex4 a b c d = some v) : v < 65536 := by
  unfold hex4 at h
  split at h
  · rename_i x y z u h1 h2 h3 h4
    have := dg_lt h1; have := dg_lt h2; have := dg_lt h3; have := dg_lt h4
    simp at h; omega
  · simp at h
def hexL : List UInt8 → Option Nat
  | a :: b :: c :: d :: _ => hex4 a b c d
  | _ => none
theorem hexL_some {l : List UInt8} {v : Nat} (h : hexL l = some v) : ∃ a b c d t, l = a :: b :: c :: d :: t ∧ hex4 a b c d = some v := by
  unfold hexL at h
  split at h
  · exact ⟨_, _, _, _, _, rfl, h⟩
  · simp at h

/-! ### pieces -/
def letterB (c : Nat) : Option Nat := if c = 34 then some 34 else if c = 92 then some 92 else if c = 47 then some 47 else if c = 98 then some 8 else if c = 102 then some 12
  else if c = 110 then some 10 else if c = 114 then some 13 else if c = 116 then some 9 else none

/-- what "\u" stands at the head of a text: the number of its digits -/
def unitL : List UInt8 → Option Nat
  | a :: b :: t => if a.toNat = 92 ∧ b.toNat = 117 then hexL t else none
  | _ => none
theorem unitL_some {l : List UInt8} {v : Nat} (h : unitL l = some v) : ∃ a b c d t, l = 92 :: 117 :: a :: b :: c :: d :: t ∧ hex4 a b c d = some v := by
  unfold unitL at h
  split at h
  · rename_i x y t
    split at h
    · rename_i hc
      obtain ⟨a, b, c, d, t', rfl, h2⟩ := hexL_some h
      have e1 : x = 92 := UInt8.toNat_inj.1 (by rw [hc.1]; rfl)
      have e2 : y = 117 := UInt8.toNat_inj.1 (by rw [hc.2]; rfl)
      exact ⟨a, b, c, d, t', by rw [e1, e2], h2⟩
    · simp at h
  · simp at h
theorem unitL_of (a b c d : UInt8) (t : List UInt8) : unitL (92 :: 117 :: a :: b :: c :: d :: t) = hex4 a b c d := by
  show (if (92 : UInt8).toNat = 92 ∧ (117 : UInt8).toNat = 117 then hexL (a :: b :: c :: d :: t) else none) = _
  rw [if_pos ⟨rfl, rfl⟩]
  rfl

def joinZ (a b : Nat) : Int := 65536 + ((a : Int) - 55296) * 1024 + ((b : Int) - 56320)
theorem joinZ_pt {a b : Nat} (h0 : 55296 ≤ a) (h1 : a < 56320) (h2 : 56320 ≤ b) (h3 : b ≤ 57343) : isPt (joinZ a b) ∧ 65536 ≤ joinZ a b := by
  unfold isPt joinZ; omega

/-- a code point written by "\u" at the head of a text: it, and how many bytes -/
def codedL (l : List UInt8) : Option (Int × Nat) := match unitL l with
  | none => none
  | some a => if (a < 55296 ∨ 57343 < a) then some (a, 6) else match unitL (l.drop 6) with
    | none => none
    | some b => if a < 56320 ∧ 56320 ≤ b ∧ b ≤ 57343 then some (joinZ a b, 12) else none

/-- what the byte behind "\" begins -/
def escL (l : List UInt8) : Option (List UInt8 × Nat) := match l with
  | _ :: c :: _ => match letterB c.toNat with
    | some x => some ([UInt8.ofNat x], 2)
    | none => (codedL l).map fun p => (encB p.1, p.2)
  | _ => none
/-- the piece at the head of a text: its text and size (that it is no quotation mark is not asked) -/
def pieceL (l : List UInt8) : Option (List UInt8 × Nat) := match l with
  | [] => none
  | c :: t => if c.toNat = 92 then escL (c :: t) else if (plainL (c :: t)).2 = 0 ∨ (plainL (c :: t)).1 < 32 then none else some ((c :: t).take (plainL (c :: t)).2, (plainL (c :: t)).2)

inductive Piece : List UInt8 → Int → Prop
  | plain (r : Int) : isPt r → 32 ≤ r → r ≠ 34 → r ≠ 92 → Piece (encB r) r
  | letter (c : UInt8) (x : Nat) : letterB c.toNat = some x → Piece [92, c] x
  | unit (a b c d : UInt8) (v : Nat) : hex4 a b c d = some v → isPt v → Piece [92, 117, a, b, c, d] v
  | pair (a b c d e f g h : UInt8) (v u : Nat) : hex4 a b c d = some v → hex4 e f g h = some u → 55296 ≤ v → v < 56320 → 56320 ≤ u → u ≤ 57343 → Piece [92, 117, a, b, c, d, 92, 117, e, f, g, h] (joinZ v u)

theorem letter_lt {c x : Nat} (h : letterB c = some x) : x < 128 := by
  unfold letterB at h
  repeat' split at h
  all_goals (simp at h; try omega)
theorem Piece.pt {p : List UInt8} {r : Int} (h : Piece p r) : isPt r := by
  cases h with
  | plain _ h _ _ _ => exact h
  | letter c x h => have := letter_lt h; unfold isPt; omega
  | unit a b c d v _ h => exact h
  | pair a b c d e f g h v u _ _ h0 h1 h2 h3 => exact (joinZ_pt h0 h1 h2 h3).1
theorem Piece.pos {p : List UInt8} {r : Int} (h : Piece p r) : 1 ≤ p.length := by
  cases h with
  | plain r _ _ _ _ => rw [encB_len]; exact encZ_pos r
  | _ => simp
theorem Piece.le {p : List UInt8} {r : Int} (h : Piece p r) : (encB r).length ≤ p.length := by
  cases h with
  | plain r _ _ _ _ => exact Nat.le_refl _
  | letter c x h => have := letter_lt h; rw [encB_one (by omega)]; simp
  | unit a b c d v _ h => rw [encB_len]; have := encZ_four v; simp; omega
  | pair a b c d e f g h v u _ _ _ _ _ _ => rw [encB_len]; have := encZ_four (joinZ v u); simp; omega

theorem u8_92 : (92 : UInt8).toNat = 92 := rfl
theorem letterB_u : letterB (117 : UInt8).toNat = none := by decide

theorem encB_head {r : Int} (h0 : 0 ≤ r) (h : r < 128) : ∃ c, encB r = [c] ∧ (c.toNat : Int) = r := by
  refine ⟨UInt8.ofNat r.toNat, encB_one h, ?_⟩
  simp; omega
theorem encB_big {r : Int} (hr : isPt r) (h : 128 ≤ r) : ∀ c ∈ encB r, 128 ≤ c.toNat := by
  have hb : 0 ≤ r ∧ r ≤ 1114111 := by unfold isPt at hr; omega
  intro c hc
  rw [encB_map] at hc
  obtain ⟨z, hz, rfl⟩ := List.mem_map.1 hc
  have : 128 ≤ z ∧ z < 256 := by
    unfold encZ at hz
    rw [if_neg (by omega)] at hz
    repeat' split at hz
    all_goals
      simp at hz
      omega
  simp; omega
theorem encB_no {r : Int} (hr : isPt r) (k : Nat) (hk : k < 128) (h : r ≠ k) : ∃ c t, encB r = c :: t ∧ c.toNat ≠ k := by
  have hb : 0 ≤ r ∧ r ≤ 1114111 := by unfold isPt at hr; omega
  rcases Int.lt_or_le r 128 with h1 | h1
  · obtain ⟨c, hc, hcr⟩ := encB_head hb.1 h1
    exact ⟨c, [], hc, by omega⟩
  · have h2 := encB_big hr h1
    have h3 := encZ_pos r
    rw [← encB_len] at h3
    cases he : encB r with
    | nil => rw [he] at h3; simp at h3
    | cons c t => exact ⟨c, t, rfl, by have := h2 c (by rw [he]; simp); omega⟩

/-- a piece is read, whatever stands behind -/
theorem Piece.read {p : List UInt8} {r : Int} (h : Piece p r) (t : List UInt8) : pieceL (p ++ t) = some (encB r, p.length) := by
  cases h with
  | plain r hr h32 h34 h92 =>
    obtain ⟨c, u, he, hc⟩ := encB_no hr 92 (by omega) (by simpa using h92)
    obtain ⟨h1, h2⟩ := plain_enc hr t
    have hp := encZ_pos r
    rw [← encB_len] at hp
    have e : encB r ++ t = c :: (u ++ t) := by rw [he]; rfl
    rw [e] at h1 h2 ⊢
    unfold pieceL
    simp only []
    rw [if_neg hc, if_neg (by omega), h2, ← e, List.take_left]
  | letter c x h =>
    show pieceL (92 :: c :: t) = _
    unfold pieceL
    simp only []
    rw [if_pos u8_92]
    unfold escL
    simp only [h]
    have := letter_lt h
    rw [encB_one (by omega)]
    simp
  | unit a b c d v h hv =>
    show pieceL (92 :: 117 :: a :: b :: c :: d :: t) = _
    unfold pieceL
    simp only []
    rw [if_pos u8_92]
    unfold escL
    simp only [letterB_u]
    unfold codedL
    rw [unitL_of, h]
    simp only []
    rw [if_pos (by unfold isPt at hv; omega)]
    rfl
  | pair a b c d e f g h v u hv hu h0 h1 h2 h3 =>
    show pieceL (92 :: 117 :: a :: b :: c :: d :: 92 :: 117 :: e :: f :: g :: h :: t) = _
    unfold pieceL
    simp only []
    rw [if_pos u8_92]
    unfold escL
    simp only [letterB_u]
    unfold codedL
    rw [unitL_of, hv]
    simp only [List.drop]
    rw [if_neg (by omega), unitL_of, hu]
    simp only []
    rw [if_pos ⟨h1, h2, h3⟩]
    rfl

/-- what is read is a piece -/
theorem piece_of {l x : List UInt8} {n : Nat} (h : pieceL l = some (x, n)) (h34 : ∀ c t, l = c :: t → c.toNat ≠ 34) : ∃ p t r, l = p ++ t ∧ Piece p r ∧ x = encB r ∧ n = p.length := by
  unfold pieceL at h
  split at h
  · simp at h
  · rename_i c t
    split at h
    · rename_i hc
      have e0 : c = 92 := UInt8.toNat_inj.1 (by rw [hc]; rfl)
      subst e0
      unfold escL at h
      split at h
      · rename_i _ c1 c2 t' heq
        simp only [List.cons.injEq] at heq
        obtain ⟨rfl, rfl⟩ := heq
        split at h
        · rename_i y hy
          simp only [Option.some.injEq, Prod.mk.injEq] at h
          obtain ⟨rfl, rfl⟩ := h
          refine ⟨[92, c2], t', y, rfl, .letter c2 y hy, ?_, rfl⟩
          have := letter_lt hy
          rw [encB_one (by omega)]
          simp
        · rw [Option.map_eq_some_iff] at h
          obtain ⟨⟨r, m⟩, hcd, he⟩ := h
          simp only [Prod.mk.injEq] at he
          obtain ⟨rfl, rfl⟩ := he
          unfold codedL at hcd
          split at hcd
          · simp at hcd
          · rename_i v hv
            obtain ⟨a, b, c, d, t3, hl, h4⟩ := unitL_some hv
            rw [hl] at hcd ⊢
            have h4lt := hex4_lt h4
            split at hcd
            · rename_i hpt
              simp only [Option.some.injEq, Prod.mk.injEq] at hcd
              obtain ⟨rfl, rfl⟩ := hcd
              exact ⟨[92, 117, a, b, c, d], t3, v, rfl, .unit a b c d v h4 (by unfold isPt; omega), rfl, rfl⟩
            · rename_i hpt
              simp only [List.drop] at hcd
              split at hcd
              · simp at hcd
              · rename_i u hu
                obtain ⟨e, f, g, hh, t4, rfl, h5⟩ := unitL_some hu
                split at hcd
                · rename_i hj
                  simp only [Option.some.injEq, Prod.mk.injEq] at hcd
                  obtain ⟨rfl, rfl⟩ := hcd
                  exact ⟨[92, 117, a, b, c, d, 92, 117, e, f, g, hh], t4, joinZ v u, rfl, .pair a b c d e f g hh v u h4 h5 (by omega) hj.1 hj.2.1 hj.2.2, rfl, rfl⟩
                · simp at hcd
      · simp at h
    · rename_i hc
      split at h
      · simp at h
      · rename_i hpl
        simp only [Option.some.injEq, Prod.mk.injEq] at h
        obtain ⟨rfl, rfl⟩ := h
        obtain ⟨r, n, hrn⟩ : ∃ r n, plainL (c :: t) = (r, n) := ⟨_, _, rfl⟩
        rw [hrn] at hpl ⊢
        simp only [] at hpl ⊢
        obtain ⟨h1, h2, h3⟩ := plain_some (List.cons_ne_nil _ _) hrn (by omega)
        have hne : ∀ k : Nat, k < 128 → c.toNat ≠ k → (r : Int) ≠ k := fun k hk hck e => by
          obtain ⟨c', hc', hcr⟩ := encB_head (r := r) (by omega) (by omega)
          rw [hc'] at h2
          simp only [List.cons_append, List.nil_append, List.cons.injEq] at h2
          rw [h2.1] at hck
          omega
        refine ⟨encB r, (c :: t).drop n, r, h2, .plain r h1 (by omega) (by simpa using hne 34 (by omega) (h34 c t rfl)) (by simpa using hne 92 (by omega) hc), ?_, h3⟩
        have e : (c :: t).take n = (encB r ++ (c :: t).drop n).take n := by rw [← h2]
        rw [e, h3, List.take_left]

/-! ### a string's body -/
def walkL : Nat → List UInt8 → Option (List UInt8 × Nat)
  | 0, _ => none
  | f + 1, l => match l with
    | [] => none
    | c :: t => if c.toNat = 34 then some ([], 1) else match pieceL (c :: t) with
      | none => none
      | some (x, n) => (walkL f ((c :: t).drop n)).map fun p => (x ++ p.1, n + p.2)

inductive Body : List UInt8 → List Int → Prop
  | nil : Body [] []
  | cons {p b : List UInt8} {r : Int} {l : List Int} : Piece p r → Body b l → Body (p ++ b) (r :: l)

def encLB (l : List Int) : List UInt8 := l.flatMap encB
theorem encLB_cons (r : Int) (l : List Int) : encLB (r :: l) = encB r ++ encLB l := rfl
theorem encLB_append (l m : List Int) : encLB (l ++ m) = encLB l ++ encLB m := by simp [encLB]

theorem Body.append {b b' : List UInt8} {l l' : List Int} (h : Body b l) (h' : Body b' l') : Body (b ++ b') (l ++ l') := by
  induction h with
  | nil => exact h'
  | cons hp _ ih => rw [List.append_assoc]; exact .cons hp ih
theorem Body.pts {b : List UInt8} {l : List Int} (h : Body b l) : ∀ r ∈ l, isPt r := by
  induction h with
  | nil => intro r hr; simp at hr
  | cons hp _ ih =>
    intro r hr
    rcases List.mem_cons.1 hr with rfl | hr
    · exact hp.pt
    · exact ih r hr
theorem Body.le {b : List UInt8} {l : List Int} (h : Body b l) : (encLB l).length ≤ b.length := by
  induction h with
  | nil => simp [encLB]
  | cons hp _ ih => rw [encLB_cons, List.length_append, List.length_append]; have := hp.le; omega

theorem Piece.not34 {p : List UInt8} {r : Int} (h : Piece p r) : ∃ c t, p = c :: t ∧ c.toNat ≠ 34 := by
  cases h with
  | plain r hr h32 h34 h92 => exact encB_no hr 34 (by omega) (by simpa using h34)
  | letter c x _ => exact ⟨92, [c], rfl, by decide⟩
  | unit a b c d v _ _ => exact ⟨92, _, rfl, by decide⟩
  | pair a b c d e f g h v u _ _ _ _ _ _ => exact ⟨92, _, rfl, by decide⟩

theorem Body.walk {b : List UInt8} {l : List Int} (h : Body b l) : ∀ (f : Nat) (t : List UInt8), b.length < f → walkL f (b ++ 34 :: t) = some (encLB l, b.length + 1) := by
  induction h with
  | nil =>
    intro f t hf
    obtain ⟨g, rfl⟩ : ∃ g, f = g + 1 := ⟨f - 1, by omega⟩
    show walkL (g + 1) (34 :: t) = _
    unfold walkL
    simp only []
    rw [if_pos (by decide)]
    rfl
  | cons hp hb ih =>
    rename_i p b r l
    intro f t hf
    obtain ⟨g, rfl⟩ : ∃ g, f = g + 1 := ⟨f - 1, by omega⟩
    have hpos := hp.pos
    rw [List.length_append] at hf
    obtain ⟨c, u, hc, h34⟩ := hp.not34
    have hr := hp.read (b ++ 34 :: t)
    have hi := ih g t (by omega)
    have e : p ++ b ++ 34 :: t = c :: (u ++ (b ++ 34 :: t)) := by rw [hc]; simp
    have e2 : p ++ (b ++ 34 :: t) = c :: (u ++ (b ++ 34 :: t)) := by rw [hc]; simp
    rw [e2] at hr
    rw [e]
    unfold walkL
    simp only []
    rw [if_neg h34, hr]
    simp only []
    rw [← e2, List.drop_left, hi]
    simp [encLB_cons]
    omega

theorem walk_of : ∀ {f : Nat} {l x : List UInt8} {n : Nat}, walkL f l = some (x, n) → ∃ b t ps, l = b ++ 34 :: t ∧ Body b ps ∧ x = encLB ps ∧ n = b.length + 1
  | 0, _, _, _, h => by simp [walkL] at h
  | f + 1, l, x, n, h => by
    unfold walkL at h
    split at h
    · simp at h
    · rename_i c t
      split at h
      · rename_i hc
        simp only [Option.some.injEq, Prod.mk.injEq] at h
        obtain ⟨rfl, rfl⟩ := h
        have e0 : c = 34 := UInt8.toNat_inj.1 (by rw [hc]; rfl)
        exact ⟨[], t, [], by rw [e0]; rfl, .nil, rfl, rfl⟩
      · rename_i hc
        split at h
        · simp at h
        · rename_i y m hp
          rw [Option.map_eq_some_iff] at h
          obtain ⟨⟨z, k⟩, hw, he⟩ := h
          simp only [Prod.mk.injEq] at he
          obtain ⟨rfl, rfl⟩ := he
          obtain ⟨p, t2, r, hl, hP, rfl, rfl⟩ := piece_of hp (fun c' t' e => by
            simp only [List.cons.injEq] at e
            rw [← e.1]; exact hc)
          rw [hl, List.drop_left] at hw
          obtain ⟨b, t3, ps, rfl, hB, rfl, rfl⟩ := walk_of hw
          refine ⟨p ++ b, t3, r :: ps, by rw [hl]; simp, .cons hP hB, rfl, ?_⟩
          rw [List.length_append]; omega

/-- the string at the head of a text: its text and size; none: there is none -/
def takeL (l : List UInt8) : Option (List UInt8 × Nat) := match l with
  | [] => none
  | c :: t => if c.toNat = 34 then (walkL (t.length + 1) t).map fun p => (p.1, p.2 + 1) else none

theorem takeL_body {b : List UInt8} {l : List Int} (h : Body b l) (t : List UInt8) : takeL (34 :: (b ++ 34 :: t)) = some (encLB l, b.length + 2) := by
  unfold takeL
  simp only []
  rw [if_pos (by decide), h.walk _ t (by simp; omega)]
  rfl
theorem takeL_of {l x : List UInt8} {n : Nat} (h : takeL l = some (x, n)) : ∃ b t ps, l = 34 :: (b ++ 34 :: t) ∧ Body b ps ∧ x = encLB ps ∧ n = b.length + 2 := by
  unfold takeL at h
  split at h
  · simp at h
  · rename_i c t
    split at h
    · rename_i hc
      have e0 : c = 34 := UInt8.toNat_inj.1 (by rw [hc]; rfl)
      subst e0
      rw [Option.map_eq_some_iff] at h
      obtain ⟨⟨z, k⟩, hw, he⟩ := h
      simp only [Prod.mk.injEq] at he
      obtain ⟨rfl, rfl⟩ := he
      obtain ⟨b, t3, ps, rfl, hB, rfl, rfl⟩ := walk_of hw
      exact ⟨b, t3, ps, rfl, hB, rfl, rfl⟩
    · simp at h
/-- a whole text that is a string -/
theorem takeL_whole {l x : List UInt8} (h : takeL l = some (x, l.length)) : ∃ b ps, l = 34 :: (b ++ [34]) ∧ Body b ps ∧ x = encLB ps := by
  obtain ⟨b, t, ps, hl, hB, hx, hn⟩ := takeL_of h
  rw [hl] at hn
  simp only [List.length_cons, List.length_append] at hn
  have : t = [] := List.eq_nil_of_length_eq_zero (by omega)
  subst this
  exact ⟨b, ps, hl, hB, hx⟩

end Go.Proofs.YtnlpdpbmmpeiaaaDoor
