/- UTF-8 as the document defines it, held against the model's decode: plain mathematics on bytes; no program is named. -/
import Derived.Laws.BytesArg
import Derived.Lib.DecodeN
import Derived.Lib.ValidU
import Derived.Test.YtlaagdpanbineaaDoorRows
import Derived.WalkKit
import Derived.WalkSpells
import Derived.WalkLawsBesides
import Derived.Lib.Hide
namespace Go.Proofs.YtlaagdpanbineaaDoor

def isPt (r : Int) : Prop := (0 ≤ r ∧ r < 55296) ∨ (57343 < r ∧ r ≤ 1114111)

/-- a code point's bytes, as numbers -/
def encZ (r : Int) : List Int :=
  if r < 128 then [r] else if r < 2048 then [192 + r / 64, 128 + r % 64] else if r < 65536 then [224 + r / 4096, 128 + r / 64 % 64, 128 + r % 64]
  else [240 + r / 262144, 128 + r / 4096 % 64, 128 + r / 64 % 64, 128 + r % 64]

theorem enc_eq (r : Int) (h : isPt r) : Utf8.encode r = strOfNums (encZ r) := by
  have hv : Utf8.valid r = true := by unfold isPt at h; simp [Utf8.valid]; omega
  obtain ⟨n, rfl⟩ := Int.eq_ofNat_of_zero_le (show 0 ≤ r by unfold isPt at h; omega)
  unfold Utf8.encode encZ strOfNums
  simp only [hv, if_true, Int.toNat_natCast]
  by_cases h1 : n < 128
  · have c1 : (n : Int) < 128 := by omega
    rw [if_pos h1, if_pos c1]; simp
  · have c1 : ¬ (n : Int) < 128 := by omega
    rw [if_neg h1, if_neg c1]
    by_cases h2 : n < 2048
    · have c2 : (n : Int) < 2048 := by omega
      rw [if_pos h2, if_pos c2]
      simp only [List.map_cons, List.map_nil]
      rw [show (192 + (n : Int) / 64).toNat = 192 + n / 64 by omega, show (128 + (n : Int) % 64).toNat = 128 + n % 64 by omega]
    · have c2 : ¬ (n : Int) < 2048 := by omega
      rw [if_neg h2, if_neg c2]
      by_cases h3 : n < 65536
      · have c3 : (n : Int) < 65536 := by omega
        rw [if_pos h3, if_pos c3]
        simp only [List.map_cons, List.map_nil]
        rw [show (224 + (n : Int) / 4096).toNat = 224 + n / 4096 by omega, show (128 + (n : Int) / 64 % 64).toNat = 128 + n / 64 % 64 by omega, show (128 + (n : Int) % 64).toNat = 128 + n % 64 by omega]
      · have c3 : ¬ (n : Int) < 65536 := by omega
        rw [if_neg h3, if_neg c3]
        simp only [List.map_cons, List.map_nil]
        rw [show (240 + (n : Int) / 262144).toNat = 240 + n / 262144 by omega, show (128 + (n : Int) / 4096 % 64).toNat = 128 + n / 4096 % 64 by omega, show (128 + (n : Int) / 64 % 64).toNat = 128 + n / 64 % 64 by omega, show (128 + (n : Int) % 64).toNat = 128 + n % 64 by omega]


/-- the byte at a place; 0 outside of the text -/
def byteAt (s : ByteArray) (i : Nat) : Nat := if h : i < s.size then s[i].toNat else 0
theorem byteAt_in {s : ByteArray} {i : Nat} (h : i < s.size) : s[i].toNat = byteAt s i := by unfold byteAt; rw [dif_pos h]
theorem byteAt_lt (s : ByteArray) (i : Nat) : byteAt s i < 256 := by
  unfold byteAt; split
  · exact UInt8.toNat_lt _
  · omega
theorem byteAt_get (s : ByteArray) (i : Nat) : (s.get! i).toNat = byteAt s i := by
  unfold byteAt
  by_cases h : i < s.size
  · rw [dif_pos h]
    show (s.data[i]!).toNat = _
    rw [getElem!_pos s.data i h]; rfl
  · rw [dif_neg h]
    show (s.data[i]!).toNat = _
    rw [getElem!_neg s.data i h]; rfl

def listS (s : ByteArray) (a k : Nat) : List Int := (List.range k).map fun i => (byteAt s (a + i) : Int)

theorem extract_listS (s : ByteArray) (a k : Nat) (h : a + k ≤ s.size) : s.extract a (a + k) = strOfNums (listS s a k) := by
  apply ByteArray.ext
  apply Array.ext
  · simp [strOfNums, listS, ByteArray.data_extract]
    have : s.data.size = s.size := rfl
    omega
  · intro i h1 h2
    have hi : i < k := by simpa [strOfNums, listS] using h2
    have hs : a + i < s.size := by omega
    simp only [strOfNums, listS, ByteArray.data_extract, Array.getElem_extract, List.getElem_toArray, List.getElem_map, List.getElem_range, Int.toNat_natCast]
    unfold byteAt
    rw [dif_pos hs]
    simp
    rfl

theorem strOfNums_inj : ∀ {xs ys : List Int}, (∀ x ∈ xs, 0 ≤ x ∧ x < 256) → (∀ y ∈ ys, 0 ≤ y ∧ y < 256) → strOfNums xs = strOfNums ys → xs = ys := by
  intro xs ys hx hy h
  have h' : xs.map (fun n => UInt8.ofNat n.toNat) = ys.map (fun n => UInt8.ofNat n.toNat) := by
    have := congrArg (fun b : ByteArray => b.data.toList) h
    simpa [strOfNums] using this
  clear h
  induction xs generalizing ys with
  | nil => cases ys with
    | nil => rfl
    | cons y ys => simp at h'
  | cons x xs ih => cases ys with
    | nil => simp at h'
    | cons y ys =>
      simp only [List.map_cons, List.cons.injEq] at h'
      have e1 := congrArg UInt8.toNat h'.1
      have bx := hx x (by simp)
      have by' := hy y (by simp)
      simp at e1
      have : x = y := by omega
      rw [this, ih (fun z hz => hx z (by simp [hz])) (fun z hz => hy z (by simp [hz])) h'.2]

theorem listS_bd (s : ByteArray) (a k : Nat) : ∀ y ∈ listS s a k, 0 ≤ y ∧ y < 256 := by
  intro y hy
  simp [listS] at hy
  obtain ⟨i, _, rfl⟩ := hy
  have := byteAt_lt s (a + i)
  omega
theorem encZ_bd (r : Int) (h : isPt r) : ∀ y ∈ encZ r, 0 ≤ y ∧ y < 256 := by
  have hb : 0 ≤ r ∧ r ≤ 1114111 := by unfold isPt at h; omega
  intro y hy
  unfold encZ at hy
  repeat' split at hy
  all_goals
    simp at hy
    omega

theorem enc_is (s : ByteArray) (a k : Nat) (r : Int) (hr : isPt r) (h : a + k ≤ s.size) : strOfNums (encZ r) = s.extract a (a + k) ↔ encZ r = listS s a k := by
  rw [extract_listS s a k h]
  constructor
  · exact strOfNums_inj (encZ_bd r hr) (listS_bd s a k)
  · intro e; rw [e]

/-- what the bytes from a place on would be, if they were i of one whose first one holds x -/
def foldB (s : ByteArray) (a x : Nat) : Nat → Nat
  | 0 => x
  | 1 => x
  | i + 2 => foldB s a x (i + 1) * 64 + byteAt s (a + (i + 1)) % 64

theorem foldB_lt (s : ByteArray) (a x : Nat) (hx : x < 256) : ∀ i, foldB s a x (i + 1) < 256 * 64 ^ i := by
  intro i
  induction i with
  | zero => simpa [foldB] using hx
  | succ i ih =>
    rw [foldB, Nat.pow_succ]
    generalize 64 ^ i = p at *
    omega
theorem foldB_le (s : ByteArray) (a x i : Nat) (hx : x < 256) (h1 : 1 ≤ i) (h4 : i ≤ 4) : foldB s a x i < 67108864 := by
  obtain ⟨j, rfl⟩ : ∃ j, i = j + 1 := ⟨i - 1, by omega⟩
  have := foldB_lt s a x hx j
  have h3 : 64 ^ j ≤ 64 ^ 3 := Nat.pow_le_pow_right (by omega) (by omega)
  omega

/-- what the bytes from a place on would be, if they were k of one -/
def cand (s : ByteArray) (a : Nat) (k : Nat) : Nat :=
  foldB s a (if k = 1 then byteAt s a else if k = 2 then byteAt s a % 32 else if k = 3 then byteAt s a % 16 else byteAt s a % 8) k

/-- they are k of one -/
def okK (s : ByteArray) (a k : Nat) : Prop := isPt (cand s a k) ∧ encZ (cand s a k) = listS s a k

def lead (b0 k : Nat) : Nat := if k = 1 then b0 else if k = 2 then b0 % 32 else if k = 3 then b0 % 16 else b0 % 8

theorem ok1 (s : ByteArray) (a : Nat) : okK s a 1 ↔ byteAt s a < 128 := by
  have hb := byteAt_lt s a
  have hc : cand s a 1 = byteAt s a := rfl
  have hl : listS s a 1 = [(byteAt s a : Int)] := rfl
  unfold okK
  rw [hc, hl]
  generalize byteAt s a = b at *
  unfold encZ isPt
  by_cases h : (b : Int) < 128
  · rw [if_pos h]; simp; omega
  · rw [if_neg h, if_pos (by omega)]
    simp; omega

theorem ok2 (s : ByteArray) (a : Nat) : okK s a 2 ↔ byteAt s a / 32 = 6 ∧ byteAt s (a + 1) / 64 = 2 ∧ byteAt s a % 32 * 64 + byteAt s (a + 1) % 64 ≥ 128 := by
  have hb := byteAt_lt s a
  have hb1 := byteAt_lt s (a + 1)
  have hc : cand s a 2 = byteAt s a % 32 * 64 + byteAt s (a + 1) % 64 := rfl
  have hl : listS s a 2 = [(byteAt s a : Int), (byteAt s (a + 1) : Int)] := rfl
  unfold okK
  rw [hc, hl]
  generalize byteAt s a = b at *
  generalize byteAt s (a + 1) = b1 at *
  unfold encZ isPt
  by_cases h : ((b % 32 * 64 + b1 % 64 : Nat) : Int) < 128
  · rw [if_pos h]; simp; omega
  · rw [if_neg h, if_pos (by omega)]
    simp only [List.cons.injEq, and_true]
    omega

theorem ok3 (s : ByteArray) (a : Nat) : okK s a 3 ↔ byteAt s a / 16 = 14 ∧ byteAt s (a + 1) / 64 = 2 ∧ byteAt s (a + 2) / 64 = 2 ∧
    byteAt s a % 16 * 4096 + byteAt s (a + 1) % 64 * 64 + byteAt s (a + 2) % 64 ≥ 2048 ∧ isPt ((byteAt s a % 16 * 4096 + byteAt s (a + 1) % 64 * 64 + byteAt s (a + 2) % 64 : Nat) : Int) := by
  have hb := byteAt_lt s a
  have hb1 := byteAt_lt s (a + 1)
  have hb2 := byteAt_lt s (a + 2)
  have hc : cand s a 3 = byteAt s a % 16 * 4096 + byteAt s (a + 1) % 64 * 64 + byteAt s (a + 2) % 64 := by
    show (byteAt s a % 16 * 64 + byteAt s (a + 1) % 64) * 64 + byteAt s (a + 2) % 64 = _
    omega
  have hl : listS s a 3 = [(byteAt s a : Int), (byteAt s (a + 1) : Int), (byteAt s (a + 2) : Int)] := rfl
  unfold okK
  rw [hc, hl]
  generalize byteAt s a = b at *
  generalize byteAt s (a + 1) = b1 at *
  generalize byteAt s (a + 2) = b2 at *
  obtain ⟨m, hm⟩ : ∃ m, b % 16 * 4096 + b1 % 64 * 64 + b2 % 64 = m := ⟨_, rfl⟩
  rw [hm]
  unfold encZ
  by_cases h : (m : Int) < 128
  · rw [if_pos h]; simp; omega
  · rw [if_neg h]
    by_cases h2 : (m : Int) < 2048
    · rw [if_pos h2]; simp; omega
    · rw [if_neg h2, if_pos (by omega)]
      simp only [List.cons.injEq, and_true]
      constructor
      · rintro ⟨p, q⟩; refine ⟨by omega, by omega, by omega, by omega, p⟩
      · rintro ⟨q1, q2, q3, q4, p⟩; refine ⟨p, by omega, by omega, by omega⟩

theorem ok4 (s : ByteArray) (a : Nat) : okK s a 4 ↔ byteAt s a / 8 = 30 ∧ byteAt s (a + 1) / 64 = 2 ∧ byteAt s (a + 2) / 64 = 2 ∧ byteAt s (a + 3) / 64 = 2 ∧
    byteAt s a % 8 * 262144 + byteAt s (a + 1) % 64 * 4096 + byteAt s (a + 2) % 64 * 64 + byteAt s (a + 3) % 64 ≥ 65536 ∧
    isPt ((byteAt s a % 8 * 262144 + byteAt s (a + 1) % 64 * 4096 + byteAt s (a + 2) % 64 * 64 + byteAt s (a + 3) % 64 : Nat) : Int) := by
  have hb := byteAt_lt s a
  have hb1 := byteAt_lt s (a + 1)
  have hb2 := byteAt_lt s (a + 2)
  have hb3 := byteAt_lt s (a + 3)
  have hc : cand s a 4 = byteAt s a % 8 * 262144 + byteAt s (a + 1) % 64 * 4096 + byteAt s (a + 2) % 64 * 64 + byteAt s (a + 3) % 64 := by
    show ((byteAt s a % 8 * 64 + byteAt s (a + 1) % 64) * 64 + byteAt s (a + 2) % 64) * 64 + byteAt s (a + 3) % 64 = _
    omega
  have hl : listS s a 4 = [(byteAt s a : Int), (byteAt s (a + 1) : Int), (byteAt s (a + 2) : Int), (byteAt s (a + 3) : Int)] := rfl
  unfold okK
  rw [hc, hl]
  generalize byteAt s a = b at *
  generalize byteAt s (a + 1) = b1 at *
  generalize byteAt s (a + 2) = b2 at *
  generalize byteAt s (a + 3) = b3 at *
  obtain ⟨m, hm⟩ : ∃ m, b % 8 * 262144 + b1 % 64 * 4096 + b2 % 64 * 64 + b3 % 64 = m := ⟨_, rfl⟩
  rw [hm]
  unfold encZ
  by_cases h : (m : Int) < 128
  · rw [if_pos h]; simp; omega
  · rw [if_neg h]
    by_cases h2 : (m : Int) < 2048
    · rw [if_pos h2]; simp; omega
    · rw [if_neg h2]
      by_cases h3 : (m : Int) < 65536
      · rw [if_pos h3]; simp; omega
      · rw [if_neg h3]
        simp only [List.cons.injEq, and_true]
        constructor
        · rintro ⟨p, q⟩; refine ⟨by omega, by omega, by omega, by omega, by omega, p⟩
        · rintro ⟨q1, q2, q3, q4, q5, p⟩; refine ⟨p, by omega, by omega, by omega, by omega⟩

/-- the document's answer: the first size that fits -/
def RefIs (s : ByteArray) (a : Nat) (r : Nat × Nat) : Prop :=
  (∃ k, 1 ≤ k ∧ k ≤ 4 ∧ a + k ≤ s.size ∧ okK s a k ∧ r = (cand s a k, k)) ∨ ((∀ k, 1 ≤ k → k ≤ 4 → a + k ≤ s.size → ¬ okK s a k) ∧ r = (0, 0))

/-- the program's answer, out of the library's decode -/
def codeD (s : ByteArray) (a : Nat) : Nat × Nat := if (Utf8.decode s a).1 = 65533 ∧ (Utf8.decode s a).2 = 1 then (0, 0) else Utf8.decode s a

set_option maxHeartbeats 1000000 in
theorem code_ref (s : ByteArray) (a : Nat) (ha : a < s.size) (r : Nat × Nat) (h : RefIs s a r) : codeD s a = r := by
  have e : Utf8.decode s a = Lib.decodeN (s.size - a) (byteAt s a) (byteAt s (a + 1)) (byteAt s (a + 2)) (byteAt s (a + 3)) := by
    rw [Lib.decode_at]; simp only [byteAt_get]
  unfold codeD
  rw [e]
  have hb := byteAt_lt s a
  have hb1 := byteAt_lt s (a + 1)
  have hb2 := byteAt_lt s (a + 2)
  have hb3 := byteAt_lt s (a + 3)
  have c2 : cand s a 2 = byteAt s a % 32 * 64 + byteAt s (a + 1) % 64 := rfl
  have c3 : cand s a 3 = byteAt s a % 16 * 4096 + byteAt s (a + 1) % 64 * 64 + byteAt s (a + 2) % 64 := by
    show (byteAt s a % 16 * 64 + byteAt s (a + 1) % 64) * 64 + byteAt s (a + 2) % 64 = _
    omega
  have c4 : cand s a 4 = byteAt s a % 8 * 262144 + byteAt s (a + 1) % 64 * 4096 + byteAt s (a + 2) % 64 * 64 + byteAt s (a + 3) % 64 := by
    show ((byteAt s a % 8 * 64 + byteAt s (a + 1) % 64) * 64 + byteAt s (a + 2) % 64) * 64 + byteAt s (a + 3) % 64 = _
    omega
  have c1 : cand s a 1 = byteAt s a := rfl
  have o1 := ok1 s a
  have o2 := ok2 s a
  have o3 := ok3 s a
  have o4 := ok4 s a
  unfold isPt at o3 o4
  rcases h with ⟨k, h1, h4, hk, ho, rfl⟩ | ⟨hn, rfl⟩
  · have hfin : Lib.decodeN (s.size - a) (byteAt s a) (byteAt s (a + 1)) (byteAt s (a + 2)) (byteAt s (a + 3)) = (cand s a k, k) ∧ (k = 1 → cand s a k < 128) := by
      clear e
      obtain rfl | rfl | rfl | rfl : k = 1 ∨ k = 2 ∨ k = 3 ∨ k = 4 := by omega
      · rw [c1]; rw [o1] at ho
        unfold Lib.decodeN
        rw [if_pos ho]
        exact ⟨rfl, fun _ => ho⟩
      · rw [c2]; rw [o2] at ho
        obtain ⟨p1, p2, p3⟩ := ho
        unfold Lib.decodeN
        rw [if_neg (show ¬ byteAt s a < 128 by omega), if_pos (show byteAt s a / 32 = 6 ∧ 1 < s.size - a ∧ byteAt s (a + 1) / 64 = 2 from ⟨p1, by omega, p2⟩), if_pos p3]
        exact ⟨rfl, fun h => by omega⟩
      · rw [c3]; rw [o3] at ho
        obtain ⟨p1, p2, p3, p4, p5⟩ := ho
        unfold Lib.decodeN
        rw [if_neg (show ¬ byteAt s a < 128 by omega), if_neg (show ¬ (byteAt s a / 32 = 6 ∧ 1 < s.size - a ∧ byteAt s (a + 1) / 64 = 2) by omega),
          if_pos (show byteAt s a / 16 = 14 ∧ (1 < s.size - a ∧ byteAt s (a + 1) / 64 = 2) ∧ (2 < s.size - a ∧ byteAt s (a + 2) / 64 = 2) by omega), if_pos (by omega)]
        exact ⟨rfl, fun h => by omega⟩
      · rw [c4]; rw [o4] at ho
        obtain ⟨p1, p2, p3, p3', p4, p5⟩ := ho
        unfold Lib.decodeN
        rw [if_neg (show ¬ byteAt s a < 128 by omega), if_neg (show ¬ (byteAt s a / 32 = 6 ∧ 1 < s.size - a ∧ byteAt s (a + 1) / 64 = 2) by omega),
          if_neg (show ¬ (byteAt s a / 16 = 14 ∧ (1 < s.size - a ∧ byteAt s (a + 1) / 64 = 2) ∧ (2 < s.size - a ∧ byteAt s (a + 2) / 64 = 2)) by omega),
          if_pos (show byteAt s a / 8 = 30 ∧ (1 < s.size - a ∧ byteAt s (a + 1) / 64 = 2) ∧ (2 < s.size - a ∧ byteAt s (a + 2) / 64 = 2) ∧ (3 < s.size - a ∧ byteAt s (a + 3) / 64 = 2) by omega), if_pos (by omega)]
        exact ⟨rfl, fun h => by omega⟩
    rw [hfin.1]
    have h5 := hfin.2
    rw [if_neg (by simp only; omega)]
  · have n1 := hn 1 (by omega) (by omega) (by omega)
    have n2 := fun h => hn 2 (by omega) (by omega) h
    have n3 := fun h => hn 3 (by omega) (by omega) h
    have n4 := fun h => hn 4 (by omega) (by omega) h
    rw [o1] at n1
    rw [o2] at n2
    rw [o3] at n3
    rw [o4] at n4
    clear hn o1 o2 o3 o4 c1 c2 c3 c4 e
    have hfin : Lib.decodeN (s.size - a) (byteAt s a) (byteAt s (a + 1)) (byteAt s (a + 2)) (byteAt s (a + 3)) = (65533, 1) := by
      generalize byteAt s a = b at *
      generalize byteAt s (a + 1) = b1 at *
      generalize byteAt s (a + 2) = b2 at *
      generalize byteAt s (a + 3) = b3 at *
      unfold Lib.decodeN
      rw [if_neg n1]
      by_cases q2 : b / 32 = 6 ∧ 1 < s.size - a ∧ b1 / 64 = 2
      · rw [if_pos q2]
        have := n2 (by omega)
        rw [if_neg (by omega)]
      · rw [if_neg q2]
        by_cases q3 : b / 16 = 14 ∧ (1 < s.size - a ∧ b1 / 64 = 2) ∧ (2 < s.size - a ∧ b2 / 64 = 2)
        · rw [if_pos q3]
          have := n3 (by omega)
          rw [if_neg (by omega)]
        · rw [if_neg q3]
          by_cases q4 : b / 8 = 30 ∧ (1 < s.size - a ∧ b1 / 64 = 2) ∧ (2 < s.size - a ∧ b2 / 64 = 2) ∧ (3 < s.size - a ∧ b3 / 64 = 2)
          · rw [if_pos q4]
            have := n4 (by omega)
            rw [if_neg (by omega)]
          · rw [if_neg q4]
    rw [hfin]
    simp

end Go.Proofs.YtlaagdpanbineaaDoor

/- What a string of JSON is, over a list of bytes (no program): pieces, a string's text; the same read back. -/
namespace Go.Proofs.YtlaagdpanbineaaDoor

theorem size_list (s : ByteArray) : s.data.toList.length = s.size := rfl
theorem toBA (l : List UInt8) : (⟨l.toArray⟩ : ByteArray).data.toList = l := rfl
theorem ba_of (s : ByteArray) : (⟨s.data.toList.toArray⟩ : ByteArray) = s := by cases s; simp
theorem ba_eq {s t : ByteArray} (h : s.data.toList = t.data.toList) : s = t := by rw [← ba_of s, ← ba_of t, h]

/-- a code point's bytes -/
def encB (r : Int) : List UInt8 := (strOfNums (encZ r)).data.toList
theorem encB_map (r : Int) : encB r = (encZ r).map fun n => UInt8.ofNat n.toNat := by simp [encB, strOfNums]
theorem encB_len (r : Int) : (encB r).length = (encZ r).length := by rw [encB_map, List.length_map]
theorem encB_ba (r : Int) : strOfNums (encZ r) = ⟨(encB r).toArray⟩ := (ba_of _).symm
theorem encZ_one {r : Int} (h : r < 128) : encZ r = [r] := by unfold encZ; rw [if_pos h]
theorem encB_one {r : Int} (h : r < 128) : encB r = [UInt8.ofNat r.toNat] := by rw [encB_map, encZ_one h]; rfl
theorem encZ_pos (r : Int) : 1 ≤ (encZ r).length := by
  unfold encZ
  repeat' split
  all_goals simp
theorem encZ_four (r : Int) : (encZ r).length ≤ 4 := by
  unfold encZ
  repeat' split
  all_goals simp

/-! ### the byte at a place, over lists -/
theorem byteAt_list (s : ByteArray) (i : Nat) : byteAt s i = ((s.data.toList[i]?).map UInt8.toNat).getD 0 := by
  unfold byteAt
  by_cases h : i < s.size
  · have h2 : i < s.data.toList.length := by rw [size_list]; exact h
    rw [dif_pos h, List.getElem?_eq_getElem h2]
    rfl
  · have h2 : s.data.toList.length ≤ i := by rw [size_list]; omega
    rw [dif_neg h, List.getElem?_eq_none h2]
    rfl
theorem byteAt_dropL (s : ByteArray) (a i : Nat) : byteAt ⟨(s.data.toList.drop a).toArray⟩ i = byteAt s (a + i) := by
  rw [byteAt_list, byteAt_list, toBA, List.getElem?_drop]
theorem size_dropL (s : ByteArray) (a : Nat) : (⟨(s.data.toList.drop a).toArray⟩ : ByteArray).size = s.size - a := by
  rw [← size_list, toBA, List.length_drop, size_list]

/-- the code point at the head of a text, and its size; (0, 0): there is none -/
def plainL (l : List UInt8) : Nat × Nat := codeD ⟨l.toArray⟩ 0
theorem codeD_drop (s : ByteArray) (a : Nat) : codeD s a = plainL (s.data.toList.drop a) := by
  have e : Utf8.decode ⟨(s.data.toList.drop a).toArray⟩ 0 = Utf8.decode s a := by
    rw [Lib.decode_at, Lib.decode_at]
    simp only [byteAt_get, byteAt_dropL, Nat.zero_add, Nat.add_zero, Nat.sub_zero]
    rw [size_dropL]
  unfold plainL codeD
  rw [e]

theorem ref_total (s : ByteArray) (a : Nat) : ∃ r, RefIs s a r := by
  by_cases h : ∃ k, 1 ≤ k ∧ k ≤ 4 ∧ a + k ≤ s.size ∧ okK s a k
  · obtain ⟨k, h1, h2, h3, h4⟩ := h
    exact ⟨_, .inl ⟨k, h1, h2, h3, h4, rfl⟩⟩
  · exact ⟨_, .inr ⟨fun k h1 h2 h3 h4 => h ⟨k, h1, h2, h3, h4⟩, rfl⟩⟩

theorem listS_head (l : List UInt8) (k : Nat) (h : k ≤ l.length) : (strOfNums (listS ⟨l.toArray⟩ 0 k)).data.toList = l.take k := by
  have := extract_listS ⟨l.toArray⟩ 0 k (by rw [← size_list, toBA]; omega)
  rw [← this]
  rw [ByteArray.data_extract]
  simp

/-- where a code point stands, its bytes stand -/
theorem plain_some {l : List UInt8} {r n : Nat} (hl : l ≠ []) (h : plainL l = (r, n)) (hn : n ≠ 0) : isPt r ∧ l = encB r ++ l.drop n ∧ n = (encB r).length := by
  obtain ⟨q, hq⟩ := ref_total ⟨l.toArray⟩ 0
  have hlen : 0 < l.length := List.length_pos_iff.2 hl
  have hc := code_ref ⟨l.toArray⟩ 0 (by rw [← size_list, toBA]; exact hlen) q hq
  unfold plainL at h
  rw [hc] at h
  subst h
  rcases hq with ⟨k, h1, h4, hk, ⟨ho1, ho2⟩, he⟩ | ⟨_, he⟩
  · simp only [Prod.mk.injEq] at he
    obtain ⟨rfl, rfl⟩ := he
    rw [← size_list, toBA] at hk
    have hb : encB (cand ⟨l.toArray⟩ 0 n) = l.take n := by
      unfold encB; rw [ho2]; exact listS_head l n (by omega)
    refine ⟨ho1, ?_, ?_⟩
    · rw [hb, List.take_append_drop]
    · rw [hb, List.length_take]; omega
  · simp only [Prod.mk.injEq] at he
    exact absurd he.2 hn

theorem listS_pre (xs : List Int) (hb : ∀ y ∈ xs, 0 ≤ y ∧ y < 256) (t : List UInt8) : xs = listS ⟨((strOfNums xs).data.toList ++ t).toArray⟩ 0 xs.length := by
  apply List.ext_getElem
  · simp [listS]
  · intro i h1 h2
    have := hb xs[i] (List.getElem_mem h1)
    simp only [listS, List.getElem_map, List.getElem_range, Nat.zero_add]
    rw [byteAt_list, toBA]
    have e : (strOfNums xs).data.toList = xs.map fun n => UInt8.ofNat n.toNat := by simp [strOfNums]
    rw [e, List.getElem?_append_left (by simpa using h1)]
    simp [h1]
    omega

theorem cand_enc (s : ByteArray) (a : Nat) (r : Int) (hr : isPt r) (h : encZ r = listS s a (encZ r).length) : (cand s a (encZ r).length : Int) = r := by
  have hb : 0 ≤ r ∧ r ≤ 1114111 := by unfold isPt at hr; omega
  unfold encZ at h ⊢
  by_cases h1 : r < 128
  · rw [if_pos h1] at h ⊢
    simp only [List.length_cons, List.length_nil] at h ⊢
    rw [show listS s a (0 + 1) = [(byteAt s a : Int)] from rfl] at h
    simp only [List.cons.injEq, and_true] at h
    show ((byteAt s a : Nat) : Int) = r
    exact h.symm
  · rw [if_neg h1] at h ⊢
    by_cases h2 : r < 2048
    · rw [if_pos h2] at h ⊢
      simp only [List.length_cons, List.length_nil] at h ⊢
      rw [show listS s a (0 + 1 + 1) = [(byteAt s a : Int), (byteAt s (a + 1) : Int)] from rfl] at h
      simp only [List.cons.injEq, and_true] at h
      show ((byteAt s a % 32 * 64 + byteAt s (a + 1) % 64 : Nat) : Int) = r
      omega
    · rw [if_neg h2] at h ⊢
      by_cases h3 : r < 65536
      · rw [if_pos h3] at h ⊢
        simp only [List.length_cons, List.length_nil] at h ⊢
        rw [show listS s a (0 + 1 + 1 + 1) = [(byteAt s a : Int), (byteAt s (a + 1) : Int), (byteAt s (a + 2) : Int)] from rfl] at h
        simp only [List.cons.injEq, and_true] at h
        show (((byteAt s a % 16 * 64 + byteAt s (a + 1) % 64) * 64 + byteAt s (a + 2) % 64 : Nat) : Int) = r
        omega
      · rw [if_neg h3] at h ⊢
        simp only [List.length_cons, List.length_nil] at h ⊢
        rw [show listS s a (0 + 1 + 1 + 1 + 1) = [(byteAt s a : Int), (byteAt s (a + 1) : Int), (byteAt s (a + 2) : Int), (byteAt s (a + 3) : Int)] from rfl] at h
        simp only [List.cons.injEq, and_true] at h
        show ((((byteAt s a % 8 * 64 + byteAt s (a + 1) % 64) * 64 + byteAt s (a + 2) % 64) * 64 + byteAt s (a + 3) % 64 : Nat) : Int) = r
        omega

/-- where a code point's bytes stand, it stands -/
theorem plain_enc {r : Int} (hr : isPt r) (t : List UInt8) : ((plainL (encB r ++ t)).1 : Int) = r ∧ (plainL (encB r ++ t)).2 = (encB r).length := by
  have h := listS_pre (encZ r) (encZ_bd r hr) t
  have hc := cand_enc _ 0 r hr h
  have h1 := encZ_pos r
  have hsz : (⟨(encB r ++ t).toArray⟩ : ByteArray).size = (encB r).length + t.length := by rw [← size_list, toBA, List.length_append]
  have := code_ref ⟨(encB r ++ t).toArray⟩ 0 (by rw [hsz, encB_len]; omega) (cand ⟨(encB r ++ t).toArray⟩ 0 (encZ r).length, (encZ r).length)
    (.inl ⟨(encZ r).length, h1, encZ_four r, by rw [hsz, encB_len]; omega, ⟨by unfold encB; rw [hc]; exact hr, by unfold encB; rw [hc]; exact h⟩, rfl⟩)
  unfold plainL
  rw [this, encB_len]
  exact ⟨hc, rfl⟩

/-! ### hexadecimal digits -/
def dg (c : Nat) : Option Nat := if 48 ≤ c ∧ c ≤ 57 then some (c - 48) else if 97 ≤ c ∧ c ≤ 102 then some (c - 87) else if 65 ≤ c ∧ c ≤ 70 then some (c - 55) else none
theorem dg_lt {c d : Nat} (h : dg c = some d) : d < 16 := by
  unfold dg at h
  split at h
  · simp at h; omega
  · split at h
    · simp at h; omega
    · split at h
      · simp at h; omega
      · simp at h

def hex4 (a b c d : UInt8) : Option Nat := match dg a.toNat, dg b.toNat, dg c.toNat, dg d.toNat with
  | some x, some y, some z, some u => some (((x * 16 + y) * 16 + z) * 16 + u)
  | _, _, _, _ => none
theorem hex4_lt {a b c d : UInt8} {v : Nat} (h : hex4 a b c d = some v) : v < 65536 := by
  unfold hex4 at h
  split at h
  · rename_i x y z u h1 h2 h3 h4
    have := dg_lt h1; have := dg_lt h2; have := dg_lt h3; have := dg_lt h4
    simp at h; omega
  · simp at h
def hexL : List UInt8 → Option Nat
  | a :: b :: c :: d :: _ => hex4 a b c d
  | _ => none
theorem hexL_some {l : List UInt8} {v : Nat} (h : hexL l = some v) : ∃ a b c d t, l = a :: b :: c :: d :: t ∧ hex4 a b c d = some v := by
  unfold hexL at h
  split at h
  · exact ⟨_, _, _, _, _, rfl, h⟩
  · simp at h

/-! ### pieces -/
def letterB (c : Nat) : Option Nat := if c = 34 then some 34 else if c = 92 then some 92 else if c = 47 then some 47 else if c = 98 then some 8 else if c = 102 then some 12
  else if c = 110 then some 10 else if c = 114 then some 13 else if c = 116 then some 9 else none

/-- what "\u" stands at the head of a text: the number of its digits -/
def unitL : List UInt8 → Option Nat
  | a :: b :: t => if a.toNat = 92 ∧ b.toNat = 117 then hexL t else none
  | _ => none
theorem unitL_some {l : List UInt8} {v : Nat} (h : unitL l = some v) : ∃ a b c d t, l = 92 :: 117 :: a :: b :: c :: d :: t ∧ hex4 a b c d = some v := by
  unfold unitL at h
  split at h
  · rename_i x y t
    split at h
    · rename_i hc
      obtain ⟨a, b, c, d, t', rfl, h2⟩ := hexL_some h
      have e1 : x = 92 := UInt8.toNat_inj.1 (by rw [hc.1]; rfl)
      have e2 : y = 117 := UInt8.toNat_inj.1 (by rw [hc.2]; rfl)
      exact ⟨a, b, c, d, t', by rw [e1, e2], h2⟩
    · simp at h
  · simp at h
theorem unitL_of (a b c d : UInt8) (t : List UInt8) : unitL (92 :: 117 :: a :: b :: c :: d :: t) = hex4 a b c d := by
  show (if (92 : UInt8).toNat = 92 ∧ (117 : UInt8).toNat = 117 then hexL (a :: b :: c :: d :: t) else none) = _
  rw [if_pos ⟨rfl, rfl⟩]
  rfl

def joinZ (a b : Nat) : Int := 65536 + ((a : Int) - 55296) * 1024 + ((b : Int) - 56320)
theorem joinZ_pt {a b : Nat} (h0 : 55296 ≤ a) (h1 : a < 56320) (h2 : 56320 ≤ b) (h3 : b ≤ 57343) : isPt (joinZ a b) ∧ 65536 ≤ joinZ a b := by
  unfold isPt joinZ; omega

/-- a code point written by "\u" at the head of a text: it, and how many bytes -/
def codedL (l : List UInt8) : Option (Int × Nat) := match unitL l with
  | none => none
  | some a => if (a < 55296 ∨ 57343 < a) then some (a, 6) else match unitL (l.drop 6) with
    | none => none
    | some b => if a < 56320 ∧ 56320 ≤ b ∧ b ≤ 57343 then some (joinZ a b, 12) else none

/-- what the byte behind "\" begins -/
def escL (l : List UInt8) : Option (List UInt8 × Nat) := match l with
  | _ :: c :: _ => match letterB c.toNat with
    | some x => some ([UInt8.ofNat x], 2)
    | none => (codedL l).map fun p => (encB p.1, p.2)
  | _ => none
/-- the piece at the head of a text: its text and size (that it is no quotation mark is not asked) -/
def pieceL (l : List UInt8) : Option (List UInt8 × Nat) := match l with
  | [] => none
  | c :: t => if c.toNat = 92 then escL (c :: t) else if (plainL (c :: t)).2 = 0 ∨ (plainL (c :: t)).1 < 32 then none else some ((c :: t).take (plainL (c :: t)).2, (plainL (c :: t)).2)

inductive Piece : List UInt8 → Int → Prop
  | plain (r : Int) : isPt r → 32 ≤ r → r ≠ 34 → r ≠ 92 → Piece (encB r) r
  | letter (c : UInt8) (x : Nat) : letterB c.toNat = some x → Piece [92, c] x
  | unit (a b c d : UInt8) (v : Nat) : hex4 a b c d = some v → isPt v → Piece [92, 117, a, b, c, d] v
  | pair (a b c d e f g h : UInt8) (v u : Nat) : hex4 a b c d = some v → hex4 e f g h = some u → 55296 ≤ v → v < 56320 → 56320 ≤ u → u ≤ 57343 → Piece [92, 117, a, b, c, d, 92, 117, e, f, g, h] (joinZ v u)

theorem letter_lt {c x : Nat} (h : letterB c = some x) : x < 128 := by
  unfold letterB at h
  repeat' split at h
  all_goals (simp at h; try omega)
theorem Piece.pt {p : List UInt8} {r : Int} (h : Piece p r) : isPt r := by
  cases h with
  | plain _ h _ _ _ => exact h
  | letter c x h => have := letter_lt h; unfold isPt; omega
  | unit a b c d v _ h => exact h
  | pair a b c d e f g h v u _ _ h0 h1 h2 h3 => exact (joinZ_pt h0 h1 h2 h3).1
theorem Piece.pos {p : List UInt8} {r : Int} (h : Piece p r) : 1 ≤ p.length := by
  cases h with
  | plain r _ _ _ _ => rw [encB_len]; exact encZ_pos r
  | _ => simp
theorem Piece.le {p : List UInt8} {r : Int} (h : Piece p r) : (encB r).length ≤ p.length := by
  cases h with
  | plain r _ _ _ _ => exact Nat.le_refl _
  | letter c x h => have := letter_lt h; rw [encB_one (by omega)]; simp
  | unit a b c d v _ h => rw [encB_len]; have := encZ_four v; simp; omega
  | pair a b c d e f g h v u _ _ _ _ _ _ => rw [encB_len]; have := encZ_four (joinZ v u); simp; omega

theorem u8_92 : (92 : UInt8).toNat = 92 := rfl
theorem letterB_u : letterB (117 : UInt8).toNat = none := by decide

theorem encB_head {r : Int} (h0 : 0 ≤ r) (h : r < 128) : ∃ c, encB r = [c] ∧ (c.toNat : Int) = r := by
  refine ⟨UInt8.ofNat r.toNat, encB_one h, ?_⟩
  simp; omega
theorem encB_big {r : Int} (hr : isPt r) (h : 128 ≤ r) : ∀ c ∈ encB r, 128 ≤ c.toNat := by
  have hb : 0 ≤ r ∧ r ≤ 1114111 := by unfold isPt at hr; omega
  intro c hc
  rw [encB_map] at hc
  obtain ⟨z, hz, rfl⟩ := List.mem_map.1 hc
  have : 128 ≤ z ∧ z < 256 := by
    unfold encZ at hz
    rw [if_neg (by omega)] at hz
    repeat' split at hz
    all_goals
      simp at hz
      omega
  simp; omega
theorem encB_no {r : Int} (hr : isPt r) (k : Nat) (hk : k < 128) (h : r ≠ k) : ∃ c t, encB r = c :: t ∧ c.toNat ≠ k := by
  have hb : 0 ≤ r ∧ r ≤ 1114111 := by unfold isPt at hr; omega
  rcases Int.lt_or_le r 128 with h1 | h1
  · obtain ⟨c, hc, hcr⟩ := encB_head hb.1 h1
    exact ⟨c, [], hc, by omega⟩
  · have h2 := encB_big hr h1
    have h3 := encZ_pos r
    rw [← encB_len] at h3
    cases he : encB r with
    | nil => rw [he] at h3; simp at h3
    | cons c t => exact ⟨c, t, rfl, by have := h2 c (by rw [he]; simp); omega⟩

/-- a piece is read, whatever stands behind -/
theorem Piece.read {p : List UInt8} {r : Int} (h : Piece p r) (t : List UInt8) : pieceL (p ++ t) = some (encB r, p.length) := by
  cases h with
  | plain r hr h32 h34 h92 =>
    obtain ⟨c, u, he, hc⟩ := encB_no hr 92 (by omega) (by simpa using h92)
    obtain ⟨h1, h2⟩ := plain_enc hr t
    have hp := encZ_pos r
    rw [← encB_len] at hp
    have e : encB r ++ t = c :: (u ++ t) := by rw [he]; rfl
    rw [e] at h1 h2 ⊢
    unfold pieceL
    simp only []
    rw [if_neg hc, if_neg (by omega), h2, ← e, List.take_left]
  | letter c x h =>
    show pieceL (92 :: c :: t) = _
    unfold pieceL
    simp only []
    rw [if_pos u8_92]
    unfold escL
    simp only [h]
    have := letter_lt h
    rw [encB_one (by omega)]
    simp
  | unit a b c d v h hv =>
    show pieceL (92 :: 117 :: a :: b :: c :: d :: t) = _
    unfold pieceL
    simp only []
    rw [if_pos u8_92]
    unfold escL
    simp only [letterB_u]
    unfold codedL
    rw [unitL_of, h]
    simp only []
    rw [if_pos (by unfold isPt at hv; omega)]
    rfl
  | pair a b c d e f g h v u hv hu h0 h1 h2 h3 =>
    show pieceL (92 :: 117 :: a :: b :: c :: d :: 92 :: 117 :: e :: f :: g :: h :: t) = _
    unfold pieceL
    simp only []
    rw [if_pos u8_92]
    unfold escL
    simp only [letterB_u]
    unfold codedL
    rw [unitL_of, hv]
    simp only [List.drop]
    rw [if_neg (by omega), unitL_of, hu]
    simp only []
    rw [if_pos ⟨h1, h2, h3⟩]
    rfl

/-- what is read is a piece -/
theorem piece_of {l x : List UInt8} {n : Nat} (h : pieceL l = some (x, n)) (h34 : ∀ c t, l = c :: t → c.toNat ≠ 34) : ∃ p t r, l = p ++ t ∧ Piece p r ∧ x = encB r ∧ n = p.length := by
  unfold pieceL at h
  split at h
  · simp at h
  · rename_i c t
    split at h
    · rename_i hc
      have e0 : c = 92 := UInt8.toNat_inj.1 (by rw [hc]; rfl)
      subst e0
      unfold escL at h
      split at h
      · rename_i _ c1 c2 t' heq
        simp only [List.cons.injEq] at heq
        obtain ⟨rfl, rfl⟩ := heq
        split at h
        · rename_i y hy
          simp only [Option.some.injEq, Prod.mk.injEq] at h
          obtain ⟨rfl, rfl⟩ := h
          refine ⟨[92, c2], t', y, rfl, .letter c2 y hy, ?_, rfl⟩
          have := letter_lt hy
          rw [encB_one (by omega)]
          simp
        · rw [Option.map_eq_some_iff] at h
          obtain ⟨⟨r, m⟩, hcd, he⟩ := h
          simp only [Prod.mk.injEq] at he
          obtain ⟨rfl, rfl⟩ := he
          unfold codedL at hcd
          split at hcd
          · simp at hcd
          · rename_i v hv
            obtain ⟨a, b, c, d, t3, hl, h4⟩ := unitL_some hv
            rw [hl] at hcd ⊢
            have h4lt := hex4_lt h4
            split at hcd
            · rename_i hpt
              simp only [Option.some.injEq, Prod.mk.injEq] at hcd
              obtain ⟨rfl, rfl⟩ := hcd
              exact ⟨[92, 117, a, b, c, d], t3, v, rfl, .unit a b c d v h4 (by unfold isPt; omega), rfl, rfl⟩
            · rename_i hpt
              simp only [List.drop] at hcd
              split at hcd
              · simp at hcd
              · rename_i u hu
                obtain ⟨e, f, g, hh, t4, rfl, h5⟩ := unitL_some hu
                split at hcd
                · rename_i hj
                  simp only [Option.some.injEq, Prod.mk.injEq] at hcd
                  obtain ⟨rfl, rfl⟩ := hcd
                  exact ⟨[92, 117, a, b, c, d, 92, 117, e, f, g, hh], t4, joinZ v u, rfl, .pair a b c d e f g hh v u h4 h5 (by omega) hj.1 hj.2.1 hj.2.2, rfl, rfl⟩
                · simp at hcd
      · simp at h
    · rename_i hc
      split at h
      · simp at h
      · rename_i hpl
        simp only [Option.some.injEq, Prod.mk.injEq] at h
        obtain ⟨rfl, rfl⟩ := h
        obtain ⟨r, n, hrn⟩ : ∃ r n, plainL (c :: t) = (r, n) := ⟨_, _, rfl⟩
        rw [hrn] at hpl ⊢
        simp only [] at hpl ⊢
        obtain ⟨h1, h2, h3⟩ := plain_some (List.cons_ne_nil _ _) hrn (by omega)
        have hne : ∀ k : Nat, k < 128 → c.toNat ≠ k → (r : Int) ≠ k := fun k hk hck e => by
          obtain ⟨c', hc', hcr⟩ := encB_head (r := r) (by omega) (by omega)
          rw [hc'] at h2
          simp only [List.cons_append, List.nil_append, List.cons.injEq] at h2
          rw [h2.1] at hck
          omega
        refine ⟨encB r, (c :: t).drop n, r, h2, .plain r h1 (by omega) (by simpa using hne 34 (by omega) (h34 c t rfl)) (by simpa using hne 92 (by omega) hc), ?_, h3⟩
        have e : (c :: t).take n = (encB r ++ (c :: t).drop n).take n := by rw [← h2]
        rw [e, h3, List.take_left]

/-! ### a string's body -/
def walkL : Nat → List UInt8 → Option (List UInt8 × Nat)
  | 0, _ => none
  | f + 1, l => match l with
    | [] => none
    | c :: t => if c.toNat = 34 then some ([], 1) else match pieceL (c :: t) with
      | none => none
      | some (x, n) => (walkL f ((c :: t).drop n)).map fun p => (x ++ p.1, n + p.2)

inductive Body : List UInt8 → List Int → Prop
  | nil : Body [] []
  | cons {p b : List UInt8} {r : Int} {l : List Int} : Piece p r → Body b l → Body (p ++ b) (r :: l)

def encLB (l : List Int) : List UInt8 := l.flatMap encB
theorem encLB_cons (r : Int) (l : List Int) : encLB (r :: l) = encB r ++ encLB l := rfl
theorem encLB_append (l m : List Int) : encLB (l ++ m) = encLB l ++ encLB m := by simp [encLB]

theorem Body.append {b b' : List UInt8} {l l' : List Int} (h : Body b l) (h' : Body b' l') : Body (b ++ b') (l ++ l') := by
  induction h with
  | nil => exact h'
  | cons hp _ ih => rw [List.append_assoc]; exact .cons hp ih
theorem Body.pts {b : List UInt8} {l : List Int} (h : Body b l) : ∀ r ∈ l, isPt r := by
  induction h with
  | nil => intro r hr; simp at hr
  | cons hp _ ih =>
    intro r hr
    rcases List.mem_cons.1 hr with rfl | hr
    · exact hp.pt
    · exact ih r hr
theorem Body.le {b : List UInt8} {l : List Int} (h : Body b l) : (encLB l).length ≤ b.length := by
  induction h with
  | nil => simp [encLB]
  | cons hp _ ih => rw [encLB_cons, List.length_append, List.length_append]; have := hp.le; omega

theorem Piece.not34 {p : List UInt8} {r : Int} (h : Piece p r) : ∃ c t, p = c :: t ∧ c.toNat ≠ 34 := by
  cases h with
  | plain r hr h32 h34 h92 => exact encB_no hr 34 (by omega) (by simpa using h34)
  | letter c x _ => exact ⟨92, [c], rfl, by decide⟩
  | unit a b c d v _ _ => exact ⟨92, _, rfl, by decide⟩
  | pair a b c d e f g h v u _ _ _ _ _ _ => exact ⟨92, _, rfl, by decide⟩

theorem Body.walk {b : List UInt8} {l : List Int} (h : Body b l) : ∀ (f : Nat) (t : List UInt8), b.length < f → walkL f (b ++ 34 :: t) = some (encLB l, b.length + 1) := by
  induction h with
  | nil =>
    intro f t hf
    obtain ⟨g, rfl⟩ : ∃ g, f = g + 1 := ⟨f - 1, by omega⟩
    show walkL (g + 1) (34 :: t) = _
    unfold walkL
    simp only []
    rw [if_pos (by decide)]
    rfl
  | cons hp hb ih =>
    rename_i p b r l
    intro f t hf
    obtain ⟨g, rfl⟩ : ∃ g, f = g + 1 := ⟨f - 1, by omega⟩
    have hpos := hp.pos
    rw [List.length_append] at hf
    obtain ⟨c, u, hc, h34⟩ := hp.not34
    have hr := hp.read (b ++ 34 :: t)
    have hi := ih g t (by omega)
    have e : p ++ b ++ 34 :: t = c :: (u ++ (b ++ 34 :: t)) := by rw [hc]; simp
    have e2 : p ++ (b ++ 34 :: t) = c :: (u ++ (b ++ 34 :: t)) := by rw [hc]; simp
    rw [e2] at hr
    rw [e]
    unfold walkL
    simp only []
    rw [if_neg h34, hr]
    simp only []
    rw [← e2, List.drop_left, hi]
    simp [encLB_cons]
    omega

theorem walk_of : ∀ {f : Nat} {l x : List UInt8} {n : Nat}, walkL f l = some (x, n) → ∃ b t ps, l = b ++ 34 :: t ∧ Body b ps ∧ x = encLB ps ∧ n = b.length + 1
  | 0, _, _, _, h => by simp [walkL] at h
  | f + 1, l, x, n, h => by
    unfold walkL at h
    split at h
    · simp at h
    · rename_i c t
      split at h
      · rename_i hc
        simp only [Option.some.injEq, Prod.mk.injEq] at h
        obtain ⟨rfl, rfl⟩ := h
        have e0 : c = 34 := UInt8.toNat_inj.1 (by rw [hc]; rfl)
        exact ⟨[], t, [], by rw [e0]; rfl, .nil, rfl, rfl⟩
      · rename_i hc
        split at h
        · simp at h
        · rename_i y m hp
          rw [Option.map_eq_some_iff] at h
          obtain ⟨⟨z, k⟩, hw, he⟩ := h
          simp only [Prod.mk.injEq] at he
          obtain ⟨rfl, rfl⟩ := he
          obtain ⟨p, t2, r, hl, hP, rfl, rfl⟩ := piece_of hp (fun c' t' e => by
            simp only [List.cons.injEq] at e
            rw [← e.1]; exact hc)
          rw [hl, List.drop_left] at hw
          obtain ⟨b, t3, ps, rfl, hB, rfl, rfl⟩ := walk_of hw
          refine ⟨p ++ b, t3, r :: ps, by rw [hl]; simp, .cons hP hB, rfl, ?_⟩
          rw [List.length_append]; omega

/-- the string at the head of a text: its text and size; none: there is none -/
def takeL (l : List UInt8) : Option (List UInt8 × Nat) := match l with
  | [] => none
  | c :: t => if c.toNat = 34 then (walkL (t.length + 1) t).map fun p => (p.1, p.2 + 1) else none

theorem takeL_body {b : List UInt8} {l : List Int} (h : Body b l) (t : List UInt8) : takeL (34 :: (b ++ 34 :: t)) = some (encLB l, b.length + 2) := by
  unfold takeL
  simp only []
  rw [if_pos (by decide), h.walk _ t (by simp; omega)]
  rfl
theorem takeL_of {l x : List UInt8} {n : Nat} (h : takeL l = some (x, n)) : ∃ b t ps, l = 34 :: (b ++ 34 :: t) ∧ Body b ps ∧ x = encLB ps ∧ n = b.length + 2 := by
  unfold takeL at h
  split at h
  · simp at h
  · rename_i c t
    split at h
    · rename_i hc
      have e0 : c = 34 := UInt8.toNat_inj.1 (by rw [hc]; rfl)
      subst e0
      rw [Option.map_eq_some_iff] at h
      obtain ⟨⟨z, k⟩, hw, he⟩ := h
      simp only [Prod.mk.injEq] at he
      obtain ⟨rfl, rfl⟩ := he
      obtain ⟨b, t3, ps, rfl, hB, rfl, rfl⟩ := walk_of hw
      exact ⟨b, t3, ps, rfl, hB, rfl, rfl⟩
    · simp at h
/-- a whole text that is a string -/
theorem takeL_whole {l x : List UInt8} (h : takeL l = some (x, l.length)) : ∃ b ps, l = 34 :: (b ++ [34]) ∧ Body b ps ∧ x = encLB ps := by
  obtain ⟨b, t, ps, hl, hB, hx, hn⟩ := takeL_of h
  rw [hl] at hn
  simp only [List.length_cons, List.length_append] at hn
  have : t = [] := List.eq_nil_of_length_eq_zero (by omega)
  subst this
  exact ⟨b, ps, hl, hB, hx⟩

end Go.Proofs.YtlaagdpanbineaaDoor

/- The contracts of the functions that the laws of this seat call (runes.Join, runes.Encode, isPoint, alive, the document's Point and Encode): what each call returns, in any world. -/
namespace Go.Proofs.YtlaagdpanbineaaDoor
open Go.RowKit

theorem ret_bool {a b : Bool} (h : a = b) : Ending.returned (.bool a) = .returned (.bool b) := by rw [h]

set_option maxHeartbeats 400000 in
theorem isPoint_yes (r : Int) (w : World) (h : isPt r) :
    Calls Tryd.prog 112 #[.int .i64 r] w fun e w' => e = .returned (.bool true) ∧ w = w' := by
  rcases h with ⟨h1, h2⟩ | ⟨h1, h2⟩
  all_goals
    go_enter Tryd.func112, Tryd.ntmps112
    go_wp2
    go_ret
    exact ⟨rfl, rfl⟩

set_option maxHeartbeats 400000 in
theorem isPoint_no (r : Int) (w : World) (h : ¬ isPt r) :
    Calls Tryd.prog 112 #[.int .i64 r] w fun e w' => e = .returned (.bool false) ∧ w = w' := by
  have h' : r < 0 ∨ (55296 ≤ r ∧ r ≤ 57343) ∨ 1114112 ≤ r := by unfold isPt at h; omega
  clear h
  rcases h' with h1 | ⟨h1, h2⟩ | h1
  all_goals
    go_enter Tryd.func112, Tryd.ntmps112
    go_wp2
    go_ret
    exact ⟨ret_bool (by simp; try omega), rfl⟩

set_option maxHeartbeats 400000 in
theorem encode_yes (r : Int) (w : World) (h : isPt r) :
    Calls Tryd.prog 98 #[.int .i64 r] w fun e w' => e = .returned (.tuple #[.string (strOfNums (encZ r)), .bool true]) ∧ w = w' := by
  have hb : 0 ≤ r ∧ r ≤ 1114111 := by unfold isPt at h; omega
  obtain ⟨hb1, hb2⟩ := hb
  rw [← enc_eq r h]
  go_enter Tryd.func98, Tryd.ntmps98
  go_wp2_with (go_at_call 112; refine (isPoint_yes _ _ h).mono ?_; rintro e w' ⟨rfl, rfl⟩)
  go_ret2
  exact ⟨rfl, rfl⟩

set_option maxHeartbeats 400000 in
theorem encode_no (r : Int) (w : World) (h : ¬ isPt r) :
    Calls Tryd.prog 98 #[.int .i64 r] w fun e w' => e = .returned (.tuple #[.string ⟨#[]⟩, .bool false]) ∧ w = w' := by
  go_enter Tryd.func98, Tryd.ntmps98
  go_wp2_with (go_at_call 112; refine (isPoint_no _ _ h).mono ?_; rintro e w' ⟨rfl, rfl⟩)
  go_ret2
  exact ⟨rfl, rfl⟩

set_option maxHeartbeats 400000 in
theorem join_yes (a b : Int) (w : World) (h1 : 55296 ≤ a) (h2 : a < 56320) (h3 : 56320 ≤ b) (h4 : b ≤ 57343) :
    Calls Tryd.prog 99 #[.int .i64 a, .int .i64 b] w fun e w' => e = .returned (.tuple #[.int .i64 (65536 + (a - 55296) * 1024 + (b - 56320)), .bool true]) ∧ w = w' := by
  go_enter Tryd.func99, Tryd.ntmps99
  go_wp2
  go_ret2
  exact ⟨rfl, rfl⟩

set_option maxHeartbeats 400000 in
theorem join_no (a b : Int) (w : World) (h : a < 55296 ∨ 56320 ≤ a ∨ b < 56320 ∨ 57343 < b) :
    Calls Tryd.prog 99 #[.int .i64 a, .int .i64 b] w fun e w' => e = .returned (.tuple #[.int .i64 0, .bool false]) ∧ w = w' := by
  by_cases h1 : a < 55296
  · clear h
    go_enter Tryd.func99, Tryd.ntmps99
    go_wp2
    go_ret2
    exact ⟨rfl, rfl⟩
  · by_cases h2 : 56320 ≤ a
    · clear h
      go_enter Tryd.func99, Tryd.ntmps99
      go_wp2
      go_ret2
      exact ⟨rfl, rfl⟩
    · by_cases h3 : b < 56320
      · clear h
        go_enter Tryd.func99, Tryd.ntmps99
        go_wp2
        go_ret2
        exact ⟨rfl, rfl⟩
      · have h4 : 57343 < b := by omega
        clear h
        go_enter Tryd.func99, Tryd.ntmps99
        go_wp2
        go_ret2
        exact ⟨rfl, rfl⟩































theorem cv (w : World) (xs : List Int) (n : Nat) (hn : xs.length = n) :
    Sem.run Tryd.prog (convert 61 9 (.slice (some ⟨w.heap.size + 1, 0, none⟩) n n)) ((w.alloc (.cells #[] 5)).alloc (.cells (xs.map (Value.int .u8)).toArray 5)) =
      .ok (.string (strOfNums xs)) ((w.alloc (.cells #[] 5)).alloc (.cells (xs.map (Value.int .u8)).toArray 5)) :=
  run_convert_bytes_arg (P := Tryd.prog) _ 61 5 Tryd.underlying61 Tryd.underlying5 (w.heap.size + 1) 0 n n xs hn (fun i hi => by
    have hb := cell_of_row ((w.alloc (.cells #[] 5)).alloc (.cells (xs.map (Value.int .u8)).toArray 5)) (w.heap.size + 1) (0 + i) (xs.map (Value.int .u8)).toArray 5 (0, 0)
      (by have := heap_alloc_new (w.alloc (.cells #[] 5)) (.cells (xs.map (Value.int .u8)).toArray 5); simpa using this)
    rw [hb]
    have : i < xs.length := by omega
    simp [List.getD, this]) 9 Tryd.underlying9

theorem cv1 (w : World) (z : Int) :
    Sem.run Tryd.prog (convert 61 9 (.slice (some ⟨w.heap.size + 1, 0, none⟩) 1 1)) ((w.alloc (.cells #[] 5)).alloc (.cells #[.int .u8 z] 5)) =
      .ok (.string (strOfNums [z])) ((w.alloc (.cells #[] 5)).alloc (.cells #[.int .u8 z] 5)) := cv w [z] 1 rfl
theorem cv2 (w : World) (z y : Int) :
    Sem.run Tryd.prog (convert 61 9 (.slice (some ⟨w.heap.size + 1, 0, none⟩) 2 2)) ((w.alloc (.cells #[] 5)).alloc (.cells #[.int .u8 z, .int .u8 y] 5)) =
      .ok (.string (strOfNums [z, y])) ((w.alloc (.cells #[] 5)).alloc (.cells #[.int .u8 z, .int .u8 y] 5)) := cv w [z, y] 2 rfl
theorem cv3 (w : World) (z y x : Int) :
    Sem.run Tryd.prog (convert 61 9 (.slice (some ⟨w.heap.size + 1, 0, none⟩) 3 3)) ((w.alloc (.cells #[] 5)).alloc (.cells #[.int .u8 z, .int .u8 y, .int .u8 x] 5)) =
      .ok (.string (strOfNums [z, y, x])) ((w.alloc (.cells #[] 5)).alloc (.cells #[.int .u8 z, .int .u8 y, .int .u8 x] 5)) := cv w [z, y, x] 3 rfl
theorem cv4 (w : World) (z y x u : Int) :
    Sem.run Tryd.prog (convert 61 9 (.slice (some ⟨w.heap.size + 1, 0, none⟩) 4 4)) ((w.alloc (.cells #[] 5)).alloc (.cells #[.int .u8 z, .int .u8 y, .int .u8 x, .int .u8 u] 5)) =
      .ok (.string (strOfNums [z, y, x, u])) ((w.alloc (.cells #[] 5)).alloc (.cells #[.int .u8 z, .int .u8 y, .int .u8 x, .int .u8 u] 5)) := cv w [z, y, x, u] 4 rfl










































end Go.Proofs.YtlaagdpanbineaaDoor

/- The contract of the document's Decode: the first size whose bytes are a code point's. -/
namespace Go.Proofs.YtlaagdpanbineaaDoor
open Go.RowKit

theorem ret_int2 {a b c d : Int} (h : a = c) (k : b = d) : Ending.returned (.tuple #[.int .i64 a, .int .i64 b]) = .returned (.tuple #[.int .i64 c, .int .i64 d]) := by rw [h, k]

def DecPost (s : ByteArray) (a : Nat) (e : Ending) : Prop := ∃ r : Nat × Nat, RefIs s a r ∧ e = .returned (.tuple #[.int .i64 r.1, .int .i64 r.2])

theorem DecPost.yes {s : ByteArray} {a k : Nat} (h1 : 1 ≤ k) (h4 : k ≤ 4) (hk : a + k ≤ s.size) (ho : okK s a k) :
    DecPost s a (.returned (.tuple #[.int .i64 (cand s a k), .int .i64 k])) := ⟨(cand s a k, k), .inl ⟨k, h1, h4, hk, ho, rfl⟩, rfl⟩
theorem DecPost.no {s : ByteArray} {a : Nat} (h : ∀ k, 1 ≤ k → k ≤ 4 → a + k ≤ s.size → ¬ okK s a k) :
    DecPost s a (.returned (.tuple #[.int .i64 0, .int .i64 0])) := ⟨(0, 0), .inr ⟨h, rfl⟩, rfl⟩

def NoBelow (s : ByteArray) (a k : Nat) : Prop := ∀ j, 1 ≤ j → j < k → ¬ okK s a j
theorem NoBelow.step {s : ByteArray} {a k : Nat} (h : NoBelow s a k) (hk : ¬ okK s a k) : NoBelow s a (k + 1) := fun j h1 h2 => by
  by_cases e : j = k
  · rw [e]; exact hk
  · exact h j h1 (by omega)

theorem encZ_len (r : Int) : 1 ≤ (encZ r).length := by
  unfold encZ
  repeat' split
  all_goals simp
theorem enc_ne (r : Int) : ¬ (strOfNums (encZ r)).toList = [] := by
  intro h
  have h1 := encZ_len r
  have h2 := congrArg List.length h
  rw [ByteArray.toList_eq] at h2
  simp [strOfNums] at h2
  rw [h2] at h1
  simp at h1
theorem enc_ne2 (r : Int) : (strOfNums (encZ r)).toList.isEmpty = false := by
  have := enc_ne r
  cases h : (strOfNums (encZ r)).toList with
  | nil => exact absurd h this
  | cons _ _ => rfl
theorem toList_inj {s t : ByteArray} (h : s.toList = t.toList) : s = t := by
  rw [ByteArray.toList_eq, ByteArray.toList_eq] at h
  exact ByteArray.ext (Array.toList_inj.1 h)

























































































































































































































































































/-- the document's answer is one -/
theorem ref_ex (s : ByteArray) (a : Nat) (ha : a < s.size) (r : Nat × Nat) (h : RefIs s a r) : r = codeD s a := (code_ref s a ha r h).symm





end Go.Proofs.YtlaagdpanbineaaDoor

/- The contracts of runes.digit, runes.Hex and the document's Hex: what each call returns, in any world. -/
namespace Go.Proofs.YtlaagdpanbineaaDoor
open Go.RowKit

def hexTo (s : ByteArray) (a : Nat) : Nat → Option Nat
  | 0 => some 0
  | k + 1 => match hexTo s a k, dg (byteAt s (a + k)) with
    | some v, some d => some (v * 16 + d)
    | _, _ => none

theorem hexTo_lt {s : ByteArray} {a : Nat} : ∀ {k v : Nat}, hexTo s a k = some v → v < 16 ^ k := by
  intro k
  induction k with
  | zero => intro v h; simp [hexTo] at h; omega
  | succ k ih =>
    intro v h
    rw [hexTo] at h
    cases hv : hexTo s a k with
    | none => rw [hv] at h; simp at h
    | some u =>
      cases hd : dg (byteAt s (a + k)) with
      | none => rw [hv, hd] at h; simp at h
      | some d =>
        rw [hv, hd] at h
        simp at h
        have h1 := ih hv
        have h2 := dg_lt hd
        rw [Nat.pow_succ]
        generalize 16 ^ k = b at *
        omega

theorem hexTo_none {s : ByteArray} {a k : Nat} (h : hexTo s a k = none) : ∀ j, hexTo s a (k + j) = none := by
  intro j
  induction j with
  | zero => exact h
  | succ j ih => rw [← Nat.add_assoc, hexTo, ih]

theorem hexTo_bad {s : ByteArray} {a k : Nat} (hk : k < 4) (h : dg (byteAt s (a + k)) = none) : hexTo s a 4 = none := by
  have h1 : hexTo s a (k + 1) = none := by rw [hexTo, h]; cases hexTo s a k <;> rfl
  have := hexTo_none h1 (4 - (k + 1))
  rwa [show k + 1 + (4 - (k + 1)) = 4 by omega] at this

theorem hexTo_step {s : ByteArray} {a k v d : Nat} (hv : hexTo s a k = some v) (h : dg (byteAt s (a + k)) = some d) : hexTo s a (k + 1) = some (v * 16 + d) := by
  rw [hexTo, hv, h]

theorem dg_none {c : Nat} (h : dg c = none) : (c < 48 ∨ 57 < c) ∧ (c < 97 ∨ 102 < c) ∧ (c < 65 ∨ 70 < c) := by
  unfold dg at h
  by_cases h1 : 48 ≤ c ∧ c ≤ 57
  · rw [if_pos h1] at h; simp at h
  · rw [if_neg h1] at h
    by_cases h3 : 97 ≤ c ∧ c ≤ 102
    · rw [if_pos h3] at h; simp at h
    · rw [if_neg h3] at h
      by_cases h5 : 65 ≤ c ∧ c ≤ 70
      · rw [if_pos h5] at h; simp at h
      · omega

theorem dg_cases {c d : Nat} (h : dg c = some d) : (48 ≤ c ∧ c ≤ 57 ∧ c = d + 48) ∨ (97 ≤ c ∧ c ≤ 102 ∧ c = d + 87) ∨ (65 ≤ c ∧ c ≤ 70 ∧ c = d + 55) := by
  unfold dg at h
  split at h
  · simp at h; omega
  · split at h
    · simp at h; omega
    · split at h
      · simp at h; omega
      · simp at h

set_option maxHeartbeats 400000 in
theorem digit_yes (c d : Nat) (w : World) (h : dg c = some d) (hc : c < 256) :
    Calls Tryd.prog 115 #[.int .u8 c] w fun e w' => e = .returned (.tuple #[.int .i64 d, .bool true]) ∧ w = w' := by
  rcases dg_cases h with ⟨h1, h2, h3⟩ | ⟨h1, h2, h3⟩ | ⟨h1, h2, h3⟩
  · obtain ⟨m, rfl⟩ : ∃ m, c = 48 + m := ⟨c - 48, by omega⟩
    obtain rfl : d = m := by omega
    clear h h3
    go_enter Tryd.func115, Tryd.ntmps115
    go_wp2
    go_ret2
    exact ⟨by simp; try omega, rfl⟩
  · obtain ⟨m, rfl⟩ : ∃ m, c = 97 + m := ⟨c - 97, by omega⟩
    obtain rfl : d = m + 10 := by omega
    clear h h3
    go_enter Tryd.func115, Tryd.ntmps115
    go_wp2
    go_ret2
    exact ⟨by simp; try omega, rfl⟩
  · obtain ⟨m, rfl⟩ : ∃ m, c = 65 + m := ⟨c - 65, by omega⟩
    obtain rfl : d = m + 10 := by omega
    clear h h3
    go_enter Tryd.func115, Tryd.ntmps115
    go_wp2
    go_ret2
    exact ⟨by simp; try omega, rfl⟩

set_option maxHeartbeats 400000 in
theorem digit_no (c : Nat) (w : World) (h : dg c = none) :
    Calls Tryd.prog 115 #[.int .u8 c] w fun e w' => e = .returned (.tuple #[.int .i64 0, .bool false]) ∧ w = w' := by
  obtain ⟨h1, h2, h3⟩ := dg_none h
  clear h
  rcases h1 with h1 | h1 <;> rcases h2 with h2 | h2 <;> rcases h3 with h3 | h3
  all_goals first
    | (exfalso; omega)
    | (go_enter Tryd.func115, Tryd.ntmps115
       go_wp2
       go_ret2
       exact ⟨by first | rfl | simp, rfl⟩)

def HexPost (s : ByteArray) (a : Nat) (e : Ending) : Prop := match hexTo s a 4 with
  | some v => e = .returned (.tuple #[.int .i64 v, .bool true])
  | none => e = .returned (.tuple #[.int .i64 0, .bool false])
theorem HexPost.yes {s : ByteArray} {a v : Nat} (h : hexTo s a 4 = some v) : HexPost s a (.returned (.tuple #[.int .i64 v, .bool true])) := by
  unfold HexPost; rw [h]
theorem HexPost.no {s : ByteArray} {a : Nat} (h : hexTo s a 4 = none) : HexPost s a (.returned (.tuple #[.int .i64 0, .bool false])) := by
  unfold HexPost; rw [h]

set_option maxHeartbeats 400000 in
theorem hex_in (s : ByteArray) (a : Nat) (w : World) (hs : s.size ≤ maxLen) (ha : a + 4 ≤ s.size) :
    Calls Tryd.prog 111 #[.string s, .int .i64 a] w fun e w' => HexPost s a e ∧ w = w' := by
  unfold maxLen at hs
  go_enter Tryd.func111, Tryd.ntmps111
  go_wp2
  go_loop [6, 7, 8, 9, 19] (fun n _ _ _ i => ∃ k v : Nat, k ≤ 4 ∧ i = .int .i64 k ∧ n = .int .i64 v ∧ v < 16 ^ k ∧ Hid (hexTo s a k = some v)) (fun _ _ _ _ i => 4 - (intOf i).toNat)
  case atStart => exact ⟨0, 0, by omega, rfl, rfl, by omega, rfl⟩
  case round =>
    obtain ⟨k, v, hk, rfl, rfl, hv, HV⟩ := hrel
    by_cases hlt : k < 4
    · have hvb : v < 65536 := by
        have : 16 ^ k ≤ 16 ^ 3 := Nat.pow_le_pow_right (by omega) (by omega)
        omega
      clear hv
      have hb := byteAt_lt s (a + k)
      have hby : (s[a + k]'(by omega)).toNat = byteAt s (a + k) := byteAt_in (by omega)
      cases hd : dg (byteAt s (a + k)) with
      | none =>
        have HN : Hid (hexTo s a 4 = none) := hexTo_bad hlt hd
        have hD := fun w => digit_no _ w hd
        rw [← hby] at hD
        clear hd hby HV
        go_wp2_with fail
        refine (hD _).mono ?_
        rintro e w' ⟨rfl, rfl⟩
        clear hD
        go_wp2
        go_ret2
        exact ⟨HexPost.no HN, rfl⟩
      | some d =>
        have HN : Hid (hexTo s a (k + 1) = some (v * 16 + d)) := hexTo_step HV hd
        have hdl := dg_lt hd
        have hD := fun w => digit_yes _ _ w hd hb
        rw [← hby] at hD
        clear hd hby HV
        go_wp2_with fail
        refine (hD _).mono ?_
        rintro e w' ⟨rfl, rfl⟩
        clear hD
        go_wp2
        go_round
        case rel => exact ⟨k + 1, v * 16 + d, by omega, by go_num, by go_num, hexTo_lt HN, HN⟩
        case measure => simp [intOf]; omega
    · obtain rfl : k = 4 := by omega
      go_wp2
      go_ret2
      exact ⟨HexPost.yes HV, rfl⟩

set_option maxHeartbeats 400000 in
theorem hex_out (s : ByteArray) (a : Int) (w : World) (hs : s.size ≤ maxLen) (ha : a < 0 ∨ s.size - 4 < a) :
    Calls Tryd.prog 111 #[.string s, .int .i64 a] w fun e w' => e = .returned (.tuple #[.int .i64 0, .bool false]) ∧ w = w' := by
  unfold maxLen at hs
  by_cases h : a < 0
  · clear ha
    go_enter Tryd.func111, Tryd.ntmps111
    go_wp2
    go_ret2
    exact ⟨rfl, rfl⟩
  · have h2 : (s.size : Int) - 4 < a := by omega
    clear ha
    go_enter Tryd.func111, Tryd.ntmps111
    go_wp2
    go_ret2
    exact ⟨rfl, rfl⟩

def RefHexPost (s : ByteArray) (a : Nat) (e : Ending) : Prop := match hexTo s a 4 with
  | some v => e = .returned (.int .i64 v)
  | none => e = .returned (.int .i64 (-1))
theorem RefHexPost.yes {s : ByteArray} {a v : Nat} (h : hexTo s a 4 = some v) : RefHexPost s a (.returned (.int .i64 v)) := by
  unfold RefHexPost; rw [h]
theorem RefHexPost.no {s : ByteArray} {a : Nat} (h : hexTo s a 4 = none) : RefHexPost s a (.returned (.int .i64 (-1))) := by
  unfold RefHexPost; rw [h]










































































theorem hex_yes (s : ByteArray) (a v : Nat) (w : World) (hs : s.size ≤ maxLen) (ha : a + 4 ≤ s.size) (h : hexTo s a 4 = some v) :
    Calls Tryd.prog 111 #[.string s, .int .i64 a] w fun e w' => e = .returned (.tuple #[.int .i64 v, .bool true]) ∧ w = w' :=
  (hex_in s a w hs ha).mono fun e w' ⟨he, hw⟩ => by unfold HexPost at he; rw [h] at he; exact ⟨he, hw⟩
theorem hex_no (s : ByteArray) (a : Nat) (w : World) (hs : s.size ≤ maxLen) (ha : a + 4 ≤ s.size) (h : hexTo s a 4 = none) :
    Calls Tryd.prog 111 #[.string s, .int .i64 a] w fun e w' => e = .returned (.tuple #[.int .i64 0, .bool false]) ∧ w = w' :=
  (hex_in s a w hs ha).mono fun e w' ⟨he, hw⟩ => by unfold HexPost at he; rw [h] at he; exact ⟨he, hw⟩







end Go.Proofs.YtlaagdpanbineaaDoor

