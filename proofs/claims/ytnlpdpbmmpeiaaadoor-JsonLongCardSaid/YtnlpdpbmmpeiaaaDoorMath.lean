/- UTF-8 as the document defines it, held against the model's decode: plain mathematics on bytes; no program is named. -/
import Derived.Laws.BytesArg
import Derived.Lib.DecodeN
namespace Go.Proofs.YtnlpdpbmmpeiaaaDoor

def isPt (r : Int) : Prop := (0 ≤ r ∧ r < 55296) ∨ (57343 < r ∧ r ≤ 1114111)

/-- a code point's bytes, as numbers -/
def encZ (r : Int) : List Int :=
  if r < 128 then [r] else if r < 2048 then [192 + r / 64, 128 + r % 64] else if r < 65536 then [224 + r / 4096, 128 + r / 64 % 64, 128 + r % 64]
  else [240 + r / 262144, 128 + r / 4096 % 64, 128 + r / 64 % 64, 128 + r % 64]

theorem enc_eq (r : Int) (h : isPt r) : Utf8.encode r = strOfNums (encZ r) := by
  have hv : Utf8.valid r = true := by unfold isPt at h; simp [Utf8.valid]; omega
  obtain ⟨n, rfl⟩ := Int.eq_ofNat_of_zero_le (show 0 ≤ r by unfold isPt at h; omega)
  unfold Utf8.encode encZ strOfNums
  simp only [hv, if_true, Int.toNat_natCast]
  by_cases h1 : n < 128
  · have c1 : (n : Int) < 128 := by omega
    rw [if_pos h1, if_pos c1]; simp
  · have c1 : ¬ (n : Int) < 128 := by omega
    rw [if_neg h1, if_neg c1]
    by_cases h2 : n < 2048
    · have c2 : (n : Int) < 2048 := by omega
      rw [if_pos h2, if_pos c2]
      simp only [List.map_cons, List.map_nil]
      rw [show (192 + (n : Int) / 64).toNat = 192 + n / 64 by omega, show (128 + (n : Int) % 64).toNat = 128 + n % 64 by omega]
    · have c2 : ¬ (n : Int) < 2048 := by omega
      rw [if_neg h2, if_neg c2]
      by_cases h3 : n < 65536
      · have c3 : (n : Int) < 65536 := by omega
        rw [if_pos h3, if_pos c3]
        simp only [List.map_cons, List.map_nil]
        rw [show (224 + (n : Int) / 4096).toNat = 224 + n / 4096 by omega, show (128 + (n : Int) / 64 % 64).toNat = 128 + n / 64 % 64 by omega, show (128 + (n : Int) % 64).toNat = 128 + n % 64 by omega]
      · have c3 : ¬ (n : Int) < 65536 := by omega
        rw [if_neg h3, if_neg c3]
        simp only [List.map_cons, List.map_nil]
        rw [show (240 + (n : Int) / 262144).toNat = 240 + n / 262144 by omega, show (128 + (n : Int) / 4096 % 64).toNat = 128 + n / 4096 % 64 by omega, show (128 + (n : Int) / 64 % 64).toNat = 128 + n / 64 % 64 by omega, show (128 + (n : Int) % 64).toNat = 128 + n % 64 by omega]


/-- the byte at a place; 0 outside of the text -/
def byteAt (s : ByteArray) (i : Nat) : Nat := if h : i < s.size then s[i].toNat else 0
theorem byteAt_in {s : ByteArray} {i : Nat} (h : i < s.size) : s[i].toNat = byteAt s i := by unfold byteAt; rw [dif_pos h]
theorem byteAt_lt (s : ByteArray) (i : Nat) : byteAt s i < 256 := by
  unfold byteAt; split
  · exact UInt8.toNat_lt _
  · omega
theorem byteAt_get (s : ByteArray) (i : Nat) : (s.get! i).toNat = byteAt s i := by
  unfold byteAt
  by_cases h : i < s.size
  · rw [dif_pos h]
    show (s.data[i]!).toNat = _
    rw [getElem!_pos s.data i h]; rfl
  · rw [dif_neg h]
    show (s.data[i]!).toNat = _
    rw [getElem!_neg s.data i h]; rfl

def listS (s : ByteArray) (a k : Nat) : List Int := (List.range k).map fun i => (byteAt s (a + i) : Int)

theorem extract_listS (s : ByteArray) (a k : Nat) (h : a + k ≤ s.size) : s.extract a (a + k) = strOfNums (listS s a k) := by
  apply ByteArray.ext
  apply Array.ext
  · simp [strOfNums, listS, ByteArray.data_extract]
    have : s.data.size = s.size := rfl
    omega
  · intro i h1 h2
    have hi : i < k := by simpa [strOfNums, listS] using h2
    have hs : a + i < s.size := by omega
    simp only [strOfNums, listS, ByteArray.data_extract, Array.getElem_extract, List.getElem_toArray, List.getElem_map, List.getElem_range, Int.toNat_natCast]
    unfold byteAt
    rw [dif_pos hs]
    simp
    rfl

theorem strOfNums_inj : ∀ {xs ys : List Int}, (∀ x ∈ xs, 0 ≤ x ∧ x < 256) → (∀ y ∈ ys, 0 ≤ y ∧ y < 256) → strOfNums xs = strOfNums ys → xs = ys := by
  intro xs ys hx hy h
  have h' : xs.map (fun n => UInt8.ofNat n.toNat) = ys.map (fun n => UInt8.ofNat n.toNat) := by
    have := congrArg (fun b : ByteArray => b.data.toList) h
    simpa [strOfNums] using this
  clear h
  induction xs generalizing ys with
  | nil => cases ys with
    | nil => rfl
    | cons y ys => simp at h'
  | cons x xs ih => cases ys with
    | nil => simp at h'
    | cons y ys =>
      simp only [List.map_cons, List.cons.injEq] at h'
      have e1 := congrArg UInt8.toNat h'.1
      have bx := hx x (by simp)
      have by' := hy y (by simp)
      simp at e1
      have : x = y := by omega
      rw [this, ih (fun z hz => hx z (by simp [hz])) (fun z hz => hy z (by simp [hz])) h'.2]

theorem listS_bd (s : ByteArray) (a k : Nat) : ∀ y ∈ listS s a k, 0 ≤ y ∧ y < 256 := by
  intro y hy
  simp [listS] at hy
  obtain ⟨i, _, rfl⟩ := hy
  have := byteAt_lt s (a + i)
  omega
theorem encZ_bd (r : Int) (h : isPt r) : ∀ y ∈ encZ r, 0 ≤ y ∧ y < 256 := by
  have hb : 0 ≤ r ∧ r ≤ 1114111 := by unfold isPt at h; omega
  intro y hy
  unfold encZ at hy
  repeat' split at hy
  all_goals
    simp at hy
    omega

theorem enc_is (s : ByteArray) (a k : Nat) (r : Int) (hr : isPt r) (h : a + k ≤ s.size) : strOfNums (encZ r) = s.extract a (a + k) ↔ encZ r = listS s a k := by
  rw [extract_listS s a k h]
  constructor
  · exact strOfNums_inj (encZ_bd r hr) (listS_bd s a k)
  · intro e; rw [e]

/-- what the bytes from a place on would be, if they were i of one whose first one holds x -/
def foldB (s : ByteArray) (a x : Nat) : Nat → Nat
  | 0 => x
  | 1 => x
  | i + 2 => foldB s a x (i + 1) * 64 + byteAt s (a + (i + 1)) % 64

theorem foldB_lt (s : ByteArray) (a x : Nat) (hx : x < 256) : ∀ i, foldB s a x (i + 1) < 256 * 64 ^ i := by
  intro i
  induction i with
  | zero => simpa [foldB] using hx
  | succ i ih =>
    rw [foldB, Nat.pow_succ]
    generalize 64 ^ i = p at *
    omega
theorem foldB_le (s : ByteArray) (a x i : Nat) (hx : x < 256) (h1 : 1 ≤ i) (h4 : i ≤ 4) : foldB s a x i < 67108864 := by
  obtain ⟨j, rfl⟩ : ∃ j, i = j + 1 := ⟨i - 1, by omega⟩
  have := foldB_lt s a x hx j
  have h3 : 64 ^ j ≤ 64 ^ 3 := Nat.pow_le_pow_right (by omega) (by omega)
  omega

/-- what the bytes from a place on would be, if they were k of one -/
def cand (s : ByteArray) (a : Nat) (k : Nat) : Nat :=
  foldB s a (if k = 1 then byteAt s a else if k = 2 then byteAt s a % 32 else if k = 3 then byteAt s a % 16 else byteAt s a % 8) k

/-- they are k of one -/
def okK (s : ByteArray) (a k : Nat) : Prop := isPt (cand s a k) ∧ encZ (cand s a k) = listS s a k

def lead (b0 k : Nat) : Nat := if k = 1 then b0 else if k = 2 then b0 % 32 else if k = 3 then b0 % 16 else b0 % 8

theorem ok1 (s : ByteArray) (a : Nat) : okK s a 1 ↔ byteAt s a < 128 := by
  have hb := byteAt_lt s a
  have hc : cand s a 1 = byteAt s a := rfl
  have hl : listS s a 1 = [(byteAt s a : Int)] := rfl
  unfold okK
  rw [hc, hl]
  generalize byteAt s a = b at *
  unfold encZ isPt
  by_cases h : (b : Int) < 128
  · rw [if_pos h]; simp; omega
  · rw [if_neg h, if_pos (by omega)]
    simp; omega

theorem ok2 (s : ByteArray) (a : Nat) : okK s a 2 ↔ byteAt s a / 32 = 6 ∧ byteAt s (a + 1) / 64 = 2 ∧ byteAt s a % 32 * 64 + byteAt s (a + 1) % 64 ≥ 128 := by
  have hb := byteAt_lt s a
  have hb1 := byteAt_lt s (a + 1)
  have hc : cand s a 2 = byteAt s a % 32 * 64 + byteAt s (a + 1) % 64 := rfl
  have hl : listS s a 2 = [(byteAt s a : Int), (byteAt s (a + 1) : Int)] := rfl
  unfold okK
  rw [hc, hl]
  generalize byteAt s a = b at *
  generalize byteAt s (a + 1) = b1 at *
  unfold encZ isPt
  by_cases h : ((b % 32 * 64 + b1 % 64 : Nat) : Int) < 128
  · rw [if_pos h]; simp; omega
  · rw [if_neg h, if_pos (by omega)]
    simp only [List.cons.injEq, and_true]
    omega

theorem ok3 (s : ByteArray) (a : Nat) : okK s a 3 ↔ byteAt s a / 16 = 14 ∧ byteAt s (a + 1) / 64 = 2 ∧ byteAt s (a + 2) / 64 = 2 ∧
    byteAt s a % 16 * 4096 + byteAt s (a + 1) % 64 * 64 + byteAt s (a + 2) % 64 ≥ 2048 ∧ isPt ((byteAt s a % 16 * 4096 + byteAt s (a + 1) % 64 * 64 + byteAt s (a + 2) % 64 : Nat) : Int) := by
  have hb := byteAt_lt s a
  have hb1 := byteAt_lt s (a + 1)
  have hb2 := byteAt_lt s (a + 2)
  have hc : cand s a 3 = byteAt s a % 16 * 4096 + byteAt s (a + 1) % 64 * 64 + byteAt s (a + 2) % 64 := by
    show (byteAt s a % 16 * 64 + byteAt s (a + 1) % 64) * 64 + byteAt s (a + 2) % 64 = _
    omega
  have hl : listS s a 3 = [(byteAt s a : Int), (byteAt s (a + 1) : Int), (byteAt s (a + 2) : Int)] := rfl
  unfold okK
  rw [hc, hl]
  generalize byteAt s a = b at *
  generalize byteAt s (a + 1) = b1 at *
  generalize byteAt s (a + 2) = b2 at *
  obtain ⟨m, hm⟩ : ∃ m, b % 16 * 4096 + b1 % 64 * 64 + b2 % 64 = m := ⟨_, rfl⟩
  rw [hm]
  unfold encZ
  by_cases h : (m : Int) < 128
  · rw [if_pos h]; simp; omega
  · rw [if_neg h]
    by_cases h2 : (m : Int) < 2048
    · rw [if_pos h2]; simp; omega
    · rw [if_neg h2, if_pos (by omega)]
      simp only [List.cons.injEq, and_true]
      constructor
      · rintro ⟨p, q⟩; refine ⟨by omega, by omega, by omega, by omega, p⟩
      · rintro ⟨q1, q2, q3, q4, p⟩; refine ⟨p, by omega, by omega, by omega⟩

theorem ok4 (s : ByteArray) (a : Nat) : okK s a 4 ↔ byteAt s a / 8 = 30 ∧ byteAt s (a + 1) / 64 = 2 ∧ byteAt s (a + 2) / 64 = 2 ∧ byteAt s (a + 3) / 64 = 2 ∧
    byteAt s a % 8 * 262144 + byteAt s (a + 1) % 64 * 4096 + byteAt s (a + 2) % 64 * 64 + byteAt s (a + 3) % 64 ≥ 65536 ∧
    isPt ((byteAt s a % 8 * 262144 + byteAt s (a + 1) % 64 * 4096 + byteAt s (a + 2) % 64 * 64 + byteAt s (a + 3) % 64 : Nat) : Int) := by
  have hb := byteAt_lt s a
  have hb1 := byteAt_lt s (a + 1)
  have hb2 := byteAt_lt s (a + 2)
  have hb3 := byteAt_lt s (a + 3)
  have hc : cand s a 4 = byteAt s a % 8 * 262144 + byteAt s (a + 1) % 64 * 4096 + byteAt s (a + 2) % 64 * 64 + byteAt s (a + 3) % 64 := by
    show ((byteAt s a % 8 * 64 + byteAt s (a + 1) % 64) * 64 + byteAt s (a + 2) % 64) * 64 + byteAt s (a + 3) % 64 = _
    omega
  have hl : listS s a 4 = [(byteAt s a : Int), (byteAt s (a + 1) : Int), (byteAt s (a + 2) : Int), (byteAt s (a + 3) : Int)] := rfl
  unfold okK
  rw [hc, hl]
  generalize byteAt s a = b at *
  generalize byteAt s (a + 1) = b1 at *
  generalize byteAt s (a + 2) = b2 at *
  generalize byteAt s (a + 3) = b3 at *
  obtain ⟨m, hm⟩ : ∃ m, b % 8 * 262144 + b1 % 64 * 4096 + b2 % 64 * 64 + b3 % 64 = m := ⟨_, rfl⟩
  rw [hm]
  unfold encZ
  by_cases h : (m : Int) < 128
  · rw [if_pos h]; simp; omega
  · rw [if_neg h]
    by_cases h2 : (m : Int) < 2048
    · rw [if_pos h2]; simp; omega
    · rw [if_neg h2]
      by_cases h3 : (m : Int) < 65536
      · rw [if_pos h3]; simp; omega
      · rw [if_neg h3]
        simp only [List.cons.injEq, and_true]
        constructor
        · rintro ⟨p, q⟩; refine ⟨by omega, by omega, by omega, by omega, by omega, p⟩
        · rintro ⟨q1, q2, q3, q4, q5, p⟩; refine ⟨p, by omega, by omega, by omega, by omega⟩

/-- the document's answer: the first size that fits -/
def RefIs (s : ByteArray) (a : Nat) (r : Nat × Nat) : Prop :=
  (∃ k, 1 ≤ k ∧ k ≤ 4 ∧ a + k ≤ s.size ∧ okK s a k ∧ r = (cand s a k, k)) ∨ ((∀ k, 1 ≤ k → k ≤ 4 → a + k ≤ s.size → ¬ okK s a k) ∧ r = (0, 0))

/-- the program's answer, out of the library's decode -/
def codeD (s : ByteArray) (a : Nat) : Nat × Nat := if (Utf8.decode s a).1 = 65533 ∧ (Utf8.decode s a).2 = 1 then (0, 0) else Utf8.decode s a

set_option maxHeartbeats 1000000 in
theorem code_ref (s : ByteArray) (a : Nat) (ha : a < s.size) (r : Nat × Nat) (h : RefIs s a r) : codeD s a = r := by
  have e : Utf8.decode s a = Lib.decodeN (s.size - a) (byteAt s a) (byteAt s (a + 1)) (byteAt s (a + 2)) (byteAt s (a + 3)) := by
    rw [Lib.decode_at]; simp only [byteAt_get]
  unfold codeD
  rw [e]
  have hb := byteAt_lt s a
  have hb1 := byteAt_lt s (a + 1)
  have hb2 := byteAt_lt s (a + 2)
  have hb3 := byteAt_lt s (a + 3)
  have c2 : cand s a 2 = byteAt s a % 32 * 64 + byteAt s (a + 1) % 64 := rfl
  have c3 : cand s a 3 = byteAt s a % 16 * 4096 + byteAt s (a + 1) % 64 * 64 + byteAt s (a + 2) % 64 := by
    show (byteAt s a % 16 * 64 + byteAt s (a + 1) % 64) * 64 + byteAt s (a + 2) % 64 = _
    omega
  have c4 : cand s a 4 = byteAt s a % 8 * 262144 + byteAt s (a + 1) % 64 * 4096 + byteAt s (a + 2) % 64 * 64 + byteAt s (a + 3) % 64 := by
    show ((byteAt s a % 8 * 64 + byteAt s (a + 1) % 64) * 64 + byteAt s (a + 2) % 64) * 64 + byteAt s (a + 3) % 64 = _
    omega
  have c1 : cand s a 1 = byteAt s a := rfl
  have o1 := ok1 s a
  have o2 := ok2 s a
  have o3 := ok3 s a
  have o4 := ok4 s a
  unfold isPt at o3 o4
  rcases h with ⟨k, h1, h4, hk, ho, rfl⟩ | ⟨hn, rfl⟩
  · have hfin : Lib.decodeN (s.size - a) (byteAt s a) (byteAt s (a + 1)) (byteAt s (a + 2)) (byteAt s (a + 3)) = (cand s a k, k) ∧ (k = 1 → cand s a k < 128) := by
      clear e
      obtain rfl | rfl | rfl | rfl : k = 1 ∨ k = 2 ∨ k = 3 ∨ k = 4 := by omega
      · rw [c1]; rw [o1] at ho
        unfold Lib.decodeN
        rw [if_pos ho]
        exact ⟨rfl, fun _ => ho⟩
      · rw [c2]; rw [o2] at ho
        obtain ⟨p1, p2, p3⟩ := ho
        unfold Lib.decodeN
        rw [if_neg (show ¬ byteAt s a < 128 by omega), if_pos (show byteAt s a / 32 = 6 ∧ 1 < s.size - a ∧ byteAt s (a + 1) / 64 = 2 from ⟨p1, by omega, p2⟩), if_pos p3]
        exact ⟨rfl, fun h => by omega⟩
      · rw [c3]; rw [o3] at ho
        obtain ⟨p1, p2, p3, p4, p5⟩ := ho
        unfold Lib.decodeN
        rw [if_neg (show ¬ byteAt s a < 128 by omega), if_neg (show ¬ (byteAt s a / 32 = 6 ∧ 1 < s.size - a ∧ byteAt s (a + 1) / 64 = 2) by omega),
          if_pos (show byteAt s a / 16 = 14 ∧ (1 < s.size - a ∧ byteAt s (a + 1) / 64 = 2) ∧ (2 < s.size - a ∧ byteAt s (a + 2) / 64 = 2) by omega), if_pos (by omega)]
        exact ⟨rfl, fun h => by omega⟩
      · rw [c4]; rw [o4] at ho
        obtain ⟨p1, p2, p3, p3', p4, p5⟩ := ho
        unfold Lib.decodeN
        rw [if_neg (show ¬ byteAt s a < 128 by omega), if_neg (show ¬ (byteAt s a / 32 = 6 ∧ 1 < s.size - a ∧ byteAt s (a + 1) / 64 = 2) by omega),
          if_neg (show ¬ (byteAt s a / 16 = 14 ∧ (1 < s.size - a ∧ byteAt s (a + 1) / 64 = 2) ∧ (2 < s.size - a ∧ byteAt s (a + 2) / 64 = 2)) by omega),
          if_pos (show byteAt s a / 8 = 30 ∧ (1 < s.size - a ∧ byteAt s (a + 1) / 64 = 2) ∧ (2 < s.size - a ∧ byteAt s (a + 2) / 64 = 2) ∧ (3 < s.size - a ∧ byteAt s (a + 3) / 64 = 2) by omega), if_pos (by omega)]
        exact ⟨rfl, fun h => by omega⟩
    rw [hfin.1]
    have h5 := hfin.2
    rw [if_neg (by simp only; omega)]
  · have n1 := hn 1 (by omega) (by omega) (by omega)
    have n2 := fun h => hn 2 (by omega) (by omega) h
    have n3 := fun h => hn 3 (by omega) (by omega) h
    have n4 := fun h => hn 4 (by omega) (by omega) h
    rw [o1] at n1
    rw [o2] at n2
    rw [o3] at n3
    rw [o4] at n4
    clear hn o1 o2 o3 o4 c1 c2 c3 c4 e
    have hfin : Lib.decodeN (s.size - a) (byteAt s a) (byteAt s (a + 1)) (byteAt s (a + 2)) (byteAt s (a + 3)) = (65533, 1) := by
      generalize byteAt s a = b at *
      generalize byteAt s (a + 1) = b1 at *
      generalize byteAt s (a + 2) = b2 at *
      generalize byteAt s (a + 3) = b3 at *
      unfold Lib.decodeN
      rw [if_neg n1]
      by_cases q2 : b / 32 = 6 ∧ 1 < s.size - a ∧ b1 / 64 = 2
      · rw [if_pos q2]
        have := n2 (by omega)
        rw [if_neg (by omega)]
      · rw [if_neg q2]
        by_cases q3 : b / 16 = 14 ∧ (1 < s.size - a ∧ b1 / 64 = 2) ∧ (2 < s.size - a ∧ b2 / 64 = 2)
        · rw [if_pos q3]
          have := n3 (by omega)
          rw [if_neg (by omega)]
        · rw [if_neg q3]
          by_cases q4 : b / 8 = 30 ∧ (1 < s.size - a ∧ b1 / 64 = 2) ∧ (2 < s.size - a ∧ b2 / 64 = 2) ∧ (3 < s.size - a ∧ b3 / 64 = 2)
          · rw [if_pos q4]
            have := n4 (by omega)
            rw [if_neg (by omega)]
          · rw [if_neg q4]
    rw [hfin]
    simp

end Go.Proofs.YtnlpdpbmmpeiaaaDoor
