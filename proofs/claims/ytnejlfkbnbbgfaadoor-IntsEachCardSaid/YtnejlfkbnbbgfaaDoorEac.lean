/- A text of digits, maybe behind "-": what it is read as (no program). -/
import Derived.Test.YtnejlfkbnbbgfaaDoorTxm
import Derived.Test.YtnejlfkbnbbgfaaDoorSml
namespace Go.Proofs.YtnejlfkbnbbgfaaDoor
open Go.Lib

/-- the decimal digit that the statement makes of a number -/
def dgt (z : Int) : Int := z % 18446744073709551616 % 10
theorem dgt_bd (z : Int) : 0 ≤ dgt z ∧ dgt z ≤ 9 := by unfold dgt; omega
/-- .. and its byte -/
def dgb (z : Int) : UInt8 := UInt8.ofNat (48 + dgt z).toNat
theorem dgb_nat (z : Int) : ((dgb z).toNat : Int) = 48 + dgt z := by
  have := dgt_bd z
  unfold dgb
  rw [UInt8.toNat_ofNat']; omega
theorem dgb_dg (l : List Int) : allDg (l.map dgb) := by
  intro c hc
  obtain ⟨z, _, rfl⟩ := List.mem_map.1 hc
  have h1 := dgb_nat z
  have h2 := dgt_bd z
  omega
theorem dgb_snoc {l : List Int} {k : Nat} (h : k < l.length) : ((valFrom 0 ((l.take (k + 1)).map dgb) : Nat) : Int) = 10 * (valFrom 0 ((l.take k).map dgb) : Nat) + dgt (l.getD k 0) := by
  rw [List.take_succ_eq_append_getElem h, List.map_append, valFrom_append, List.map_cons, List.map_nil, valFrom_cons, valFrom_nil]
  have h1 := dgb_nat l[k]
  have h2 := dgt_bd l[k]
  have e : l.getD k 0 = l[k] := by simp [List.getD, h]
  rw [e]
  generalize valFrom 0 ((l.take k).map dgb) = V
  omega
theorem dgb_lt {l : List Int} (h : l.length ≤ 18) : valFrom 0 (l.map dgb) < 1000000000000000000 := by
  have h1 := val_lt (l.map dgb) 0 (dgb_dg l)
  rw [List.length_map] at h1
  have h2 : 10 ^ l.length ≤ 10 ^ 18 := Nat.pow_le_pow_right (by omega) h
  omega

/-- "-" or nothing, then the digits D -/
def Sg (L D : List UInt8) (σ : Nat) : Prop := (σ = 1 ∧ L = 45 :: D) ∨ (σ = 0 ∧ L = D)
theorem Sg.sgn {L D : List UInt8} {σ : Nat} (h : Sg L D σ) (hd : allDg D) (hn : 0 < D.length) : sgn L = σ ∧ L.drop σ = D ∧ L.length = σ + D.length := by
  rcases h with ⟨rfl, rfl⟩ | ⟨rfl, rfl⟩
  · exact ⟨by unfold Go.Proofs.YtnejlfkbnbbgfaaDoor.sgn; rw [bAt_cons]; rfl, rfl, by rw [List.length_cons]; omega⟩
  · have h0 := allDg_at hd hn
    unfold isDg at h0
    exact ⟨by unfold Go.Proofs.YtnejlfkbnbbgfaaDoor.sgn; rw [if_neg (by omega)], List.drop_zero, by omega⟩
theorem each_front {L D : List UInt8} {σ : Nat} (h : Sg L D σ) (hd : allDg D) (hn : 0 < D.length) : front L = if bAt D 0 = 48 then σ + 1 else σ + D.length := by
  obtain ⟨h1, h2, _⟩ := h.sgn hd hn
  have e : bAt L σ = bAt D 0 := by
    have := bAt_drop L σ 0
    rw [h2, Nat.add_zero] at this
    exact this.symm
  unfold front
  rw [h1, e, h2, allDg_digs hd]
  by_cases h48 : bAt D 0 = 48
  · rw [if_pos h48, if_pos h48]
  · rw [if_neg h48, if_neg h48, if_neg (by omega)]
theorem each_bad {L D : List UInt8} {σ : Nat} (h : Sg L D σ) (hd : allDg D) (hn : 1 < D.length) (h48 : bAt D 0 = 48) : parseR L = (0, some 0) := by
  obtain ⟨_, h2, h3⟩ := h.sgn hd (by omega)
  have hf := each_front h hd (by omega)
  rw [if_pos h48] at hf
  have hdr : L.drop (σ + 1) = D.drop 1 := by rw [← h2, List.drop_drop]
  have hb : bAt (L.drop (σ + 1)) 0 = bAt D 1 := by rw [hdr, bAt_drop]
  have h0 := allDg_at hd hn
  unfold isDg at h0
  have ht : two L = σ + 1 := by
    unfold two
    rw [hf]
    unfold frac
    rw [hb, if_neg (by omega)]
  refine parseR_syn (.inr ?_)
  unfold allOf
  rw [ht]
  unfold expo
  rw [hb, if_neg (by omega)]
  omega
theorem each_good {L D : List UInt8} {σ : Nat} (h : Sg L D σ) (hd : allDg D) (hn : 0 < D.length) (h48 : D.length ≤ 1 ∨ bAt D 0 ≠ 48) (hv : valFrom 0 D < 1000000000000000000) :
    parseR L = (if σ = 1 then -(valFrom 0 D : Int) else (valFrom 0 D : Int), none) := by
  obtain ⟨_, h2, h3⟩ := h.sgn hd hn
  have hf : front L = L.length := by
    rw [each_front h hd hn, h3]
    split
    · omega
    · rfl
  have ha : allOf L = L.length := by
    have h1 := front_all L
    have h4 := allOf_le L
    omega
  have hne : D ≠ [] := List.length_pos_iff.1 hn
  have hw : wholeV L = some (if σ = 1 then -(valFrom 0 D : Int) else (valFrom 0 D : Int)) := by
    apply wholeV_of
    rcases h with ⟨rfl, rfl⟩ | ⟨rfl, rfl⟩
    · rw [atoi_neg D hd hne, if_pos (by omega), if_pos rfl]
    · rw [atoi_pos L hd hne, if_pos (by omega), if_neg (by omega)]
  rw [parseR_go (by omega) ha, takeR_ok (by omega) (by omega) (by rw [hf, List.take_length]; exact hw)]

end Go.Proofs.YtnejlfkbnbbgfaaDoor
