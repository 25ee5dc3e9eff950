/- Texts with small letters (package glob's and the document's), and a pattern without its stars, in any world. -/
import Derived.Test.YtpkhcelakfdjfaaDoorDa
namespace Go.Proofs.YtpkhcelakfdjfaaDoor
open Go.RowKit Go.Shelf

/-- the small letter -/
def lowC (c : UInt8) : UInt8 := if capB c then c + 32 else c
theorem cap_iff (c : UInt8) : capB c = true ↔ 65 ≤ c.toNat ∧ c.toNat ≤ 90 := by unfold capB; exact decide_eq_true_iff
theorem lowC_yes {c : UInt8} (h : capB c = true) : ((lowC c).toNat : Int) = (c.toNat : Int) + 32 := by
  have := (cap_iff c).1 h
  unfold lowC
  rw [if_pos h, UInt8.toNat_add, show (32 : UInt8).toNat = 32 from rfl, Nat.mod_eq_of_lt (by omega)]
  omega
theorem lowC_no {c : UInt8} (h : capB c = false) : lowC c = c := by unfold lowC; rw [h]; rfl
/-- what the first k letters are so far -/
def lowK (s : ByteArray) (k : Nat) : List UInt8 := (s.data.toList.take k).map lowC ++ s.data.toList.drop k
theorem lowK_len (s : ByteArray) (k : Nat) (h : k ≤ s.size) : (lowK s k).length = s.size := by
  unfold lowK
  rw [List.length_append, List.length_map, List.length_take, List.length_drop, size_list]; omega
theorem lowK_zero (s : ByteArray) : lowK s 0 = s.data.toList := by unfold lowK; simp
theorem lowK_end (s : ByteArray) : lowK s s.size = s.data.toList.map lowC := by
  unfold lowK
  rw [List.take_of_length_le (by rw [size_list]; exact Nat.le_refl _), List.drop_of_length_le (by rw [size_list]; exact Nat.le_refl _), List.append_nil]
theorem lowK_at (s : ByteArray) (k : Nat) (h : k < s.size) (h2 : k < (lowK s k).length) : (lowK s k)[k] = s[k] := by
  have e : ((s.data.toList.take k).map lowC).length = k := by rw [List.length_map, List.length_take, size_list]; omega
  have : (lowK s k)[k]? = some s[k] := by
    unfold lowK
    rw [List.getElem?_append_right (by omega), e, Nat.sub_self, List.getElem?_drop, Nat.add_zero, List.getElem?_eq_getElem (by rw [size_list]; exact h), getL _ _ h]
  rw [List.getElem?_eq_getElem h2] at this
  exact Option.some.inj this
theorem lowK_set (s : ByteArray) (k : Nat) (h : k < s.size) : (lowK s k).set k (lowC s[k]) = lowK s (k + 1) := by
  have e : ((s.data.toList.take k).map lowC).length = k := by rw [List.length_map, List.length_take, size_list]; omega
  unfold lowK
  rw [List.set_append_right _ _ (by omega), e, Nat.sub_self, List.take_succ_eq_append_getElem (by rw [size_list]; exact h), getL _ _ h, List.map_append, List.append_assoc]
  congr 1
  rw [List.drop_eq_getElem_cons (by rw [size_list]; exact h)]
  simp
theorem lowK_keep (s : ByteArray) (k : Nat) (h : k < s.size) (hc : capB s[k] = false) : lowK s k = lowK s (k + 1) := by
  rw [← lowK_set s k h, lowC_no hc]
  have h2 : k < (lowK s k).length := by rw [lowK_len s k (by omega)]; exact h
  have := lowK_at s k h h2
  conv => rhs; rw [← this]
  exact (List.set_getElem_self h2).symm

/-- one round -/
theorem low_store {w wr : World} {s : ByteArray} {k : Nat} (h : k < s.size) (hc : capB s[k] = true) (R : RowM wr w.heap.size (lowK s k)) (B : Below w.heap.size w wr) {z : Int} (hz : z = (s[k].toNat : Int) + 32) :
    RowM (wr.setCell ⟨w.heap.size, k, none⟩ (.int .u8 z)) w.heap.size (lowK s (k + 1)) ∧ Below w.heap.size w (wr.setCell ⟨w.heap.size, k, none⟩ (.int .u8 z)) := by
  have e : z = ((lowC s[k]).toNat : Int) := by rw [lowC_yes hc, hz]
  subst hz
  rw [e]
  have R2 := R.store k (by rw [lowK_len s k (by omega)]; exact h) (lowC s[k])
  rw [lowK_set s k h] at R2
  exact ⟨R2, B.setCell (by exact Nat.le_refl _) _⟩

set_option maxRecDepth 100000 in
set_option maxHeartbeats 2000000 in
theorem lower_any (s : ByteArray) (w : World) (hs : s.size ≤ 100000) :
    Calls Tryd.prog 9 #[.string s] w fun e w' => e = .returned (.string ⟨(s.data.toList.map lowC).toArray⟩) ∧ Below w.heap.size w w' := by
  have hcv := fun w : World => run_bytes_of_string (P := Tryd.prog) w 9 27 5 s Tryd.underlying9 Tryd.underlying27 Tryd.underlying5
  obtain ⟨cap, hcap⟩ : ∃ cap, grownCap w s.size 0 5 = cap := ⟨_, rfl⟩
  have hcv1 := hcv w
  rw [hcap] at hcv1
  clear hcv hcap
  go_enter Tryd.func9, Tryd.ntmps9
  go_wp2
  go_loopw [4, 5, 10] (fun _ _ i wr => ∃ k : Nat, k ≤ s.size ∧ i = .int .i64 k ∧ Hid (RowM wr w.heap.size (lowK s k)) ∧ Hid (Below w.heap.size w wr)) (fun _ _ i _ => s.size - (intOf i).toNat)
  case atStart => exact ⟨0, Nat.zero_le _, rfl, by rw [lowK_zero]; exact RowM.make w s cap, ((Below.refl _ _).alloc (Nat.le_refl _) _).drew⟩
  case round =>
    clear hcv1
    obtain ⟨k, hk, rfl, HR, HB⟩ := hrel
    by_cases hlt : k < s.size
    · have hl : k < (lowK s k).length := by rw [lowK_len s k hk]; exact hlt
      have hc0 := HR.out.cell k hl
      rw [lowK_at s k hlt hl] at hc0
      have hf0 := HR.out.free k hl
      have hq := capital_any s[k]
      clear hl
      cases hc : capB s[k] with
      | true =>
        have hb := (cap_iff _).1 hc
        obtain ⟨hb1, hb2⟩ := hb
        rw [hc] at hq
        have HS : Hid (∀ z : Int, z = (s[k].toNat : Int) + 32 → RowM (wr.setCell ⟨w.heap.size, k, none⟩ (.int .u8 z)) w.heap.size (lowK s (k + 1)) ∧ Below w.heap.size w (wr.setCell ⟨w.heap.size, k, none⟩ (.int .u8 z))) := fun z hz => low_store hlt hc HR.out HB.out hz
        clear hc HR HB
        go_wp2_with (go_at_call 16; refine (hq _).mono ?_; rintro e w' ⟨rfl, rfl⟩)
        go_roundw
        case rel => exact ⟨k + 1, by omega, by go_num, (HS.out _ (by omega)).1, (HS.out _ (by omega)).2⟩
        case measure => simp [intOf]; omega
      | false =>
        rw [hc] at hq
        have HR2 : Hid (RowM wr w.heap.size (lowK s (k + 1))) := by rw [← lowK_keep s k hlt hc]; exact HR.out
        clear hc HR
        go_wp2_with (go_at_call 16; refine (hq _).mono ?_; rintro e w' ⟨rfl, rfl⟩)
        go_roundw
        case rel => exact ⟨k + 1, by omega, by go_num, HR2.out, HB.out⟩
        case measure => simp [intOf]; omega
    · have hz : k = s.size := by omega
      subst hz
      have hcv2 := cv_cells (w := wr) (g := w.heap.size) (n := s.size) (cap := cap) (l := s.data.toList.map lowC) (by rw [List.length_map, size_list]) (fun j hj => by
        have := HR.out
        rw [lowK_end] at this
        exact this.cell j hj)
      go_wp2
      go_ret
      exact ⟨rfl, HB.out⟩

set_option maxRecDepth 100000 in
set_option maxHeartbeats 2000000 in
theorem refLower_any (s : ByteArray) (w : World) (hs : s.size ≤ 100000) :
    Calls Tryd.prog 10 #[.string s] w fun e w' => e = .returned (.string ⟨(s.data.toList.map lowC).toArray⟩) ∧ Below w.heap.size w w' := by
  have hcv := fun w : World => run_bytes_of_string (P := Tryd.prog) w 9 27 5 s Tryd.underlying9 Tryd.underlying27 Tryd.underlying5
  obtain ⟨cap, hcap⟩ : ∃ cap, grownCap w s.size 0 5 = cap := ⟨_, rfl⟩
  have hcv1 := hcv w
  rw [hcap] at hcv1
  clear hcv hcap
  go_enter Tryd.func10, Tryd.ntmps10
  go_wp2
  go_loopw [4, 9] (fun _ i wr => ∃ k : Nat, k ≤ s.size ∧ i = .int .i64 k ∧ Hid (RowM wr w.heap.size (lowK s k)) ∧ Hid (Below w.heap.size w wr)) (fun _ i _ => s.size - (intOf i).toNat)
  case atStart => exact ⟨0, Nat.zero_le _, rfl, by rw [lowK_zero]; exact RowM.make w s cap, ((Below.refl _ _).alloc (Nat.le_refl _) _).drew⟩
  case round =>
    clear hcv1
    obtain ⟨k, hk, rfl, HR, HB⟩ := hrel
    by_cases hlt : k < s.size
    · have hl : k < (lowK s k).length := by rw [lowK_len s k hk]; exact hlt
      have hc0 := HR.out.cell k hl
      rw [lowK_at s k hlt hl] at hc0
      have hf0 := HR.out.free k hl
      clear hl
      cases hc : capB s[k] with
      | true =>
        have hb := (cap_iff _).1 hc
        obtain ⟨hb1, hb2⟩ := hb
        have HS : Hid (∀ z : Int, z = (s[k].toNat : Int) + 32 → RowM (wr.setCell ⟨w.heap.size, k, none⟩ (.int .u8 z)) w.heap.size (lowK s (k + 1)) ∧ Below w.heap.size w (wr.setCell ⟨w.heap.size, k, none⟩ (.int .u8 z))) := fun z hz => low_store hlt hc HR.out HB.out hz
        clear hc HR HB
        go_wp2
        go_roundw
        case rel => exact ⟨k + 1, by omega, by go_num, (HS.out _ (by omega)).1, (HS.out _ (by omega)).2⟩
        case measure => simp [intOf]; omega
      | false =>
        have HR2 : Hid (RowM wr w.heap.size (lowK s (k + 1))) := by rw [← lowK_keep s k hlt hc]; exact HR.out
        have hno : s[k].toNat < 65 ∨ 90 < s[k].toNat := by
          have : ¬ (capB s[k] = true) := by rw [hc]; simp
          rw [cap_iff] at this
          omega
        clear hc HR
        rcases hno with hn | hn
        all_goals
          go_wp2
          all_goals (try (exfalso; omega))
          go_roundw
          case rel => exact ⟨k + 1, by omega, by go_num, HR2.out, HB.out⟩
          case measure => simp [intOf]; omega
    · have hz : k = s.size := by omega
      subst hz
      have hcv2 := cv_cells (w := wr) (g := w.heap.size) (n := s.size) (cap := cap) (l := s.data.toList.map lowC) (by rw [List.length_map, size_list]) (fun j hj => by
        have := HR.out
        rw [lowK_end] at this
        exact this.cell j hj)
      go_wp2
      go_ret
      exact ⟨rfl, HB.out⟩

/-! ### a pattern without its stars -/
theorem rep_all (c : UInt8) : ∀ s : List UInt8, Lib.replaceK [c] [] (Lib.count s [c]) s = s.filter (· != c)
  | [] => by rw [Lib.count_miss (by simp [Lib.index])]; rfl
  | b :: l => by
    have ih := rep_all c l
    by_cases h : b = c
    · subst h
      have hix : Lib.index (b :: l) [b] = ((0 : Nat) : Int) := by rw [Lib.index]; simp [List.isPrefixOf]
      rw [Lib.count_cons_eq, Nat.add_comm, Lib.replaceK_hit _ _ _ _ _ hix]
      simpa using ih
    · rw [Lib.count_cons_ne b c l h]
      have hf : (b :: l).filter (· != c) = b :: l.filter (· != c) := by simp [h]
      rw [hf, ← ih]
      cases hk : Lib.count l [c] with
      | zero => rfl
      | succ k =>
        obtain ⟨i, hi⟩ := Lib.index_of_count (s := l) (old := [c]) (by omega)
        have hp : ([c] : List UInt8).isPrefixOf (b :: l) = false := by simp [List.isPrefixOf, Ne.symm h]
        have hix : Lib.index (b :: l) [c] = ((i + 1 : Nat) : Int) := by
          rw [Lib.index, hp, hi]
          have : ((i : Int) == -1) = false := by rw [beq_eq_false_iff_ne]; omega
          simp [this]
        rw [Lib.replaceK_hit _ _ _ _ _ hix, Lib.replaceK_hit _ _ _ _ _ hi]
        simp
theorem rep_star (s : List UInt8) : Lib.replaceAll s [42] [] = s.filter (· != 42) := by
  unfold Lib.replaceAll Lib.replace
  rw [if_neg (by simp)]
  unfold Lib.replaceNum
  rw [if_pos (by omega)]
  exact rep_all 42 s
theorem least_any (s : ByteArray) (m : Int) (w : World) (hm : w.cell? ⟨0, 0, none⟩ = some (.int .i64 m)) (hs : s.size ≤ 100000) :
    Calls Tryd.prog 7 #[.string s] w fun e w' => e = .returned (.string ⟨(s.data.toList.filter (· != 42)).toArray⟩) ∧ Below w.heap.size w w' := by
  have hc := Tryd.strings_ReplaceAll s ⟨#[42]⟩ ⟨#[]⟩ m w (by omega) hm (by decide) (by
    have : (⟨#[]⟩ : ByteArray).size = 0 := rfl
    rw [this]; omega)
  have e : Lib.replaceAll s.data.toList (⟨#[42]⟩ : ByteArray).data.toList (⟨#[]⟩ : ByteArray).data.toList = s.data.toList.filter (· != 42) := rep_star _
  rw [e] at hc
  clear hm e
  go_enter Tryd.func7, Tryd.ntmps7
  go_wp2_with (go_at_call 13; refine hc.mono ?_; rintro e w' ⟨rfl, hb⟩)
  go_ret
  exact ⟨rfl, hb⟩

end Go.Proofs.YtpkhcelakfdjfaaDoor
