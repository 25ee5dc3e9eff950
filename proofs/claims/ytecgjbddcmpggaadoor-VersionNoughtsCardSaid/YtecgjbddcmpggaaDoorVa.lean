/- Texts with small letters (package glob's and the document's), in any world. -/
import Derived.Test.YtecgjbddcmpggaaDoorVr
import Derived.Lib.SplitLaws
namespace Go.Proofs.YtecgjbddcmpggaaDoor
open Go.RowKit Go.Shelf

theorem capital_yes (c : Int) (w : World) (h1 : 65 ≤ c) (h2 : c ≤ 90) :
    Calls Tryd.prog 37 #[.int .u8 c] w fun e w' => e = .returned (.bool true) ∧ w = w' := by
  go_enter Tryd.func37, Tryd.ntmps37
  go_wp2
  go_ret
  exact ⟨rfl, rfl⟩
theorem capital_no (c : Int) (w : World) (h : c < 65 ∨ 90 < c) :
    Calls Tryd.prog 37 #[.int .u8 c] w fun e w' => e = .returned (.bool false) ∧ w = w' := by
  rcases h with h | h
  · go_enter Tryd.func37, Tryd.ntmps37
    go_wp2
    go_ret
    exact ⟨ret_bool (by simp; try omega), rfl⟩
  · have h1 : 65 ≤ c := by omega
    go_enter Tryd.func37, Tryd.ntmps37
    go_wp2
    go_ret
    exact ⟨ret_bool (by simp; try omega), rfl⟩
theorem capital_any (c : UInt8) (w : World) :
    Calls Tryd.prog 37 #[.int .u8 c.toNat] w fun e w' => e = .returned (.bool (capB c)) ∧ w = w' := by
  by_cases h : 65 ≤ c.toNat ∧ c.toNat ≤ 90
  · rw [show capB c = true from decide_eq_true h]; exact capital_yes _ w (by omega) (by omega)
  · rw [show capB c = false from decide_eq_false h]; exact capital_no _ w (by omega)

/-! ### rows of bytes -/
def bv (l : List UInt8) : List Value := l.map fun c => .int .u8 (c.toNat : Int)
theorem bv_append (a b : List UInt8) : bv (a ++ b) = bv a ++ bv b := by simp [bv]
theorem bv_len (l : List UInt8) : (bv l).length = l.length := by simp [bv]
theorem bv_get (l : List UInt8) (j : Nat) (h : j < l.length) : (bv l)[j]? = some (.int .u8 (l[j].toNat : Int)) := by simp [bv, h]
theorem bv_set (l : List UInt8) (j : Nat) (c : UInt8) : (bv l).set j (.int .u8 (c.toNat : Int)) = bv (l.set j c) := by simp [bv, List.map_set]
/-- bytes of the call's own, as a string -/
theorem cv_cells {w : World} {g n cap : Nat} {l : List UInt8} (hn : l.length = n) (hc : ∀ j (hj : j < l.length), w.cell? ⟨g, j, none⟩ = some (.int .u8 (l[j].toNat : Int))) :
    Sem.run Tryd.prog (convert 40 9 (.slice (some ⟨g, 0, none⟩) n cap)) w = .ok (.string ⟨l.toArray⟩) w := by
  subst hn
  exact run_convert_bytes_back (P := Tryd.prog) w 40 9 5 ⟨g, 0, none⟩ cap l Tryd.underlying40 Tryd.underlying5 Tryd.underlying9 (fun j hj => by rw [add_none, Nat.zero_add]; exact hc j hj)
/-! ### a row that was made of a string: its mark lies behind it -/
structure RowM (w : World) (g : Nat) (l : List UInt8) : Prop where
  ex : ∃ cur : Array Value, w.heap[g]? = some (.cells cur 5 (cur.size, cur.size + 1)) ∧ l.length ≤ cur.size ∧ cur.toList.take l.length = bv l
theorem RowM.cell {w : World} {g : Nat} {l : List UInt8} (h : RowM w g l) (j : Nat) (hj : j < l.length) : w.cell? ⟨g, j, none⟩ = some (.int .u8 (l[j].toNat : Int)) := by
  obtain ⟨cur, h1, h2, h3⟩ := h.ex
  rw [cell_of_row w g j cur 5 _ h1, ← bv_get l j hj, ← h3, List.getElem?_take, if_pos hj]
  simp
theorem RowM.free {w : World} {g : Nat} {l : List UInt8} (h : RowM w g l) (j : Nat) (_hj : j < l.length) : w.frozen? ⟨g, j, none⟩ = false := by
  obtain ⟨cur, h1, h2, h3⟩ := h.ex
  simp only [World.frozen?, h1]
  simp
  omega
theorem RowM.store {w : World} {g : Nat} {l : List UInt8} (h : RowM w g l) (j : Nat) (_hj : j < l.length) (c : UInt8) : RowM (w.setCell ⟨g, j, none⟩ (.int .u8 (c.toNat : Int))) g (l.set j c) := by
  obtain ⟨cur, h1, h2, h3⟩ := h.ex
  refine ⟨cur.setIfInBounds j (.int .u8 (c.toNat : Int)), ?_, by simpa using h2, ?_⟩
  · simp [World.setCell, Array.getElem?_modify, h1]
  · rw [Array.toList_setIfInBounds, List.length_set, List.take_set, h3, bv_set]
theorem RowM.make (w : World) (s : ByteArray) (cap : Nat) : RowM (w.drew.alloc (.cells (bytesRow s cap) 5 ((bytesRow s cap).size, (bytesRow s cap).size + 1))) w.heap.size s.data.toList := by
  refine ⟨bytesRow s cap, ?_, ?_, ?_⟩
  · show (w.heap.push _)[w.heap.size]? = _
    simp
  · unfold bytesRow
    simp
  · unfold bytesRow bv
    rw [Array.toList_append, List.take_append_of_le_length (by simp), List.take_of_length_le (by simp)]
    simp

/-! ### small letters -/
theorem cap_iff (c : UInt8) : capB c = true ↔ 65 ≤ c.toNat ∧ c.toNat ≤ 90 := by unfold capB; exact decide_eq_true_iff
theorem lowC_yes {c : UInt8} (h : capB c = true) : ((lowC c).toNat : Int) = (c.toNat : Int) + 32 := by
  have := (cap_iff c).1 h
  unfold lowC
  rw [if_pos h, UInt8.toNat_add, show (32 : UInt8).toNat = 32 from rfl, Nat.mod_eq_of_lt (by omega)]
  omega
theorem lowC_no {c : UInt8} (h : capB c = false) : lowC c = c := by unfold lowC; rw [h]; rfl
/-- what the first k letters are so far -/
def lowK (s : ByteArray) (k : Nat) : List UInt8 := (s.data.toList.take k).map lowC ++ s.data.toList.drop k
theorem lowK_len (s : ByteArray) (k : Nat) (h : k ≤ s.size) : (lowK s k).length = s.size := by
  unfold lowK
  rw [List.length_append, List.length_map, List.length_take, List.length_drop, size_list]; omega
theorem lowK_zero (s : ByteArray) : lowK s 0 = s.data.toList := by unfold lowK; simp
theorem lowK_end (s : ByteArray) : lowK s s.size = s.data.toList.map lowC := by
  unfold lowK
  rw [List.take_of_length_le (by rw [size_list]; exact Nat.le_refl _), List.drop_of_length_le (by rw [size_list]; exact Nat.le_refl _), List.append_nil]
theorem lowK_at (s : ByteArray) (k : Nat) (h : k < s.size) (h2 : k < (lowK s k).length) : (lowK s k)[k] = s[k] := by
  have e : ((s.data.toList.take k).map lowC).length = k := by rw [List.length_map, List.length_take, size_list]; omega
  have : (lowK s k)[k]? = some s[k] := by
    unfold lowK
    rw [List.getElem?_append_right (by omega), e, Nat.sub_self, List.getElem?_drop, Nat.add_zero, List.getElem?_eq_getElem (by rw [size_list]; exact h), getL _ _ h]
  rw [List.getElem?_eq_getElem h2] at this
  exact Option.some.inj this
theorem lowK_set (s : ByteArray) (k : Nat) (h : k < s.size) : (lowK s k).set k (lowC s[k]) = lowK s (k + 1) := by
  have e : ((s.data.toList.take k).map lowC).length = k := by rw [List.length_map, List.length_take, size_list]; omega
  unfold lowK
  rw [List.set_append_right _ _ (by omega), e, Nat.sub_self, List.take_succ_eq_append_getElem (by rw [size_list]; exact h), getL _ _ h, List.map_append, List.append_assoc]
  congr 1
  rw [List.drop_eq_getElem_cons (by rw [size_list]; exact h)]
  simp
theorem lowK_keep (s : ByteArray) (k : Nat) (h : k < s.size) (hc : capB s[k] = false) : lowK s k = lowK s (k + 1) := by
  rw [← lowK_set s k h, lowC_no hc]
  have h2 : k < (lowK s k).length := by rw [lowK_len s k (by omega)]; exact h
  have := lowK_at s k h h2
  conv => rhs; rw [← this]
  exact (List.set_getElem_self h2).symm

/-- one round -/
theorem low_store {w wr : World} {s : ByteArray} {k : Nat} (h : k < s.size) (hc : capB s[k] = true) (R : RowM wr w.heap.size (lowK s k)) (B : Below w.heap.size w wr) {z : Int} (hz : z = (s[k].toNat : Int) + 32) :
    RowM (wr.setCell ⟨w.heap.size, k, none⟩ (.int .u8 z)) w.heap.size (lowK s (k + 1)) ∧ Below w.heap.size w (wr.setCell ⟨w.heap.size, k, none⟩ (.int .u8 z)) := by
  have e : z = ((lowC s[k]).toNat : Int) := by rw [lowC_yes hc, hz]
  subst hz
  rw [e]
  have R2 := R.store k (by rw [lowK_len s k (by omega)]; exact h) (lowC s[k])
  rw [lowK_set s k h] at R2
  exact ⟨R2, B.setCell (by exact Nat.le_refl _) _⟩

set_option maxRecDepth 100000 in
set_option maxHeartbeats 2000000 in
theorem lower_any (s : ByteArray) (w : World) (hs : s.size ≤ 100000) :
    Calls Tryd.prog 17 #[.string s] w fun e w' => e = .returned (.string ⟨(s.data.toList.map lowC).toArray⟩) ∧ Below w.heap.size w w' := by
  have hcv := fun w : World => run_bytes_of_string (P := Tryd.prog) w 9 40 5 s Tryd.underlying9 Tryd.underlying40 Tryd.underlying5
  obtain ⟨cap, hcap⟩ : ∃ cap, grownCap w s.size 0 5 = cap := ⟨_, rfl⟩
  have hcv1 := hcv w
  rw [hcap] at hcv1
  clear hcv hcap
  go_enter Tryd.func17, Tryd.ntmps17
  go_wp2
  go_loopw [4, 5, 10] (fun _ _ i wr => ∃ k : Nat, k ≤ s.size ∧ i = .int .i64 k ∧ Hid (RowM wr w.heap.size (lowK s k)) ∧ Hid (Below w.heap.size w wr)) (fun _ _ i _ => s.size - (intOf i).toNat)
  case atStart => exact ⟨0, Nat.zero_le _, rfl, by rw [lowK_zero]; exact RowM.make w s cap, ((Below.refl _ _).alloc (Nat.le_refl _) _).drew⟩
  case round =>
    clear hcv1
    obtain ⟨k, hk, rfl, HR, HB⟩ := hrel
    by_cases hlt : k < s.size
    · have hl : k < (lowK s k).length := by rw [lowK_len s k hk]; exact hlt
      have hc0 := HR.out.cell k hl
      rw [lowK_at s k hlt hl] at hc0
      have hf0 := HR.out.free k hl
      have hq := capital_any s[k]
      clear hl
      cases hc : capB s[k] with
      | true =>
        have hb := (cap_iff _).1 hc
        obtain ⟨hb1, hb2⟩ := hb
        rw [hc] at hq
        have HS : Hid (∀ z : Int, z = (s[k].toNat : Int) + 32 → RowM (wr.setCell ⟨w.heap.size, k, none⟩ (.int .u8 z)) w.heap.size (lowK s (k + 1)) ∧ Below w.heap.size w (wr.setCell ⟨w.heap.size, k, none⟩ (.int .u8 z))) := fun z hz => low_store hlt hc HR.out HB.out hz
        clear hc HR HB
        go_wp2_with (go_at_call 37; refine (hq _).mono ?_; rintro e w' ⟨rfl, rfl⟩)
        go_roundw
        case rel => exact ⟨k + 1, by omega, by go_num, (HS.out _ (by omega)).1, (HS.out _ (by omega)).2⟩
        case measure => simp [intOf]; omega
      | false =>
        rw [hc] at hq
        have HR2 : Hid (RowM wr w.heap.size (lowK s (k + 1))) := by rw [← lowK_keep s k hlt hc]; exact HR.out
        clear hc HR
        go_wp2_with (go_at_call 37; refine (hq _).mono ?_; rintro e w' ⟨rfl, rfl⟩)
        go_roundw
        case rel => exact ⟨k + 1, by omega, by go_num, HR2.out, HB.out⟩
        case measure => simp [intOf]; omega
    · have hz : k = s.size := by omega
      subst hz
      have hcv2 := cv_cells (w := wr) (g := w.heap.size) (n := s.size) (cap := cap) (l := s.data.toList.map lowC) (by rw [List.length_map, size_list]) (fun j hj => by
        have := HR.out
        rw [lowK_end] at this
        exact this.cell j hj)
      go_wp2
      go_ret
      exact ⟨rfl, HB.out⟩

set_option maxRecDepth 100000 in
set_option maxHeartbeats 2000000 in
theorem refLower_any (s : ByteArray) (w : World) (hs : s.size ≤ 100000) :
    Calls Tryd.prog 18 #[.string s] w fun e w' => e = .returned (.string ⟨(s.data.toList.map lowC).toArray⟩) ∧ Below w.heap.size w w' := by
  have hcv := fun w : World => run_bytes_of_string (P := Tryd.prog) w 9 40 5 s Tryd.underlying9 Tryd.underlying40 Tryd.underlying5
  obtain ⟨cap, hcap⟩ : ∃ cap, grownCap w s.size 0 5 = cap := ⟨_, rfl⟩
  have hcv1 := hcv w
  rw [hcap] at hcv1
  clear hcv hcap
  go_enter Tryd.func18, Tryd.ntmps18
  go_wp2
  go_loopw [4, 9] (fun _ i wr => ∃ k : Nat, k ≤ s.size ∧ i = .int .i64 k ∧ Hid (RowM wr w.heap.size (lowK s k)) ∧ Hid (Below w.heap.size w wr)) (fun _ i _ => s.size - (intOf i).toNat)
  case atStart => exact ⟨0, Nat.zero_le _, rfl, by rw [lowK_zero]; exact RowM.make w s cap, ((Below.refl _ _).alloc (Nat.le_refl _) _).drew⟩
  case round =>
    clear hcv1
    obtain ⟨k, hk, rfl, HR, HB⟩ := hrel
    by_cases hlt : k < s.size
    · have hl : k < (lowK s k).length := by rw [lowK_len s k hk]; exact hlt
      have hc0 := HR.out.cell k hl
      rw [lowK_at s k hlt hl] at hc0
      have hf0 := HR.out.free k hl
      clear hl
      cases hc : capB s[k] with
      | true =>
        have hb := (cap_iff _).1 hc
        obtain ⟨hb1, hb2⟩ := hb
        have HS : Hid (∀ z : Int, z = (s[k].toNat : Int) + 32 → RowM (wr.setCell ⟨w.heap.size, k, none⟩ (.int .u8 z)) w.heap.size (lowK s (k + 1)) ∧ Below w.heap.size w (wr.setCell ⟨w.heap.size, k, none⟩ (.int .u8 z))) := fun z hz => low_store hlt hc HR.out HB.out hz
        clear hc HR HB
        go_wp2
        go_roundw
        case rel => exact ⟨k + 1, by omega, by go_num, (HS.out _ (by omega)).1, (HS.out _ (by omega)).2⟩
        case measure => simp [intOf]; omega
      | false =>
        have HR2 : Hid (RowM wr w.heap.size (lowK s (k + 1))) := by rw [← lowK_keep s k hlt hc]; exact HR.out
        have hno : s[k].toNat < 65 ∨ 90 < s[k].toNat := by
          have : ¬ (capB s[k] = true) := by rw [hc]; simp
          rw [cap_iff] at this
          omega
        clear hc HR
        rcases hno with hn | hn
        all_goals
          go_wp2
          all_goals (try (exfalso; omega))
          go_roundw
          case rel => exact ⟨k + 1, by omega, by go_num, HR2.out, HB.out⟩
          case measure => simp [intOf]; omega
    · have hz : k = s.size := by omega
      subst hz
      have hcv2 := cv_cells (w := wr) (g := w.heap.size) (n := s.size) (cap := cap) (l := s.data.toList.map lowC) (by rw [List.length_map, size_list]) (fun j hj => by
        have := HR.out
        rw [lowK_end] at this
        exact this.cell j hj)
      go_wp2
      go_ret
      exact ⟨rfl, HB.out⟩

end Go.Proofs.YtecgjbddcmpggaaDoor
