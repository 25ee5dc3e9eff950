/- The contracts of package glob's bytes and of its tests of all bytes: what each call returns, in any world. -/
import Derived.Test.YtpkhcelakfdjfaaDoorRows
import Derived.Test.YtpkhcelakfdjfaaDoorMa
import Derived.WalkKit
import Derived.WalkSpells
import Derived.WalkLawsBesides
import Derived.Lib.Bytealg
import Derived.Lib.Hide
namespace Go.Proofs.YtpkhcelakfdjfaaDoor
open Go.RowKit

theorem ret_bool {a b : Bool} (h : a = b) : Ending.returned (.bool a) = .returned (.bool b) := by rw [h]

/-! ### bytes -/
theorem capital_yes (c : Int) (w : World) (h1 : 65 ≤ c) (h2 : c ≤ 90) :
    Calls Tryd.prog 16 #[.int .u8 c] w fun e w' => e = .returned (.bool true) ∧ w = w' := by
  go_enter Tryd.func16, Tryd.ntmps16
  go_wp2
  go_ret
  exact ⟨rfl, rfl⟩
theorem capital_no (c : Int) (w : World) (h : c < 65 ∨ 90 < c) :
    Calls Tryd.prog 16 #[.int .u8 c] w fun e w' => e = .returned (.bool false) ∧ w = w' := by
  rcases h with h | h
  · go_enter Tryd.func16, Tryd.ntmps16
    go_wp2
    go_ret
    exact ⟨ret_bool (by simp; try omega), rfl⟩
  · have h1 : 65 ≤ c := by omega
    go_enter Tryd.func16, Tryd.ntmps16
    go_wp2
    go_ret
    exact ⟨ret_bool (by simp; try omega), rfl⟩
def capB (c : UInt8) : Bool := decide (65 ≤ c.toNat ∧ c.toNat ≤ 90)
theorem capital_any (c : UInt8) (w : World) :
    Calls Tryd.prog 16 #[.int .u8 c.toNat] w fun e w' => e = .returned (.bool (capB c)) ∧ w = w' := by
  by_cases h : 65 ≤ c.toNat ∧ c.toNat ≤ 90
  · rw [show capB c = true from decide_eq_true h]; exact capital_yes _ w (by omega) (by omega)
  · rw [show capB c = false from decide_eq_false h]; exact capital_no _ w (by omega)

/-- strings.IndexByte -/
theorem lite_any (s : ByteArray) (c : Int) (w : World) :
    Calls Tryd.prog 28 #[.string s, .int .u8 c] w fun e w' => e = .returned (.int .i64 (Lib.indexByte s.data.toList c.toNat.toUInt8)) ∧ w = w' := by
  go_enter Tryd.func28, Tryd.ntmps28
  go_wp2
  rw [run_callFunc_extern Tryd.func35 (by kernel_rfl) (by kernel_rfl) (by kernel_rfl) (e := Extern.BytealgIndexByte.indexByte) (by kernel_rfl), Lib.run_indexByteString]
  simp only [Result.andThen]
  rw [Oper.upon_value]
  go_wp2
  go_ret
  exact ⟨rfl, rfl⟩
theorem index_any (s : ByteArray) (c : Int) (w : World) :
    Calls Tryd.prog 21 #[.string s, .int .u8 c] w fun e w' => e = .returned (.int .i64 (Lib.indexByte s.data.toList c.toNat.toUInt8)) ∧ w = w' := by
  go_enter Tryd.func21, Tryd.ntmps21
  go_wp2_with (go_at_call 28; refine (lite_any _ _ _).mono ?_; rintro e w' ⟨rfl, rfl⟩)
  go_ret
  exact ⟨rfl, rfl⟩

/-- the bytes of words -/
def wordB (c : UInt8) : Bool := decide (97 ≤ c.toNat ∧ c.toNat ≤ 122) || capB c || decide (48 ≤ c.toNat ∧ c.toNat ≤ 57) || c == 95 || c == 46 || c == 43 || c == 33 || c == 45
theorem mark_idx (c : UInt8) : decide (0 ≤ Lib.indexByte [95, 46, 43, 33, 45] ((c.toNat : Int).toNat).toUInt8) = (c == 95 || c == 46 || c == 43 || c == 33 || c == 45) := by
  have e : ((c.toNat : Int).toNat).toUInt8 = c := by simp
  rw [e]
  by_cases h1 : c = 95
  · subst h1; decide
  by_cases h2 : c = 46
  · subst h2; decide
  by_cases h3 : c = 43
  · subst h3; decide
  by_cases h4 : c = 33
  · subst h4; decide
  by_cases h5 : c = 45
  · subst h5; decide
  simp [Lib.indexByte, h1, h2, h3, h4, h5, Ne.symm h1, Ne.symm h2, Ne.symm h3, Ne.symm h4, Ne.symm h5]
set_option maxHeartbeats 1000000 in
theorem ofWords_any (c : UInt8) (w : World) :
    Calls Tryd.prog 19 #[.int .u8 c.toNat] w fun e w' => e = .returned (.bool (wordB c)) ∧ w = w' := by
  by_cases h1 : 97 ≤ c.toNat ∧ c.toNat ≤ 122
  · have hb : wordB c = true := by unfold wordB; rw [decide_eq_true h1]; rfl
    rw [hb]
    obtain ⟨g1, g2⟩ := h1
    clear hb
    go_enter Tryd.func19, Tryd.ntmps19
    go_wp2
    go_ret
    exact ⟨rfl, rfl⟩
  by_cases h2 : 65 ≤ c.toNat ∧ c.toNat ≤ 90
  · have hb : wordB c = true := by unfold wordB; rw [show capB c = true from decide_eq_true h2]; simp
    rw [hb]
    obtain ⟨g1, g2⟩ := h2
    have g3 : decide ((97 : Int) ≤ (c.toNat : Int)) = false := decide_eq_false (by omega)
    clear hb h1
    go_enter Tryd.func19, Tryd.ntmps19
    go_wp2_with (go_at_call 16; refine (capital_yes _ _ (by omega) (by omega)).mono ?_; rintro e w' ⟨rfl, rfl⟩)
    go_ret
    exact ⟨rfl, rfl⟩
  have hc : capB c = false := decide_eq_false h2
  have hcc : ∀ w, Calls Tryd.prog 16 #[.int .u8 c.toNat] w fun e w' => e = .returned (.bool false) ∧ w = w' := fun w => capital_no _ w (by omega)
  by_cases h3 : 48 ≤ c.toNat ∧ c.toNat ≤ 57
  · have hb : wordB c = true := by unfold wordB; rw [decide_eq_true h3]; simp
    rw [hb]
    obtain ⟨g1, g2⟩ := h3
    have g3 : decide ((97 : Int) ≤ (c.toNat : Int)) = false := decide_eq_false (by omega)
    clear hb h1 h2 hc
    go_enter Tryd.func19, Tryd.ntmps19
    go_wp2_with (go_at_call 16; refine (hcc _).mono ?_; rintro e w' ⟨rfl, rfl⟩)
    go_ret
    exact ⟨rfl, rfl⟩
  have hb : wordB c = decide (0 ≤ Lib.indexByte [95, 46, 43, 33, 45] ((c.toNat : Int).toNat).toUInt8) := by
    rw [mark_idx]; unfold wordB; rw [decide_eq_false h1, hc, decide_eq_false h3]; rfl
  rw [hb]
  clear hb hc
  have k1 : c.toNat < 97 ∨ 122 < c.toNat := by omega
  have k3 : c.toNat < 48 ∨ 57 < c.toNat := by omega
  clear h1 h2 h3
  rcases k1 with k1 | k1 <;> rcases k3 with k3 | k3
  all_goals
    first
    | (exfalso; omega)
    | (go_enter Tryd.func19, Tryd.ntmps19
       go_wp2_with (first | (go_at_call 16; refine (hcc _).mono ?_; rintro e w' ⟨rfl, rfl⟩) | (go_at_call 21; refine (index_any _ _ _).mono ?_; rintro e w' ⟨rfl, rfl⟩))
       go_ret
       exact ⟨ret_bool (by simp; try omega), rfl⟩)

end Go.Proofs.YtpkhcelakfdjfaaDoor
