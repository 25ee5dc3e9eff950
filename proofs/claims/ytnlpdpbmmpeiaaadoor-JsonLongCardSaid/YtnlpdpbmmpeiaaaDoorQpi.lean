/- quote.piece: what each call returns. -/
import Derived.Test.YtnlpdpbmmpeiaaaDoorQes
import Derived.Test.YtnlpdpbmmpeiaaaDoorQat
import Derived.Test.YtnlpdpbmmpeiaaaDoorList
import Derived.Lib.Hide
namespace Go.Proofs.YtnlpdpbmmpeiaaaDoor
open Go.RowKit

theorem dec_none (s : ByteArray) (a : Nat) (w : World) (hT : Lib.Utf8Tabs 15 16 w) (hs : s.size ≤ maxLen) (ha : a < s.size) (h : (codeD s a).2 = 0) :
    Calls Tryd.prog 41 #[.string s, .int .i64 a] w fun e w' => e = .returned (.tuple #[.int .i64 0, .int .i64 0, .bool false]) ∧ Below w.heap.size w w' :=
  dec_bad s a w hT hs ha (codeD_zero.2 h)
theorem dec_some (s : ByteArray) (a : Nat) (w : World) (hT : Lib.Utf8Tabs 15 16 w) (hs : s.size ≤ maxLen) (ha : a < s.size) (h : (codeD s a).2 ≠ 0) :
    Calls Tryd.prog 41 #[.string s, .int .i64 a] w fun e w' => e = .returned (.tuple #[.int .i64 (codeD s a).1, .int .i64 (codeD s a).2, .bool true]) ∧ Below w.heap.size w w' := by
  have := dec_good s a w hT hs ha (fun x => h (codeD_zero.1 x))
  rw [codeD_eq h]
  exact this

theorem code_fits {s : ByteArray} {a : Nat} (ha : a < s.size) (h : (codeD s a).2 ≠ 0) : a + (codeD s a).2 ≤ s.size := by
  rw [codeD_drop] at h ⊢
  have hl := drop_len (s := s) (a := a) rfl
  have hne : s.data.toList.drop a ≠ [] := by intro e; rw [e] at hl; simp at hl; omega
  obtain ⟨_, h2, h3⟩ := plain_some hne (r := (plainL (s.data.toList.drop a)).1) (n := (plainL (s.data.toList.drop a)).2) rfl h
  have := congrArg List.length h2
  rw [List.length_append, ← h3, List.length_drop, List.length_drop, size_list] at this
  omega

set_option maxHeartbeats 1000000 in
theorem piece_any (s : ByteArray) (a : Nat) (w : World) (hT : Lib.Utf8Tabs 15 16 w) (hs : s.size ≤ maxLen) (ha : a < s.size) {o : Option (List UInt8 × Nat)} (ho : pieceL (s.data.toList.drop a) = o) :
    Calls Tryd.prog 36 #[.string s, .int .i64 a] w fun e w' => e = .returned (pieceV o) ∧ Below w.heap.size w w' := by
  have hs' := hs
  unfold maxLen at hs
  have hby := byteAt_in ha
  by_cases h92 : byteAt s a = 92
  · have hE := fun w => escaped_any s a w hs' ha rfl
    have e : pieceL (s.data.toList.drop a) = escL (s.data.toList.drop a) := by
      obtain ⟨c, t, hd, e0, _⟩ := drop_one ha
      rw [hd]
      unfold pieceL
      simp only []
      rw [if_pos (by omega)]
    rw [e] at ho
    rw [ho] at hE
    have q : ((s[a].toNat : Int) == 92) = true := by rw [hby, h92]; rfl
    clear e ho h92 hby hT hs'
    cases o with
    | none =>
      simp only [pieceV] at hE ⊢
      go_enter Tryd.func36, Tryd.ntmps36
      go_wp2_with (go_at_call 40; refine (hE _).mono ?_; rintro e w' ⟨rfl, rfl⟩)
      go_ret3
      exact ⟨rfl, Below.refl _ _⟩
    | some p =>
      simp only [pieceV] at hE ⊢
      go_enter Tryd.func36, Tryd.ntmps36
      go_wp2_with (go_at_call 40; refine (hE _).mono ?_; rintro e w' ⟨rfl, rfl⟩)
      go_ret3
      exact ⟨rfl, Below.refl _ _⟩
  · have q : ((s[a].toNat : Int) == 92) = false := by rw [hby]; simp; omega
    rw [piece_plain ha h92] at ho
    by_cases hn : (codeD s a).2 = 0
    · rw [if_pos (.inl hn)] at ho
      subst ho
      have hD := dec_none s a w hT hs' ha hn
      simp only [pieceV]
      clear hn h92 hby hT hs'
      go_enter Tryd.func36, Tryd.ntmps36
      go_wp2_with (go_at_call 41; refine hD.mono ?_; rintro e w' ⟨rfl, hb⟩)
      go_ret3
      exact ⟨rfl, hb⟩
    · have hD := dec_some s a w hT hs' ha hn
      have hf := code_fits ha hn
      have hbd := decode_bd s a
      rw [← codeD_eq hn] at hbd
      obtain ⟨b1, b2, b3⟩ := hbd
      have hcut := cut_list s a (codeD s a).2
      by_cases hr : (codeD s a).1 < 32
      · rw [if_pos (.inr hr)] at ho
        subst ho
        simp only [pieceV]
        clear hcut h92 hby hT hs' hn
        generalize (codeD s a).1 = r at *
        generalize (codeD s a).2 = n at *
        go_enter Tryd.func36, Tryd.ntmps36
        go_wp2_with (go_at_call 41; refine hD.mono ?_; rintro e w' ⟨rfl, hb⟩)
        go_ret3
        exact ⟨rfl, hb⟩
      · rw [if_neg (by omega)] at ho
        subst ho
        simp only [pieceV]
        have hX : (⟨((s.data.toList.drop a).take (codeD s a).2).toArray⟩ : ByteArray) = s.extract a (a + (codeD s a).2) := ba_eq (by rw [hcut])
        rw [hX]
        clear hX hcut h92 hby hT hs' hn
        generalize (codeD s a).1 = r at *
        generalize (codeD s a).2 = n at *
        go_enter Tryd.func36, Tryd.ntmps36
        go_wp2_with (go_at_call 41; refine hD.mono ?_; rintro e w' ⟨rfl, hb⟩)
        go_ret3
        exact ⟨rfl, hb⟩

end Go.Proofs.YtnlpdpbmmpeiaaaDoor
