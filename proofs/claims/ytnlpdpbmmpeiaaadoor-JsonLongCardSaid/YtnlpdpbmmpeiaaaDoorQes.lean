/- quote.escaped: what each call returns. -/
import Derived.Test.YtnlpdpbmmpeiaaaDoorQpc
namespace Go.Proofs.YtnlpdpbmmpeiaaaDoor
open Go.RowKit

def pieceV : Option (List UInt8 × Nat) → Value
  | some p => .tuple #[.string ⟨p.1.toArray⟩, .int .i64 p.2, .bool true]
  | none => .tuple #[.string ⟨#[]⟩, .int .i64 0, .bool false]

theorem enc_small (x : Nat) (h : x < 128) : Utf8.encode (x : Int) = ⟨[UInt8.ofNat x].toArray⟩ := by
  rw [enc_eq x (by unfold isPt; omega), encB_ba, encB_one (by omega)]
  simp
theorem enc_pt {r : Int} (h : isPt r) : Utf8.encode r = ⟨(encB r).toArray⟩ := by rw [enc_eq r h, encB_ba]

theorem coded_pt {l : List UInt8} {r : Int} {n : Nat} (h : codedL l = some (r, n)) : isPt r ∧ 0 ≤ r ∧ r ≤ 1114111 := by
  have : isPt r := by
    unfold codedL at h
    split at h
    · simp at h
    · rename_i v hv
      have := (unit_len hv).2
      split at h
      · simp only [Option.some.injEq, Prod.mk.injEq] at h
        rw [← h.1]; unfold isPt; omega
      · split at h
        · simp at h
        · split at h
          · rename_i hj
            simp only [Option.some.injEq, Prod.mk.injEq] at h
            rw [← h.1]
            exact (joinZ_pt (by omega) hj.1 hj.2.1 hj.2.2).1
          · simp at h
  unfold isPt at this ⊢
  omega

theorem drop_two {s : ByteArray} {a : Nat} (h : a + 1 < s.size) : ∃ c0 c t, s.data.toList.drop a = c0 :: c :: t ∧ byteAt s a = c0.toNat ∧ byteAt s (a + 1) = c.toNat := by
  have hl := drop_len (s := s) (a := a) rfl
  rcases hd : s.data.toList.drop a with _ | ⟨c0, _ | ⟨c, t⟩⟩
  · rw [hd] at hl; simp at hl; omega
  · rw [hd] at hl; simp at hl; omega
  · exact ⟨c0, c, t, rfl, bAt_head (k := 0) hd rfl, bAt_head (k := 1) hd rfl⟩

set_option maxHeartbeats 1000000 in
theorem escaped_any (s : ByteArray) (a : Nat) (w : World) (hs : s.size ≤ maxLen) (ha : a < s.size) {o : Option (List UInt8 × Nat)} (ho : escL (s.data.toList.drop a) = o) :
    Calls Tryd.prog 40 #[.string s, .int .i64 a] w fun e w' => e = .returned (pieceV o) ∧ w = w' := by
  have hs' := hs
  unfold maxLen at hs
  by_cases h1 : a + 1 = s.size
  · have hn : escL (s.data.toList.drop a) = none := by
      have hl := drop_len (s := s) (a := a) rfl
      rcases hd : s.data.toList.drop a with _ | ⟨c0, _ | ⟨c, t⟩⟩
      · rfl
      · rfl
      · rw [hd] at hl; simp at hl; omega
    rw [hn] at ho
    subst ho
    simp only [pieceV]
    have q : ((a : Int) + 1 == (s.size : Int)) = true := by simp; omega
    clear hn hs'
    go_enter Tryd.func40, Tryd.ntmps40
    go_wp2
    go_ret3
    exact ⟨rfl, rfl⟩
  · have h2 : a + 1 < s.size := by omega
    have q : ((a : Int) + 1 == (s.size : Int)) = false := by simp; omega
    obtain ⟨c0, c, t, hd, _, hc⟩ := drop_two h2
    have hby : s[a + 1].toNat = c.toNat := by rw [byteAt_in h2, hc]
    have hX : escL (s.data.toList.drop a) = match letterB c.toNat with
        | some x => some ([UInt8.ofNat x], 2)
        | none => (codedL (s.data.toList.drop a)).map fun p => (encB p.1, p.2) := by rw [hd]; rfl
    rw [hX] at ho
    have hL := fun w => letter_any c.toNat w rfl
    have hC := fun w => coded_any s a w hs' (by omega) rfl
    rw [← hby] at hL ho
    clear hX hd hc hby hs'
    cases hl : letterB s[a + 1].toNat with
    | some x =>
      rw [hl] at ho hL
      subst ho
      have hx := letter_lt hl
      have hE := enc_small x hx
      have hb1 : 0 ≤ (x : Int) := by omega
      have hb2 : (x : Int) ≤ 1114111 := by omega
      simp only [pieceV, letterV] at hL ⊢
      rw [← hE]
      clear hl hC hE
      go_enter Tryd.func40, Tryd.ntmps40
      go_wp2_with fail
      refine (hL _).mono ?_
      rintro e w' ⟨rfl, rfl⟩
      clear hL
      go_wp2
      go_ret3
      exact ⟨rfl, rfl⟩
    | none =>
      rw [hl] at ho hL
      simp only [] at ho
      simp only [letterV] at hL
      clear hl
      cases hcd : codedL (s.data.toList.drop a) with
      | none =>
        rw [hcd] at ho hC
        subst ho
        simp only [codedV, Option.map_none, pieceV] at hC ⊢
        clear hcd
        go_enter Tryd.func40, Tryd.ntmps40
        go_wp2_with fail
        refine (hL _).mono ?_
        rintro e w' ⟨rfl, rfl⟩
        clear hL
        go_wp2_with fail
        refine (hC _).mono ?_
        rintro e w' ⟨rfl, rfl⟩
        clear hC
        go_wp2
        go_ret3
        exact ⟨rfl, rfl⟩
      | some p =>
        obtain ⟨r, n⟩ := p
        obtain ⟨hpt, hb1, hb2⟩ := coded_pt hcd
        rw [hcd] at ho hC
        subst ho
        simp only [codedV, Option.map_some, pieceV] at hC ⊢
        rw [← enc_pt hpt]
        clear hcd hpt
        go_enter Tryd.func40, Tryd.ntmps40
        go_wp2_with fail
        refine (hL _).mono ?_
        rintro e w' ⟨rfl, rfl⟩
        clear hL
        go_wp2_with fail
        refine (hC _).mono ?_
        rintro e w' ⟨rfl, rfl⟩
        clear hC
        go_wp2
        go_ret3
        exact ⟨rfl, rfl⟩

end Go.Proofs.YtnlpdpbmmpeiaaaDoor
