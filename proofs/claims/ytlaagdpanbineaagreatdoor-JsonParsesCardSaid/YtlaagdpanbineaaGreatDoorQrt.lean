/- The document's Take: what each call returns. -/
import Derived.Test.YtlaagdpanbineaaGreatDoorQb
import Derived.Test.YtlaagdpanbineaaGreatDoorQa
import Derived.Lib.Hide
namespace Go.Proofs.YtlaagdpanbineaaGreatDoor
open Go.RowKit

def rhexV : Option Nat → Int
  | some v => v
  | none => -1
theorem rhex_any (s : ByteArray) (a : Nat) (w : World) (hs : s.size ≤ maxLen) {o : Option Nat} (ho : hexL (s.data.toList.drop a) = o) :
    Calls Tryz.prog 72 #[.string s, .int .i64 a] w fun e w' => e = .returned (.int .i64 (rhexV o)) ∧ w = w' := by
  rw [hexL_drop] at ho
  by_cases h : a + 4 ≤ s.size
  · rw [if_pos h] at ho
    cases o with
    | none => exact refhex_no s a w hs h ho
    | some v => exact refhex_yes s a v w hs h ho
  · rw [if_neg h] at ho
    subst ho
    exact refhex_out s a w hs (by omega)

def takeRV : Option (List UInt8 × Nat) → Value
  | some p => .tuple #[.string ⟨p.1.toArray⟩, .int .i64 p.2]
  | none => .tuple #[.string ⟨#[]⟩, .int .i64 0]

set_option maxRecDepth 100000 in
set_option maxHeartbeats 1000000 in
theorem rtake_out (s : ByteArray) (x : Int) (w : World) (_hs : s.size ≤ maxLen) (hx : x < 0 ∨ s.size ≤ x) :
    Calls Tryz.prog 55 #[.string s, .int .i64 x] w fun e w' => e = .returned (takeRV none) ∧ w = w' := by
  unfold maxLen at _hs
  simp only [takeRV]
  by_cases h : x < 0
  · clear hx
    go_enter Tryz.func55, Tryz.ntmps55
    go_wp2
    go_ret2
    exact ⟨rfl, rfl⟩
  · have h2 : (s.size : Int) ≤ x := by omega
    clear hx
    go_enter Tryz.func55, Tryz.ntmps55
    go_wp2
    go_ret2
    exact ⟨rfl, rfl⟩

set_option maxRecDepth 100000 in
set_option maxHeartbeats 1000000 in
theorem rtake_not (s : ByteArray) (i : Nat) (w : World) (_hs : s.size ≤ maxLen) (hi : i < s.size) (h34 : byteAt s i ≠ 34) :
    Calls Tryz.prog 55 #[.string s, .int .i64 i] w fun e w' => e = .returned (takeRV none) ∧ w = w' := by
  unfold maxLen at _hs
  have hby := byteAt_in hi
  have q : ((s[i].toNat : Int) != 34) = true := by rw [hby]; simp; omega
  simp only [takeRV]
  clear hby h34
  go_enter Tryz.func55, Tryz.ntmps55
  go_wp2
  go_ret2
  exact ⟨rfl, rfl⟩

theorem str_list (x : List UInt8) (t : ByteArray) (h : t.data.toList = x) (O : ByteArray) : (O ++ t).data.toList = O.data.toList ++ x := by rw [app_list, h]
theorem app_size (s t : ByteArray) : (s ++ t).size = s.size + t.size := ByteArray.size_append
theorem code_bd (s : ByteArray) (a : Nat) : (codeD s a).1 < 2097152 ∧ (codeD s a).2 ≤ 4 := by
  have := decode_bd s a
  by_cases h : (codeD s a).2 = 0
  · have h2 := codeD_zero.2 h
    unfold codeD
    rw [if_pos h2]; omega
  · rw [codeD_eq h]; omega
theorem code_fit {s : ByteArray} {a : Nat} (ha : a < s.size) (h : (codeD s a).2 ≠ 0) : a + (codeD s a).2 ≤ s.size := by
  rw [codeD_drop] at h ⊢
  have hl := drop_len (s := s) (a := a) rfl
  have hne : s.data.toList.drop a ≠ [] := by intro e; rw [e] at hl; simp at hl; omega
  obtain ⟨_, h2, h3⟩ := plain_some hne (r := (plainL (s.data.toList.drop a)).1) (n := (plainL (s.data.toList.drop a)).2) rfl h
  have := congrArg List.length h2
  rw [List.length_append, ← h3, List.length_drop, List.length_drop, size_list] at this
  omega

set_option maxRecDepth 100000 in
set_option maxHeartbeats 16000000 in
theorem rtake_in (s : ByteArray) (n : Nat) (w : World) (hs : s.size ≤ 200000) (hn : n < s.size) (h34 : byteAt s n = 34) {o : Option (List UInt8 × Nat)} (ho : takeL (s.data.toList.drop n) = o) :
    Calls Tryz.prog 55 #[.string s, .int .i64 n] w fun e w' => e = .returned (takeRV o) ∧ Below w.heap.size w w' := by
  have hsm : s.size ≤ maxLen := by unfold maxLen; omega
  have HO := Lib.hid ho
  have hby := byteAt_in hn
  have q : ((s[n].toNat : Int) != 34) = false := by rw [hby, h34]; rfl
  have HT0 := Lib.hid (Tk.start hn h34)
  have d1 : decide ((n : Int) < 0) = false := decide_eq_false (by omega)
  have d2 : decide (s.size ≤ n) = false := decide_eq_false (by omega)
  clear ho hby h34
  go_enter Tryz.func55, Tryz.ntmps55
  go_wp2
  go_loopw [6, 7, 8, 9, 10, 11, 77, 89, 93, 97, 101, 105, 109] (fun out i _ _ _ _ _ _ _ _ _ _ _ wr => ∃ (k f : Nat) (O : ByteArray), out = .string O ∧ i = .int .i64 k ∧ k ≤ s.size ∧ O.size ≤ k ∧ Hid (Tk s n k f O.data.toList) ∧ Below w.heap.size w wr) (fun _ i _ _ _ _ _ _ _ _ _ _ _ _ => s.size - (intOf i).toNat)
  case atStart => exact ⟨n + 1, _, ⟨#[]⟩, rfl, by go_num, by omega, Nat.zero_le _, HT0, Below.refl _ _⟩
  case round =>
    obtain ⟨k, f, O, rfl, rfl, hk, hO, HT, HB⟩ := hrel
    have hpos : n < k := HT.out.pos
    have hBs := HB.size
    by_cases hlt : k < s.size
    · have hby := byteAt_in hlt
      by_cases hq : byteAt s k = 34
      · have q1 : ((s[k].toNat : Int) == 34) = true := by rw [hby, hq]; rfl
        have HR : Hid (o = some (O.data.toList, k + 1 - n)) := HO.out.symm.trans (HT.out.mark hlt hq)
        clear hby hq
        go_wp2
        go_ret2
        refine ⟨?_, HB⟩
        rw [HR.out]
        simp only [takeRV]
        have : ((k + 1 - n : Nat) : Int) = (k : Int) + 1 - n := by omega
        rw [this, ba_of]
        rfl
      · have q1 : ((s[k].toNat : Int) == 34) = false := by rw [hby]; simp; omega
        by_cases h92 : byteAt s k = 92
        · have q2 : ((s[k].toNat : Int) != 92) = false := by rw [hby, h92]; rfl
          by_cases hend : k + 1 = s.size
          · have HR : Hid (o = none) := HO.out.symm.trans (HT.out.bad hlt hq (piece_end hend h92))
            have q3 : ((k : Int) + 1 == (s.size : Int)) = true := by simp; omega
            clear hby hq h92
            go_wp2
            go_ret2
            exact ⟨by rw [HR.out]; rfl, HB⟩
          · have hlt1 : k + 1 < s.size := by omega
            have q3 : ((k : Int) + 1 == (s.size : Int)) = false := by simp; omega
            have hE := piece_esc hlt1 h92
            have hby1 := byteAt_in hlt1
            have H92 := Lib.hid h92
            have HQ := Lib.hid hq
            clear hby h92 hq
            cases hl : letterB (byteAt s (k + 1)) with
            | some x =>
              rw [hl] at hE
              simp only [] at hE
              have HT2 := Lib.hid (HT.out.step hlt HQ.out hE)
              clear hE
              rcases letter_cases hl with ⟨hc, rfl⟩ | ⟨hc, rfl⟩ | ⟨hc, rfl⟩ | ⟨hc, rfl⟩ | ⟨hc, rfl⟩ | ⟨hc, rfl⟩ | ⟨hc, rfl⟩ | ⟨hc, rfl⟩
              · clear hl
                have hx : (s.extract (k + 1) (k + 2)).data.toList = [UInt8.ofNat 34] := by
                  rw [show k + 2 = (k + 1) + 1 from rfl, cut_list]
                  obtain ⟨c, t, hd, e0, _⟩ := drop_one hlt1
                  rw [hd]
                  show [c] = _
                  rw [← e0.symm.trans hc]
                  simp
                have hxs : (s.extract (k + 1) (k + 2)).size = 1 := by rw [← size_list, hx]; rfl
                rw [← str_list _ _ hx O] at HT2
                have t34 : ((s[k + 1].toNat : Int) == 34) = true := by rw [hby1, hc]; rfl
                have hos := app_size O (s.extract (k + 1) (k + 2))
                rw [hxs] at hos
                clear hx hby1 hc
                go_wp2
                go_roundw
                case rel => exact ⟨k + 2, _, _, rfl, by go_num, by omega, by omega, HT2, HB⟩
                case measure => simp [intOf]; omega
              · clear hl
                have hx : (s.extract (k + 1) (k + 2)).data.toList = [UInt8.ofNat 92] := by
                  rw [show k + 2 = (k + 1) + 1 from rfl, cut_list]
                  obtain ⟨c, t, hd, e0, _⟩ := drop_one hlt1
                  rw [hd]
                  show [c] = _
                  rw [← e0.symm.trans hc]
                  simp
                have hxs : (s.extract (k + 1) (k + 2)).size = 1 := by rw [← size_list, hx]; rfl
                rw [← str_list _ _ hx O] at HT2
                have t34 : ((s[k + 1].toNat : Int) == 34) = false := by rw [hby1]; simp; omega
                have t92 : ((s[k + 1].toNat : Int) == 92) = true := by rw [hby1, hc]; rfl
                have hos := app_size O (s.extract (k + 1) (k + 2))
                rw [hxs] at hos
                clear hx hby1 hc
                go_wp2
                go_roundw
                case rel => exact ⟨k + 2, _, _, rfl, by go_num, by omega, by omega, HT2, HB⟩
                case measure => simp [intOf]; omega
              · clear hl
                have hx : (s.extract (k + 1) (k + 2)).data.toList = [UInt8.ofNat 47] := by
                  rw [show k + 2 = (k + 1) + 1 from rfl, cut_list]
                  obtain ⟨c, t, hd, e0, _⟩ := drop_one hlt1
                  rw [hd]
                  show [c] = _
                  rw [← e0.symm.trans hc]
                  simp
                have hxs : (s.extract (k + 1) (k + 2)).size = 1 := by rw [← size_list, hx]; rfl
                rw [← str_list _ _ hx O] at HT2
                have t34 : ((s[k + 1].toNat : Int) == 34) = false := by rw [hby1]; simp; omega
                have t92 : ((s[k + 1].toNat : Int) == 92) = false := by rw [hby1]; simp; omega
                have t47 : ((s[k + 1].toNat : Int) == 47) = true := by rw [hby1, hc]; rfl
                have hos := app_size O (s.extract (k + 1) (k + 2))
                rw [hxs] at hos
                clear hx hby1 hc
                go_wp2
                go_roundw
                case rel => exact ⟨k + 2, _, _, rfl, by go_num, by omega, by omega, HT2, HB⟩
                case measure => simp [intOf]; omega
              · clear hl
                have hx : (⟨#[8]⟩ : ByteArray).data.toList = [UInt8.ofNat 8] := rfl
                have hxs : (⟨#[8]⟩ : ByteArray).size = 1 := rfl
                rw [← str_list _ _ hx O] at HT2
                have t34 : ((s[k + 1].toNat : Int) == 34) = false := by rw [hby1]; simp; omega
                have t92 : ((s[k + 1].toNat : Int) == 92) = false := by rw [hby1]; simp; omega
                have t47 : ((s[k + 1].toNat : Int) == 47) = false := by rw [hby1]; simp; omega
                have t98 : ((s[k + 1].toNat : Int) == 98) = true := by rw [hby1, hc]; rfl
                have hos := app_size O ⟨#[8]⟩
                rw [hxs] at hos
                clear hx hby1 hc
                go_wp2
                go_roundw
                case rel => exact ⟨k + 2, _, _, rfl, by go_num, by omega, by omega, HT2, HB⟩
                case measure => simp [intOf]; omega
              · clear hl
                have hx : (⟨#[12]⟩ : ByteArray).data.toList = [UInt8.ofNat 12] := rfl
                have hxs : (⟨#[12]⟩ : ByteArray).size = 1 := rfl
                rw [← str_list _ _ hx O] at HT2
                have t34 : ((s[k + 1].toNat : Int) == 34) = false := by rw [hby1]; simp; omega
                have t92 : ((s[k + 1].toNat : Int) == 92) = false := by rw [hby1]; simp; omega
                have t47 : ((s[k + 1].toNat : Int) == 47) = false := by rw [hby1]; simp; omega
                have t98 : ((s[k + 1].toNat : Int) == 98) = false := by rw [hby1]; simp; omega
                have t102 : ((s[k + 1].toNat : Int) == 102) = true := by rw [hby1, hc]; rfl
                have hos := app_size O ⟨#[12]⟩
                rw [hxs] at hos
                clear hx hby1 hc
                go_wp2
                go_roundw
                case rel => exact ⟨k + 2, _, _, rfl, by go_num, by omega, by omega, HT2, HB⟩
                case measure => simp [intOf]; omega
              · clear hl
                have hx : (⟨#[10]⟩ : ByteArray).data.toList = [UInt8.ofNat 10] := rfl
                have hxs : (⟨#[10]⟩ : ByteArray).size = 1 := rfl
                rw [← str_list _ _ hx O] at HT2
                have t34 : ((s[k + 1].toNat : Int) == 34) = false := by rw [hby1]; simp; omega
                have t92 : ((s[k + 1].toNat : Int) == 92) = false := by rw [hby1]; simp; omega
                have t47 : ((s[k + 1].toNat : Int) == 47) = false := by rw [hby1]; simp; omega
                have t98 : ((s[k + 1].toNat : Int) == 98) = false := by rw [hby1]; simp; omega
                have t102 : ((s[k + 1].toNat : Int) == 102) = false := by rw [hby1]; simp; omega
                have t110 : ((s[k + 1].toNat : Int) == 110) = true := by rw [hby1, hc]; rfl
                have hos := app_size O ⟨#[10]⟩
                rw [hxs] at hos
                clear hx hby1 hc
                go_wp2
                go_roundw
                case rel => exact ⟨k + 2, _, _, rfl, by go_num, by omega, by omega, HT2, HB⟩
                case measure => simp [intOf]; omega
              · clear hl
                have hx : (⟨#[13]⟩ : ByteArray).data.toList = [UInt8.ofNat 13] := rfl
                have hxs : (⟨#[13]⟩ : ByteArray).size = 1 := rfl
                rw [← str_list _ _ hx O] at HT2
                have t34 : ((s[k + 1].toNat : Int) == 34) = false := by rw [hby1]; simp; omega
                have t92 : ((s[k + 1].toNat : Int) == 92) = false := by rw [hby1]; simp; omega
                have t47 : ((s[k + 1].toNat : Int) == 47) = false := by rw [hby1]; simp; omega
                have t98 : ((s[k + 1].toNat : Int) == 98) = false := by rw [hby1]; simp; omega
                have t102 : ((s[k + 1].toNat : Int) == 102) = false := by rw [hby1]; simp; omega
                have t110 : ((s[k + 1].toNat : Int) == 110) = false := by rw [hby1]; simp; omega
                have t114 : ((s[k + 1].toNat : Int) == 114) = true := by rw [hby1, hc]; rfl
                have hos := app_size O ⟨#[13]⟩
                rw [hxs] at hos
                clear hx hby1 hc
                go_wp2
                go_roundw
                case rel => exact ⟨k + 2, _, _, rfl, by go_num, by omega, by omega, HT2, HB⟩
                case measure => simp [intOf]; omega
              · clear hl
                have hx : (⟨#[9]⟩ : ByteArray).data.toList = [UInt8.ofNat 9] := rfl
                have hxs : (⟨#[9]⟩ : ByteArray).size = 1 := rfl
                rw [← str_list _ _ hx O] at HT2
                have t34 : ((s[k + 1].toNat : Int) == 34) = false := by rw [hby1]; simp; omega
                have t92 : ((s[k + 1].toNat : Int) == 92) = false := by rw [hby1]; simp; omega
                have t47 : ((s[k + 1].toNat : Int) == 47) = false := by rw [hby1]; simp; omega
                have t98 : ((s[k + 1].toNat : Int) == 98) = false := by rw [hby1]; simp; omega
                have t102 : ((s[k + 1].toNat : Int) == 102) = false := by rw [hby1]; simp; omega
                have t110 : ((s[k + 1].toNat : Int) == 110) = false := by rw [hby1]; simp; omega
                have t114 : ((s[k + 1].toNat : Int) == 114) = false := by rw [hby1]; simp; omega
                have t116 : ((s[k + 1].toNat : Int) == 116) = true := by rw [hby1, hc]; rfl
                have hos := app_size O ⟨#[9]⟩
                rw [hxs] at hos
                clear hx hby1 hc
                go_wp2
                go_roundw
                case rel => exact ⟨k + 2, _, _, rfl, by go_num, by omega, by omega, HT2, HB⟩
                case measure => simp [intOf]; omega
            | none =>
              rw [hl] at hE
              simp only [] at hE
              obtain ⟨n1, n2, n3, n4, n5, n6, n7, n8⟩ := letter_none hl
              have t34 : ((s[k + 1].toNat : Int) == 34) = false := by rw [hby1]; simp; omega
              have t92 : ((s[k + 1].toNat : Int) == 92) = false := by rw [hby1]; simp; omega
              have t47 : ((s[k + 1].toNat : Int) == 47) = false := by rw [hby1]; simp; omega
              have t98 : ((s[k + 1].toNat : Int) == 98) = false := by rw [hby1]; simp; omega
              have t102 : ((s[k + 1].toNat : Int) == 102) = false := by rw [hby1]; simp; omega
              have t110 : ((s[k + 1].toNat : Int) == 110) = false := by rw [hby1]; simp; omega
              have t114 : ((s[k + 1].toNat : Int) == 114) = false := by rw [hby1]; simp; omega
              have t116 : ((s[k + 1].toNat : Int) == 116) = false := by rw [hby1]; simp; omega
              clear hl n1 n2 n3 n4 n5 n6 n7 n8
              by_cases hu : byteAt s (k + 1) = 117
              · have t117 : ((s[k + 1].toNat : Int) == 117) = true := by rw [hby1, hu]; rfl
                have hU : unitL (s.data.toList.drop k) = hexL (s.data.toList.drop (k + 2)) := by rw [unitL_at, if_pos ⟨hlt1, H92.out, hu⟩]
                have hX := fun w => rhex_any s (k + 2) w hsm rfl
                have hc2 : ((k + 2 : Nat) : Int) = (k : Int) + 2 := by omega
                rw [hc2] at hX
                clear hby1 hu hc2
                unfold codedL at hE
                cases h1 : hexL (s.data.toList.drop (k + 2)) with
                | none =>
                  rw [hU, h1] at hE
                  rw [h1] at hX
                  simp only [rhexV] at hX
                  have HR : Hid (o = none) := HO.out.symm.trans (HT.out.bad hlt HQ.out hE)
                  clear hE hU h1
                  go_wp2_with fail
                  refine (hX _).mono ?_
                  rintro e w1 ⟨rfl, rfl⟩
                  clear hX
                  go_wp2
                  go_ret2
                  exact ⟨by rw [HR.out]; rfl, HB⟩
                | some v =>
                  rw [hU, h1] at hE
                  rw [h1] at hX
                  simp only [rhexV] at hX hE
                  obtain ⟨hlen, hv⟩ := unit_len (l := s.data.toList.drop k) (v := v) (by rw [hU, h1])
                  rw [List.length_drop, size_list] at hlen
                  clear hU h1
                  by_cases hp : v < 55296 ∨ 57343 < v
                  · rw [if_pos hp] at hE
                    simp only [Option.map_some] at hE
                    have hpt : isPt v := by unfold isPt; omega
                    have HT2 := Lib.hid (HT.out.step hlt HQ.out hE)
                    have hpo := fun w => point_yes v w hpt
                    have hen := fun w => ref_encode_yes v w hpt
                    have hx : (strOfNums (encZ v)).data.toList = encB v := rfl
                    rw [← str_list _ _ hx O] at HT2
                    have hos := app_size O (strOfNums (encZ v))
                    have hz : (strOfNums (encZ v)).size ≤ 4 := by rw [strOfNums_size]; exact encZ_four _
                    clear hE hx hpt hp
                    generalize strOfNums (encZ v) = t at *
                    go_wp2_with fail
                    refine (hX _).mono ?_
                    rintro e w1 ⟨rfl, rfl⟩
                    clear hX
                    go_wp2_with (first
                      | (go_at_call 67; refine (hpo _).mono ?_; rintro e w1 ⟨rfl, rfl⟩)
                      | (go_at_call 50; refine (hen _).mono ?_; rintro e w1 ⟨rfl, hb1⟩))
                    go_roundw
                    case rel => exact ⟨k + 6, _, _, rfl, by go_num, by omega, by omega, HT2, HB.trans (hb1.mono hBs)⟩
                    case measure => simp [intOf]; omega
                  · rw [if_neg hp, List.drop_drop, unitL_at] at hE
                    have hpt : ¬ isPt v := by unfold isPt; omega
                    have hpo := fun w => point_no v w hpt
                    have h55 : 55296 ≤ v := by omega
                    obtain ⟨z, hz⟩ : ∃ z : Int, z = (v : Int) := ⟨_, rfl⟩
                    rw [← hz] at hX hpo
                    have z55 : 55296 ≤ z := by omega
                    have z65 : z < 65536 := by omega
                    clear hp hpt
                    by_cases h7 : k + 7 < s.size
                    · have hb6 := byteAt_in (s := s) (i := k + 6) (by omega)
                      have hb7 := byteAt_in (s := s) (i := k + 7) h7
                      by_cases h6 : byteAt s (k + 6) = 92
                      · have q6 : (((s[k + 6]'(by omega)).toNat : Int) != 92) = false := by rw [hb6, h6]; rfl
                        by_cases h8 : byteAt s (k + 7) = 117
                        · have q7 : ((s[k + 7].toNat : Int) != 117) = false := by rw [hb7, h8]; rfl
                          rw [if_pos ⟨by omega, h6, h8⟩] at hE
                          have hY := fun w => rhex_any s (k + 8) w hsm rfl
                          have hc2 : ((k + 8 : Nat) : Int) = (k : Int) + 8 := by omega
                          rw [hc2] at hY
                          clear hb6 hb7 h6 h8 hc2
                          cases h2 : hexL (s.data.toList.drop (k + 6 + 2)) with
                          | none =>
                            rw [h2] at hE
                            rw [show k + 8 = k + 6 + 2 from rfl, h2] at hY
                            simp only [rhexV] at hY
                            have HR : Hid (o = none) := HO.out.symm.trans (HT.out.bad hlt HQ.out hE)
                            clear hE h2
                            clear hz h55 hv
                            by_cases hv2 : z < 56320
                            · go_wp2_with fail
                              refine (hX _).mono ?_
                              rintro e w1 ⟨rfl, rfl⟩
                              clear hX
                              go_wp2_with fail
                              refine (hpo _).mono ?_
                              rintro e w1 ⟨rfl, rfl⟩
                              go_wp2_with fail
                              refine (hY _).mono ?_
                              rintro e w1 ⟨rfl, rfl⟩
                              go_wp2
                              go_ret2
                              exact ⟨by rw [HR.out]; rfl, HB⟩
                            · go_wp2_with fail
                              refine (hX _).mono ?_
                              rintro e w1 ⟨rfl, rfl⟩
                              clear hX
                              go_wp2_with fail
                              refine (hpo _).mono ?_
                              rintro e w1 ⟨rfl, rfl⟩
                              go_wp2_with fail
                              refine (hY _).mono ?_
                              rintro e w1 ⟨rfl, rfl⟩
                              go_wp2
                              go_ret2
                              exact ⟨by rw [HR.out]; rfl, HB⟩
                          | some u =>
                            rw [h2] at hE
                            rw [show k + 8 = k + 6 + 2 from rfl, h2] at hY
                            simp only [rhexV] at hY hE
                            have hu : u < 65536 := by
                              obtain ⟨a, b, c, d, t, _, h4⟩ := hexL_some h2
                              exact hex4_lt h4
                            have h12 : k + 12 ≤ s.size := by
                              obtain ⟨a, b, c, d, t, h4, _⟩ := hexL_some h2
                              have := drop_len h4
                              simp only [List.length_cons] at this
                              omega
                            clear h2
                            obtain ⟨y, hy⟩ : ∃ y : Int, y = (u : Int) := ⟨_, rfl⟩
                            rw [← hy] at hY
                            have y65 : y < 65536 := by omega
                            have y0 : 0 ≤ y := by omega
                            by_cases hj : v < 56320 ∧ 56320 ≤ u ∧ u ≤ 57343
                            · rw [if_pos hj] at hE
                              simp only [Option.map_some] at hE
                              obtain ⟨j1, j2, j3⟩ := hj
                              have hpt := (joinZ_pt h55 j1 j2 j3).1
                              have z1 : z < 56320 := by omega
                              have y1 : 56320 ≤ y := by omega
                              have y2 : y ≤ 57343 := by omega
                              have HT2 := Lib.hid (HT.out.step hlt HQ.out hE)
                              have hen := fun w => ref_encode_yes (joinZ v u) w hpt
                              have hx : (strOfNums (encZ (joinZ v u))).data.toList = encB (joinZ v u) := rfl
                              rw [← str_list _ _ hx O] at HT2
                              have hos := app_size O (strOfNums (encZ (joinZ v u)))
                              have hz4 : (strOfNums (encZ (joinZ v u))).size ≤ 4 := by rw [strOfNums_size]; exact encZ_four _
                              clear hE hx hpt
                              generalize strOfNums (encZ (joinZ v u)) = t at *
                              have hjz : joinZ v u = 65536 + 1024 * (z - 55296) + y - 56320 := by unfold joinZ; omega
                              rw [hjz] at hen
                              clear hjz hy hz j1 j2 j3 h55 hv hu
                              go_wp2_with fail
                              refine (hX _).mono ?_
                              rintro e w1 ⟨rfl, rfl⟩
                              clear hX
                              go_wp2_with fail
                              refine (hpo _).mono ?_
                              rintro e w1 ⟨rfl, rfl⟩
                              go_wp2_with fail
                              refine (hY _).mono ?_
                              rintro e w1 ⟨rfl, rfl⟩
                              go_wp2_with fail
                              refine (hen _).mono ?_
                              rintro e w1 ⟨rfl, hb1⟩
                              clear hen
                              go_wp2
                              go_roundw
                              case rel => exact ⟨k + 12, _, _, rfl, by go_num, by omega, by omega, HT2, HB.trans (hb1.mono hBs)⟩
                              case measure => simp [intOf]; omega
                            · rw [if_neg hj] at hE
                              have HR : Hid (o = none) := HO.out.symm.trans (HT.out.bad hlt HQ.out hE)
                              clear hE
                              by_cases hv2 : z < 56320
                              · by_cases hu2 : y < 56320
                                · clear hj hy hz h55 hv hu
                                  go_wp2_with fail
                                  refine (hX _).mono ?_
                                  rintro e w1 ⟨rfl, rfl⟩
                                  clear hX
                                  go_wp2_with fail
                                  refine (hpo _).mono ?_
                                  rintro e w1 ⟨rfl, rfl⟩
                                  go_wp2_with fail
                                  refine (hY _).mono ?_
                                  rintro e w1 ⟨rfl, rfl⟩
                                  go_wp2
                                  go_ret2
                                  exact ⟨by rw [HR.out]; rfl, HB⟩
                                · have hu3 : 57343 < y := by omega
                                  clear hj hy hz h55 hv hu
                                  go_wp2_with fail
                                  refine (hX _).mono ?_
                                  rintro e w1 ⟨rfl, rfl⟩
                                  clear hX
                                  go_wp2_with fail
                                  refine (hpo _).mono ?_
                                  rintro e w1 ⟨rfl, rfl⟩
                                  go_wp2_with fail
                                  refine (hY _).mono ?_
                                  rintro e w1 ⟨rfl, rfl⟩
                                  go_wp2
                                  go_ret2
                                  exact ⟨by rw [HR.out]; rfl, HB⟩
                              · clear hj hy hz h55 hv hu
                                go_wp2_with fail
                                refine (hX _).mono ?_
                                rintro e w1 ⟨rfl, rfl⟩
                                clear hX
                                go_wp2_with fail
                                refine (hpo _).mono ?_
                                rintro e w1 ⟨rfl, rfl⟩
                                go_wp2_with fail
                                refine (hY _).mono ?_
                                rintro e w1 ⟨rfl, rfl⟩
                                go_wp2
                                go_ret2
                                exact ⟨by rw [HR.out]; rfl, HB⟩
                        · have q7 : ((s[k + 7].toNat : Int) != 117) = true := by rw [hb7]; simp; omega
                          rw [if_neg (fun x => h8 x.2.2)] at hE
                          have HR : Hid (o = none) := HO.out.symm.trans (HT.out.bad hlt HQ.out hE)
                          clear hE hb6 hb7 h6 h8 hz h55 hv
                          go_wp2_with fail
                          refine (hX _).mono ?_
                          rintro e w1 ⟨rfl, rfl⟩
                          clear hX
                          go_wp2_with fail
                          refine (hpo _).mono ?_
                          rintro e w1 ⟨rfl, rfl⟩
                          go_wp2
                          go_ret2
                          exact ⟨by rw [HR.out]; rfl, HB⟩
                      · have q6 : (((s[k + 6]'(by omega)).toNat : Int) != 92) = true := by rw [hb6]; simp; omega
                        rw [if_neg (fun x => h6 x.2.1)] at hE
                        have HR : Hid (o = none) := HO.out.symm.trans (HT.out.bad hlt HQ.out hE)
                        clear hE hb6 hb7 h6 hz h55 hv
                        go_wp2_with fail
                        refine (hX _).mono ?_
                        rintro e w1 ⟨rfl, rfl⟩
                        clear hX
                        go_wp2_with fail
                        refine (hpo _).mono ?_
                        rintro e w1 ⟨rfl, rfl⟩
                        go_wp2
                        go_ret2
                        exact ⟨by rw [HR.out]; rfl, HB⟩
                    · rw [if_neg (fun x => h7 x.1)] at hE
                      have HR : Hid (o = none) := HO.out.symm.trans (HT.out.bad hlt HQ.out hE)
                      have h7' : (s.size : Int) ≤ (k : Int) + 7 := by omega
                      clear hE h7 hz h55 hv
                      go_wp2_with fail
                      refine (hX _).mono ?_
                      rintro e w1 ⟨rfl, rfl⟩
                      clear hX
                      go_wp2_with fail
                      refine (hpo _).mono ?_
                      rintro e w1 ⟨rfl, rfl⟩
                      go_wp2
                      go_ret2
                      exact ⟨by rw [HR.out]; rfl, HB⟩
              · have t117 : ((s[k + 1].toNat : Int) == 117) = false := by rw [hby1]; simp; omega
                rw [coded_not hu] at hE
                have HR : Hid (o = none) := HO.out.symm.trans (HT.out.bad hlt HQ.out hE)
                clear hby1 hu hE
                go_wp2
                go_ret2
                exact ⟨by rw [HR.out]; rfl, HB⟩
        · have q2 : ((s[k].toNat : Int) != 92) = true := by rw [hby]; simp; omega
          have hD := ref_decode s k wr hsm hlt
          have hE := piece_plain hlt h92
          have HQ := Lib.hid hq
          obtain ⟨b1, b2⟩ := code_bd s k
          clear hby h92 hq
          by_cases hn0 : (codeD s k).2 = 0
          · rw [if_pos (.inl hn0)] at hE
            have HR : Hid (o = none) := HO.out.symm.trans (HT.out.bad hlt HQ.out hE)
            rw [hn0] at hD
            clear hE hn0
            go_wp2_with fail
            refine hD.mono ?_
            rintro e w1 ⟨rfl, hb1⟩
            clear hD
            go_wp2
            go_ret2
            exact ⟨by rw [HR.out]; rfl, HB.trans (hb1.mono hBs)⟩
          · have hf := code_fit hlt hn0
            have q4 : (((codeD s k).2 : Int) == 0) = false := by simp; omega
            by_cases hr : (codeD s k).1 < 32
            · rw [if_pos (.inr hr)] at hE
              have HR : Hid (o = none) := HO.out.symm.trans (HT.out.bad hlt HQ.out hE)
              clear hE hn0
              generalize (codeD s k).1 = r at *
              generalize (codeD s k).2 = m at *
              go_wp2_with fail
              refine hD.mono ?_
              rintro e w1 ⟨rfl, hb1⟩
              clear hD
              go_wp2
              go_ret2
              exact ⟨by rw [HR.out]; rfl, HB.trans (hb1.mono hBs)⟩
            · rw [if_neg (by omega)] at hE
              have HT2 := Lib.hid (HT.out.step hlt HQ.out hE)
              have hx := cut_list s k (codeD s k).2
              rw [← str_list _ _ hx O] at HT2
              have hxs : (s.extract k (k + (codeD s k).2)).size = (codeD s k).2 := by rw [ByteArray.size_extract]; omega
              have hos := app_size O (s.extract k (k + (codeD s k).2))
              rw [hxs] at hos
              clear hE hx
              generalize (codeD s k).1 = r at *
              generalize (codeD s k).2 = m at *
              go_wp2_with fail
              refine hD.mono ?_
              rintro e w1 ⟨rfl, hb1⟩
              clear hD
              go_wp2
              go_roundw
              case rel => exact ⟨k + m, _, _, rfl, by go_num, by omega, by omega, HT2, HB.trans (hb1.mono hBs)⟩
              case measure => simp [intOf]; omega
    · have HR : Hid (o = none) := HO.out.symm.trans (HT.out.out hlt)
      go_wp2
      go_ret2
      exact ⟨by rw [HR.out]; rfl, HB⟩

theorem rtake_any (s : ByteArray) (x : Int) (w : World) (hs : s.size ≤ 200000) {o : Option (List UInt8 × Nat)} (ho : takeL (restQ s.data.toList x) = o) :
    Calls Tryz.prog 55 #[.string s, .int .i64 x] w fun e w' => e = .returned (takeRV o) ∧ Below w.heap.size w w' := by
  have hsm : s.size ≤ maxLen := by unfold maxLen; omega
  by_cases hx : x < 0 ∨ s.size ≤ x
  · rw [restQ_out hx] at ho
    subst ho
    exact (rtake_out s x w hsm hx).mono fun _ _ ⟨he, hw⟩ => ⟨he, hw ▸ Below.refl _ _⟩
  · obtain ⟨n, rfl⟩ := Int.eq_ofNat_of_zero_le (by omega : 0 ≤ x)
    have hn : n < s.size := by omega
    rw [restQ_in] at ho
    by_cases h34 : byteAt s n = 34
    · exact rtake_in s n w hs hn h34 ho
    · rw [takeL_not hn h34] at ho
      subst ho
      exact (rtake_not s n w hsm hn h34).mono fun _ _ ⟨he, hw⟩ => ⟨he, hw ▸ Below.refl _ _⟩

end Go.Proofs.YtlaagdpanbineaaGreatDoor

