/- Components read from a text (package version), in any world. -/
import Derived.Test.YtecgjbddcmpggaaDoorVr
namespace Go.Proofs.YtecgjbddcmpggaaDoor
open Go.RowKit Go.Shelf

/-! ### rows of items -/
theorem itInfo : (Tryd.prog.info? 57).map (fun i => (i.zero, i.size, i.bytes)) = some (some (.agg #[.int .i64 0, .string ByteArray.empty]), 2, 24) := by kernel_rfl
def itc (x : It) : List Value := [.int .i64 x.1, .string (bs x.2)]
def cvs : Co → List Value
  | [] => []
  | x :: c => itc x ++ cvs c
theorem cvs_append (c d : Co) : cvs (c ++ d) = cvs c ++ cvs d := by
  induction c with
  | nil => rfl
  | cons x c ih => show itc x ++ cvs (c ++ d) = itc x ++ cvs c ++ cvs d; rw [ih, List.append_assoc]
theorem cvs_len (c : Co) : (cvs c).length = c.length * 2 := by
  induction c with
  | nil => rfl
  | cons x c ih => show (itc x ++ cvs c).length = _; rw [List.length_append, ih]; simp [itc]; omega
theorem cvs_at : ∀ (c : Co) (j : Nat), j < c.length → (cvs c)[j * 2]? = some (.int .i64 (c.getD j zI).1) ∧ (cvs c)[j * 2 + 1]? = some (.string (bs (c.getD j zI).2))
  | x :: c, 0, _ => ⟨rfl, rfl⟩
  | x :: c, j + 1, h => by
    have := cvs_at c j (by simpa using h)
    have e : ∀ k, (cvs (x :: c))[(j + 1) * 2 + k]? = (cvs c)[j * 2 + k]? := fun k => by
      show (itc x ++ cvs c)[(j + 1) * 2 + k]? = _
      rw [List.getElem?_append_right (by simp [itc]; omega)]
      congr 1
      simp [itc]; omega
    exact ⟨(e 0).trans this.1, (e 1).trans this.2⟩
theorem own_co {w : World} {B : Nat} {v : Value} {c : Co} (h : w.ownsRow B 57 2 v c.length (cvs c)) : CoAt w v c := by
  rcases h.2 with ⟨rfl, h0⟩ | ⟨g, cap, cur, rfl, hb, hg, hn, hc, hs2, ht⟩
  · have : c = [] := List.eq_nil_of_length_eq_zero h0
    subst this
    exact CoAt.nil w
  · refine ⟨_, cap, rfl, hn, hc, ?_⟩
    by_cases h0 : c = []
    · exact .inl h0
    · refine .inr ⟨g, 0, rfl, fun j hj => ?_⟩
      have h1 := (cvs_at c j hj).1
      have h2 := (cvs_at c j hj).2
      rw [Nat.zero_add]
      exact ⟨by rw [h.cellAt _ (by omega), h1], by rw [h.cellAt _ (by omega), h2]⟩

theorem app48 (s : ByteArray) : ((⟨#[48]⟩ : ByteArray) ++ s).data.toList = 48 :: s.data.toList := by
  rw [ByteArray.data_append, Array.toList_append]; rfl
theorem app48_size (s : ByteArray) : ((⟨#[48]⟩ : ByteArray) ++ s).size = s.size + 1 := by
  rw [← size_list, app48, List.length_cons, size_list]
theorem own_below {w w' : World} {B : Nat} {T n m : Nat} {v : Value} {xs : List Value} (h : w.ownsRow B T m v n xs) (hb : Below w.heap.size w w') : w'.ownsRow B T m v n xs := by
  refine ⟨h.1, ?_⟩
  rcases h.2 with hn | ⟨g, cap, cur, rfl, hg, hh, rest⟩
  · exact .inl hn
  · exact .inr ⟨g, cap, cur, rfl, hg, (hb.block g (Array.getElem?_eq_some_iff.1 hh).1).trans hh, rest⟩

/-- a component whose block, if it has one, is a row of items -/
def CoB (w : World) (v : Value) (c : Co) : Prop := CoAt w v c ∧ ∀ b, v.ownBlock = some b → ∃ cur, w.heap[b]? = some (.cells cur 57 (0, 0))
theorem CoB.below {w w' : World} {v : Value} {c : Co} (h : CoB w v c) (hb : Below w.heap.size w w') : CoB w' v c :=
  ⟨h.1.below hb, fun b e => by
    obtain ⟨cur, h2⟩ := h.2 b e
    exact ⟨cur, (hb.block b (Array.getElem?_eq_some_iff.1 h2).1).trans h2⟩⟩
theorem own_cob {w : World} {B : Nat} {v : Value} {c : Co} (h : w.ownsRow B 57 2 v c.length (cvs c)) : CoB w v c := by
  refine ⟨own_co h, fun b e => ?_⟩
  rcases h.2 with ⟨rfl, h0⟩ | ⟨g, cap, cur, rfl, hb, hg, _⟩
  · cases e
  · simp [Value.ownBlock] at e
    subst e
    exact ⟨cur, hg⟩
/-- what readComponent answers -/
def CompPost (w : World) (l : List UInt8) (e : Ending) (w' : World) : Prop :=
  (∃ v b, e = .returned (.tuple #[v, .bool b]) ∧ ((b = true ∧ ∃ c, compL l = some c ∧ CoB w' v c) ∨ (b = false ∧ compL l = none ∧ v = .slice none 0 0))) ∧ Below w.heap.size w w'

set_option maxRecDepth 100000 in
set_option maxHeartbeats 4000000 in
/-- the loop: what is left of the text, what was read -/
theorem comp_loop (s : ByteArray) (w : World) (hs : s.size ≤ 100000) (hne : 0 < s.size) (hT : (itemsL (if 0 < pre ltB s.data.toList then 48 :: s.data.toList else s.data.toList)) = compL s.data.toList) :
    Calls Tryd.prog 49 #[.string s] w (CompPost w s.data.toList) := by
  obtain ⟨i0, hi, hz0, hz1, hz2⟩ := info_parts itInfo
  have q := fun w => letters_any s w (by unfold maxLen; omega)
  have hl := ne_list (s := s) hne
  have hb := ne_listB (s := s) hne
  have HT := Lib.hid hT
  clear hT
  obtain ⟨X, HX⟩ : ∃ X, Hid (compL s.data.toList = X) := ⟨_, rfl⟩
  have HP : Hid (∀ e w', (∃ v b, e = .returned (.tuple #[v, .bool b]) ∧ ((b = true ∧ ∃ c, X = some c ∧ CoB w' v c) ∨ (b = false ∧ X = none ∧ v = .slice none 0 0))) ∧ Below w.heap.size w w' → CompPost w s.data.toList e w') := fun e w' h => by
    unfold CompPost; rw [HX.out]; exact h
  by_cases hp : 0 < pre ltB s.data.toList
  all_goals
    have HT2 := HT.out
    first | rw [if_pos hp] at HT2 | rw [if_neg hp] at HT2
    rw [HX.out] at HT2
    have HT3 := Lib.hid HT2
    clear HT2 HT
    generalize pre ltB s.data.toList = m at *
    go_enter Tryd.func49, Tryd.ntmps49
    go_wp2_with (go_at_call 56; refine (q _).mono ?_; rintro e w' ⟨rfl, rfl⟩)
    all_goals (try (exfalso; omega))
    go_loopw [0, 4, 5, 6, 7] (fun t v _ _ _ wr => ∃ (u : ByteArray) (c : Co), t = .string u ∧ u.size ≤ 100001 ∧ c.length + u.size ≤ 100001 ∧ Below w.heap.size w wr ∧ wr.ownsRow w.heap.size 57 2 v c.length (cvs c) ∧ Hid ((itemsL u.data.toList).map (c ++ ·) = X)) (fun t _ _ _ _ _ => match t with | .string u => u.size | _ => 0)
    case atStart =>
      first
      | exact ⟨⟨#[48]⟩ ++ s, [], rfl, by rw [app48_size]; omega, by rw [app48_size]; simp; omega, Below.refl _ _, World.ownsRow_nil _ _ _ _, by show _ = _; rw [app48, ← HT3.out]; simp⟩
      | exact ⟨s, [], rfl, by omega, by simp; omega, Below.refl _ _, World.ownsRow_nil _ _ _ _, by show _ = _; rw [← HT3.out]; simp⟩
    case round =>
      obtain ⟨u, c, rfl, hu, hcu, HB, hown, HR⟩ := hrel
      have hsz := HB.size
      have HBB := Lib.hid HB
      clear hl hb q hne
      by_cases h0 : u.size = 0
      · have hl := nil_list h0
        have hb := nil_listB h0
        have hco := own_cob hown
        have HF : Hid (∃ c, X = some c ∧ CoB wr u4 c) := ⟨c, by
          have h1 := HR.out
          have h2 : u.data.toList = [] := List.eq_nil_of_length_eq_zero (by rw [size_list]; exact h0)
          rw [h2, itemsL_nil] at h1
          simpa using h1.symm, hco⟩
        clear hown HB hco
        go_wp2
        go_ret2
        exact HP.out _ _ ⟨⟨_, _, rfl, .inl ⟨rfl, HF.out⟩⟩, HBB.out⟩
      · have hl := ne_list (s := u) (by omega)
        have hb := ne_listB (s := u) (by omega)
        have qi := fun w => item_any u w (by omega)
        have HI : Hid (itemsL u.data.toList = (itemR u.data.toList).bind fun p => (itemsL (u.data.toList.drop p.2)).map (p.1 :: ·)) := itemsL_item (fun e => h0 (by rw [← size_list, e]; rfl))
        have HO := Lib.hid hown
        clear HB hown
        go_wp2_with fail
        refine (qi _).mono ?_
        rintro e w2 ⟨⟨x, k, b, rfl, hx⟩, h2⟩
        have HB2 := Lib.hid (HBB.out.trans (h2.mono hsz))
        have hown2 := own_below HO.out h2
        have hsz2 := h2.size
        clear qi h2
        rcases hx with ⟨rfl, hx⟩ | ⟨rfl, hx⟩
        · obtain ⟨hk0, hk1⟩ := itemR_some hx
          rw [size_list] at hk1
          have HR2 : Hid ((itemsL (u.extract k u.size).data.toList).map ((c ++ [x]) ++ ·) = X) := by
            have h1 := HR.out
            rw [HI.out, hx] at h1
            show _ = _
            rw [ext_drop, ← h1]
            simp only [Option.bind_some, Option.map_map]
            congr 1
            funext l
            simp
          have hlt2 := hown2.lt
          have HLT := Lib.hid hlt2
          clear hx HI HR hlt2
          unfold itv
          go_wp2_with (at_builtin; refine wpList_append_own _ rfl _ _ 51 rfl w.heap.size 57 i0 (.agg #[.int .i64 0, .string ByteArray.empty]) 2 24 Tryd.underlying51 hi hz0 hz1 hz2 rfl (by decide) _ _ _ rfl ((hown2.alloc _).alloc _) ⟨w2.heap.size + 1, 0, none⟩ 1 1 (itc x) (by rfl) (by rfl) ?c1 ?c2 ?c3 ?c4 ?c5 ?_)
          case c1 =>
            intro j y hy
            have e1 : ((w2.alloc (.cells #[.int .i64 x.1, .string (bs x.2)] 57)).heap.size) = w2.heap.size + 1 := by simp
            have h1 := cell_of_row _ (w2.heap.size + 1) j _ 57 (0, 0) (by rw [← e1]; exact heap_alloc_new (w2.alloc (.cells #[.int .i64 x.1, .string (bs x.2)] 57)) (.cells #[.int .i64 x.1, .string (bs x.2)] 57))
            rw [add_none, Nat.zero_add, h1]
            simpa [itc] using hy
          case c2 => intro y hy; simp [itc] at hy; rcases hy with rfl | rfl <;> rfl
          case c3 => unfold maxLen; omega
          case c4 => omega
          case c5 => simp; omega
          intro v' w3 hown3 hg3 _
          have HB3 := Lib.hid (((HB2.out.alloc (HB2.out.size) _).alloc (by have := HB2.out.size; simp; omega) _).grown hg3 (by have := HB2.out.size; simp; omega) (fun g hg' => (HLT.out g hg').1))
          have HC : Hid (cvs c ++ itc x = cvs (c ++ [x])) := by show _ = _; rw [cvs_append]; simp [cvs]
          rw [HC.out] at hown3
          have HO3 : Hid (w3.ownsRow w.heap.size 57 2 v' (c ++ [x]).length (cvs (c ++ [x]))) := by
            show w3.ownsRow _ _ _ _ _ _
            rw [List.length_append, List.length_singleton]; exact hown3
          clear hown3 hg3 hown2 HC HB2 HBB HO
          go_wp2
          go_roundw
          case rel => exact ⟨u.extract k u.size, c ++ [x], rfl, by rw [ext_size]; omega, by rw [ext_size]; simp; omega, HB3.out, HO3.out, HR2⟩
          case measure => simp only [ext_size]; omega
        · have HN : Hid (X = none) := by
            have h1 := HR.out
            rw [HI.out, hx] at h1
            exact h1.symm
          clear hx HI HR hown2 HO
          unfold itv
          go_wp2
          go_ret2
          exact HP.out _ _ ⟨⟨_, _, rfl, .inr ⟨rfl, HN.out, rfl⟩⟩, HB2.out.alloc HB2.out.size _⟩

theorem comp_any (s : ByteArray) (w : World) (hs : s.size ≤ 100000) : Calls Tryd.prog 49 #[.string s] w (CompPost w s.data.toList) := by
  by_cases h0 : s.size = 0
  · have hl := nil_list h0
    have hb := nil_listB h0
    have HP : Hid (CompPost w s.data.toList (.returned (.tuple #[.slice none 0 0, .bool false])) w) := by
      have h2 : s.data.toList = [] := List.eq_nil_of_length_eq_zero (by rw [size_list]; exact h0)
      rw [h2]
      exact ⟨⟨_, _, rfl, .inr ⟨rfl, rfl, rfl⟩⟩, Below.refl _ _⟩
    go_enter Tryd.func49, Tryd.ntmps49
    go_wp2
    go_ret2
    exact HP.out
  · refine comp_loop s w hs (by omega) ?_
    cases hl : s.data.toList with
    | nil => exact absurd (by rw [← size_list, hl]; rfl) h0
    | cons c r =>
      by_cases hc : ltB c = true
      · rw [if_pos (by rw [pre_cons, if_pos hc]; omega), compL_nought r hc]
      · rw [Bool.not_eq_true] at hc
        rw [if_neg (by rw [pre_cons, if_neg (by rw [hc]; simp)]; omega), compL_dg r hc]

end Go.Proofs.YtecgjbddcmpggaaDoor
