/- glob.Match: a pattern is matched by going back to the last star alone: it answers what the definition says, in any world. -/
import Derived.Test.YtpkhcelakfdjfaaDoorGb
import Derived.ScopeJumps
import Derived.WalkMore
import Derived.Deep.QuietTactic
import Derived.BigQuiet
import Derived.Outline
namespace Go.Proofs.YtpkhcelakfdjfaaDoor
open Go.RowKit Go.Shelf

/-- the frame at the label -/
def FrM (p s : ByteArray) (vp vi vs vt : Value) (a : Act) : Prop := ∃ (u2 u3 u9 u10 u11 u12 u13 u14 u15 u16 u17 u18 u19 u20 u21 u22 u23 u24 u25 u26 u27 u28 u29 u30 u31 u32 u33 u34 u35 u36 u37 u38 u39 u40 u41 u42 u43 u44 u45 u46 u47 u48 u49 u50 u51 u52 u53 u54 u55 u56 u57 u58 : Value), a = { tmps := #[.string p, .string s, u2, u3, .bool false, vp, vi, vs, vt, u9, u10, u11, u12, u13, u14, u15, u16, u17, u18, u19, u20, u21, u22, u23, u24, u25, u26, u27, u28, u29, u30, u31, u32, u33, u34, u35, u36, u37, u38, u39, u40, u41, u42, u43, u44, u45, u46, u47, u48, u49, u50, u51, u52, u53, u54, u55, u56, u57, u58], defers := [] }
def scopeOf (f : Func) : Code := match f.body with
  | some (.seq _ (.scope c)) => c
  | _ => .skip
noncomputable def afterM : Code := match findLabel (scopeOf Tryd.f11) 0 with
  | some (.seq .skip k) => k
  | _ => .skip
/-- a world that has only drawn since -/
def Dr (w w' : World) : Prop := ∃ n, w' = w.drewN n
theorem Dr.refl (w : World) : Dr w w := ⟨0, rfl⟩
theorem Dr.drewN {w w1 : World} (h : Dr w w1) (n : Nat) : Dr w (w1.drewN n) := by
  obtain ⟨m, rfl⟩ := h
  exact ⟨m + n, by rw [World.drewN_drewN]⟩
/-- what holds at every jump -/
structure JM (p s : ByteArray) (w0 : World) (a : Act) (w : World) : Prop where
  ex : ∃ (q i t : Nat) (st : Int), FrM p s (.int .i64 q) (.int .i64 i) (.int .i64 st) (.int .i64 t) a ∧ GI p.data.toList s.data.toList (mB p.data.toList s.data.toList) q i st t ∧ Dr w0 w
def muM (s : ByteArray) (a : Act) : Nat := s.size - (intOf (a.tmps.getD 8 undef)).toNat
def MPost (p s : ByteArray) (w0 : World) (e : Ending) (w' : World) : Prop := e = .returned (.bool (mB p.data.toList s.data.toList)) ∧ Dr w0 w'
def QM (p s : ByteArray) (w0 : World) : Exit → Act → World → Prop := bodyPost Tryd.prog Tryd.f11 (MPost p s w0)
def JT (p s : ByteArray) (w0 : World) (n : Nat) (a : Act) (w : World) : Prop := JM p s w0 a w ∧ muM s a < n

/-- why the loop ends: the pattern is read, or the next byte is no star, and is not the text's -/
def Stops (p s : ByteArray) (q i : Nat) : Prop := (∀ h : q < p.data.toList.length, p.data.toList[q] ≠ 42) ∧ ∀ hi : i < s.data.toList.length, ∀ h : q < p.data.toList.length, p.data.toList[q] ≠ 42 ∧ p.data.toList[q] ≠ s.data.toList[i]

set_option maxRecDepth 100000 in
set_option maxHeartbeats 8000000 in
theorem passM (p s : ByteArray) (w0 : World) (hp : p.size ≤ 100000) (hs : s.size ≤ 100000) {a : Act} {w : World} {q i t n : Nat} {st : Int} (hF : FrM p s (.int .i64 q) (.int .i64 i) (.int .i64 st) (.int .i64 t) a)
    (hG : GI p.data.toList s.data.toList (mB p.data.toList s.data.toList) q i st t) (hn : s.size - t ≤ n) (hD : Dr w0 w) :
    Code.wp Tryd.prog afterM (Exit.jump 0 (JT p s w0 n) (QM p s w0)) a w := by
  obtain ⟨u2, u3, u9, u10, u11, u12, u13, u14, u15, u16, u17, u18, u19, u20, u21, u22, u23, u24, u25, u26, u27, u28, u29, u30, u31, u32, u33, u34, u35, u36, u37, u38, u39, u40, u41, u42, u43, u44, u45, u46, u47, u48, u49, u50, u51, u52, u53, u54, u55, u56, u57, u58, rfl⟩ := hF
  change Code.wp _ (Code.seq _ _) _ _ _
  have HG := Lib.hid hG
  have HN := Lib.hid hn
  have HD0 := Lib.hid hD
  clear hG hn hD
  generalize hQ : Exit.jump 0 (JT p s w0 n) (QM p s w0) = Q
  have HQ := Lib.hid hQ
  clear hQ
  go_wp2
  go_loopw [5, 6, 7, 8] (fun vq vi vs vt wr => ∃ (q i t' : Nat) (st : Int), vq = .int .i64 q ∧ vi = .int .i64 i ∧ vs = .int .i64 st ∧ vt = .int .i64 t' ∧ q ≤ p.size ∧ i ≤ s.size ∧ Hid (GI p.data.toList s.data.toList (mB p.data.toList s.data.toList) q i st t' ∧ t ≤ t') ∧ Hid (Dr w0 wr)) (fun vq _ _ _ _ => p.size - (intOf vq).toNat)
  case atStart => exact ⟨q, i, t, st, rfl, rfl, rfl, rfl, HG.out.1, HG.out.2.1, ⟨HG.out, Nat.le_refl _⟩, HD0⟩
  case round =>
    clear HG HD0
    obtain ⟨q, i, t', st, rfl, rfl, rfl, rfl, hq, hi, HG, HD⟩ := hrel
    by_cases h1 : q < p.size
    · by_cases h2 : p[q] = 42
      · -- a star
        have g : Hid (GI p.data.toList s.data.toList (mB p.data.toList s.data.toList) (q + 1) i q i ∧ t ≤ i) := ⟨HG.out.1.star h1 h2, by have := HG.out.2; have := HG.out.1.2.2.1; omega⟩
        have e1 : decide (q < p.size) = true := decide_eq_true h1
        have e2 : ((p[q].toNat : Int) == 42) = true := by rw [byte_lit, decide_eq_true h2]
        clear HG h2
        go_wp2
        go_quiet (fail)
        go_wp2
        go_roundw
        case rel => exact ⟨q + 1, i, i, q, by go_num, rfl, rfl, rfl, by omega, hi, g, HD.out.drewN _⟩
        case measure => simp [intOf]; omega
      · have e1 : decide (q < p.size) = true := decide_eq_true h1
        have e2 : ((p[q].toNat : Int) == 42) = false := by rw [byte_lit, decide_eq_false h2]
        by_cases h3 : i < s.size
        · have e3 : decide (i < s.size) = true := decide_eq_true h3
          by_cases h4 : p[q] = s[i]
          · -- the text's byte
            have g : Hid (GI p.data.toList s.data.toList (mB p.data.toList s.data.toList) (q + 1) (i + 1) st t' ∧ t ≤ t') := ⟨HG.out.1.byte h1 h2 h3 h4, HG.out.2⟩
            have e4 : ((p[q].toNat : Int) == (s[i].toNat : Int)) = true := by rw [byte_eq, decide_eq_true h4]
            clear HG h2 h4
            go_wp2
            go_quiet (fail)
            go_wp2
            go_roundw
            case rel => exact ⟨q + 1, i + 1, t', st, by go_num, by go_num, rfl, rfl, by omega, by omega, g, HD.out.drewN _⟩
            case measure => simp [intOf]; omega
          · have e4 : ((p[q].toNat : Int) == (s[i].toNat : Int)) = false := by rw [byte_eq, decide_eq_false h4]
            have hS : Hid (Stops p s q i) := ⟨fun _ => h2, fun _ _ => ⟨h2, h4⟩⟩
            clear h2 h4
            by_cases h5 : i = s.size
            · -- the text is read
              have hR : Hid (mB p.data.toList s.data.toList = ((q : Int) == (p.size : Int))) := by
                have := HG.out.1.done (by rw [size_list]; exact h5) hS.out.1
                rw [size_list] at this
                refine Lib.hid ?_
                rw [this, Bool.eq_iff_iff, decide_eq_true_iff, beq_iff_eq]
                omega
              have e5 : ((i : Int) == (s.size : Int)) = true := by rw [beq_iff_eq]; omega
              clear HG hS h5
              go_wp2
              go_quiet (fail)
              go_wp2
              rw [← HQ.out]
              show QM p s w0 _ _ _
              unfold QM
              go_ret
              exact ⟨ret_bool hR.out.symm, HD.out.drewN _⟩
            · have h6 : i < s.size := by omega
              have e5 : ((i : Int) == (s.size : Int)) = false := by rw [beq_eq_false_iff_ne]; omega
              by_cases h7 : st < 0
              · -- no star so far
                have hR : Hid (mB p.data.toList s.data.toList = false) := HG.out.1.fail h6 (hS.out.2 h6) h7
                have e6 : decide (st < 0) = true := decide_eq_true h7
                clear HG hS h5
                go_wp2
                go_quiet (fail)
                go_wp2
                rw [← HQ.out]
                show QM p s w0 _ _ _
                unfold QM
                go_ret
                exact ⟨ret_bool hR.out.symm, HD.out.drewN _⟩
              · -- the last star takes one more
                obtain ⟨k, hk, hkl, hg⟩ := HG.out.1.more h6 (hS.out.2 h6) (by omega)
                subst hk
                have hkl2 : k < p.size := hkl
                have g : Hid (GI p.data.toList s.data.toList (mB p.data.toList s.data.toList) (k + 1) (t' + 1) k (t' + 1) ∧ t ≤ t' ∧ t' < s.size) := ⟨hg, HG.out.2, by have := HG.out.1.2.2.1; omega⟩
                have h8 : t' < s.size := g.out.2.2
                have e6 : decide ((k : Int) < 0) = false := decide_eq_false (by omega)
                clear HG hS h5 h7 hg hkl
                go_wp2
                go_quiet (fail)
                go_wp2
                go_step3
                rw [← HQ.out]
                refine ⟨rfl, ⟨⟨k + 1, t' + 1, t' + 1, k, ?_, g.out.1, HD.out.drewN _⟩⟩, ?_⟩
                · exact ⟨_, _, _, _, _, _, _, _, _, _, _, _, _, _, _, _, _, _, _, _, _, _, _, _, _, _, _, _, _, _, _, _, _, _, _, _, _, _, _, _, _, _, _, _, _, _, _, _, _, _, _, _, rfl⟩
                · have := HN.out
                  have := g.out
                  simp [muM, intOf]
                  omega
        · have e3 : decide (i < s.size) = false := decide_eq_false h3
          have hS : Hid (Stops p s q i) := ⟨fun _ => h2, fun hi _ => absurd hi h3⟩
          clear h2
          by_cases h5 : i = s.size
          · -- the text is read
            have hR : Hid (mB p.data.toList s.data.toList = ((q : Int) == (p.size : Int))) := by
              have := HG.out.1.done (by rw [size_list]; exact h5) hS.out.1
              rw [size_list] at this
              refine Lib.hid ?_
              rw [this, Bool.eq_iff_iff, decide_eq_true_iff, beq_iff_eq]
              omega
            have e5 : ((i : Int) == (s.size : Int)) = true := by rw [beq_iff_eq]; omega
            clear HG hS h5
            go_wp2
            go_quiet (fail)
            go_wp2
            rw [← HQ.out]
            show QM p s w0 _ _ _
            unfold QM
            go_ret
            exact ⟨ret_bool hR.out.symm, HD.out.drewN _⟩
          · have h6 : i < s.size := by omega
            have e5 : ((i : Int) == (s.size : Int)) = false := by rw [beq_eq_false_iff_ne]; omega
            by_cases h7 : st < 0
            · -- no star so far
              have hR : Hid (mB p.data.toList s.data.toList = false) := HG.out.1.fail h6 (hS.out.2 h6) h7
              have e6 : decide (st < 0) = true := decide_eq_true h7
              clear HG hS h5
              go_wp2
              go_quiet (fail)
              go_wp2
              rw [← HQ.out]
              show QM p s w0 _ _ _
              unfold QM
              go_ret
              exact ⟨ret_bool hR.out.symm, HD.out.drewN _⟩
            · -- the last star takes one more
              obtain ⟨k, hk, hkl, hg⟩ := HG.out.1.more h6 (hS.out.2 h6) (by omega)
              subst hk
              have hkl2 : k < p.size := hkl
              have g : Hid (GI p.data.toList s.data.toList (mB p.data.toList s.data.toList) (k + 1) (t' + 1) k (t' + 1) ∧ t ≤ t' ∧ t' < s.size) := ⟨hg, HG.out.2, by have := HG.out.1.2.2.1; omega⟩
              have h8 : t' < s.size := g.out.2.2
              have e6 : decide ((k : Int) < 0) = false := decide_eq_false (by omega)
              clear HG hS h5 h7 hg hkl
              go_wp2
              go_quiet (fail)
              go_wp2
              go_step3
              rw [← HQ.out]
              refine ⟨rfl, ⟨⟨k + 1, t' + 1, t' + 1, k, ?_, g.out.1, HD.out.drewN _⟩⟩, ?_⟩
              · exact ⟨_, _, _, _, _, _, _, _, _, _, _, _, _, _, _, _, _, _, _, _, _, _, _, _, _, _, _, _, _, _, _, _, _, _, _, _, _, _, _, _, _, _, _, _, _, _, _, _, _, _, _, _, rfl⟩
              · have := HN.out
                have := g.out
                simp [muM, intOf]
                omega
    · have e1 : decide (q < p.size) = false := decide_eq_false h1
      have hS : Hid (Stops p s q i) := ⟨fun h => absurd h h1, fun _ h => absurd h h1⟩
      by_cases h5 : i = s.size
      · -- the text is read
        have hR : Hid (mB p.data.toList s.data.toList = ((q : Int) == (p.size : Int))) := by
          have := HG.out.1.done (by rw [size_list]; exact h5) hS.out.1
          rw [size_list] at this
          refine Lib.hid ?_
          rw [this, Bool.eq_iff_iff, decide_eq_true_iff, beq_iff_eq]
          omega
        have e5 : ((i : Int) == (s.size : Int)) = true := by rw [beq_iff_eq]; omega
        clear HG hS h5
        go_wp2
        go_quiet (fail)
        go_wp2
        rw [← HQ.out]
        show QM p s w0 _ _ _
        unfold QM
        go_ret
        exact ⟨ret_bool hR.out.symm, HD.out.drewN _⟩
      · have h6 : i < s.size := by omega
        have e5 : ((i : Int) == (s.size : Int)) = false := by rw [beq_eq_false_iff_ne]; omega
        by_cases h7 : st < 0
        · -- no star so far
          have hR : Hid (mB p.data.toList s.data.toList = false) := HG.out.1.fail h6 (hS.out.2 h6) h7
          have e6 : decide (st < 0) = true := decide_eq_true h7
          clear HG hS h5
          go_wp2
          go_quiet (fail)
          go_wp2
          rw [← HQ.out]
          show QM p s w0 _ _ _
          unfold QM
          go_ret
          exact ⟨ret_bool hR.out.symm, HD.out.drewN _⟩
        · -- the last star takes one more
          obtain ⟨k, hk, hkl, hg⟩ := HG.out.1.more h6 (hS.out.2 h6) (by omega)
          subst hk
          have hkl2 : k < p.size := hkl
          have g : Hid (GI p.data.toList s.data.toList (mB p.data.toList s.data.toList) (k + 1) (t' + 1) k (t' + 1) ∧ t ≤ t' ∧ t' < s.size) := ⟨hg, HG.out.2, by have := HG.out.1.2.2.1; omega⟩
          have h8 : t' < s.size := g.out.2.2
          have e6 : decide ((k : Int) < 0) = false := decide_eq_false (by omega)
          clear HG hS h5 h7 hg hkl
          go_wp2
          go_quiet (fail)
          go_wp2
          go_step3
          rw [← HQ.out]
          refine ⟨rfl, ⟨⟨k + 1, t' + 1, t' + 1, k, ?_, g.out.1, HD.out.drewN _⟩⟩, ?_⟩
          · exact ⟨_, _, _, _, _, _, _, _, _, _, _, _, _, _, _, _, _, _, _, _, _, _, _, _, _, _, _, _, _, _, _, _, _, _, _, _, _, _, _, _, _, _, _, _, _, _, _, _, _, _, _, _, rfl⟩
          · have := HN.out
            have := g.out
            simp [muM, intOf]
            omega

set_option maxRecDepth 100000 in
set_option maxHeartbeats 2000000 in
theorem match_any (p s : ByteArray) (w : World) (hp : p.size ≤ 100000) (hs : s.size ≤ 100000) :
    Calls Tryd.prog 11 #[.string p, .string s] w (MPost p s w) := by
  go_enter Tryd.func11, Tryd.ntmps11
  go_wp2
  refine wp_scope_jumps (Q := QM p s w) 0 (fun a' w' => JM p s w a' w') (fun a _ => muM s a) rfl ?_ ?_
  · go_wp2
    rename_i Q' K hK
    apply wp_label
    refine hK _ _ (wp_mono (passM p s w hp hs (q := 0) (i := 0) (t := 0) (st := -1) (n := s.size) ⟨_, _, _, _, _, _, _, _, _, _, _, _, _, _, _, _, _, _, _, _, _, _, _, _, _, _, _, _, _, _, _, _, _, _, _, _, _, _, _, _, _, _, _, _, _, _, _, _, _, _, _, _, rfl⟩ (GI.init _ _) (by omega) (Dr.refl _)) ?_)
    intro e a w h
    cases e <;> first | exact ⟨h.1, h.2.1⟩ | exact h
  · rintro a w1 ⟨q, i, t, st, hF, hG, hD⟩
    have hm : muM s a = s.size - t := by
      obtain ⟨u2, u3, u9, u10, u11, u12, u13, u14, u15, u16, u17, u18, u19, u20, u21, u22, u23, u24, u25, u26, u27, u28, u29, u30, u31, u32, u33, u34, u35, u36, u37, u38, u39, u40, u41, u42, u43, u44, u45, u46, u47, u48, u49, u50, u51, u52, u53, u54, u55, u56, u57, u58, rfl⟩ := hF
      simp [muM, intOf]
    have hseq : ∀ {c : Code} {Q : Exit → Act → World → Prop}, c.wp Tryd.prog Q a w1 → (Code.seq .skip c).wp Tryd.prog Q a w1 := fun h => by
      apply wp_seq
      apply wp_skip
      exact h
    refine hseq (wp_mono (passM p s w hp hs (n := muM s a) hF hG (by omega) hD) ?_)
    intro e a w h
    cases e <;> first | exact ⟨h.1, h.2.1, h.2.2⟩ | exact h

end Go.Proofs.YtpkhcelakfdjfaaDoor
