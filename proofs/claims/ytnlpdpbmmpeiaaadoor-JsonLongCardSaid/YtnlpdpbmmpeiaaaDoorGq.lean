/- The program's reader of JSON: read, Parse. -/
import Derived.Test.YtnlpdpbmmpeiaaaDoorGz
import Derived.Handy
namespace Go.Proofs.YtnlpdpbmmpeiaaaDoor
open Go.RowKit
open I2 (errVal errVal_some errVal_none)

section
variable (R B : Nat) (s : ByteArray) (A : Nat → Addr)

theorem pass_all (w0 : World) (res : Ans) (hBR : B ≤ R) (hs : s.size ≤ 200000) : ∀ (l : Nat) (a : Act) (w : World), JJ R B s A w0 res l a w →
    findLabel (scopeOf Tryd.f18) l = some (.seq .skip (afterL l)) ∧ (Code.seq .skip (afterL l)).wp Tryd.prog (jumps (fun l' a' w' => JJ R B s A w0 res l' a' w' ∧ mu R s l' a' w' < mu R s l a w) (QQ R s A w0 res)) a w := by
  intro l a w hJ
  obtain ⟨hF, hW⟩ := hJ
  have hseq : ∀ {c : Code} {Q : Exit → Act → World → Prop}, c.wp Tryd.prog Q a w → (Code.seq .skip c).wp Tryd.prog Q a w := fun h => by
    apply wp_seq
    apply wp_skip
    exact h
  rcases l with _ | _ | _ | _ | _ | _ | _ | _ | l
  · exact ⟨rfl, hseq (pass0 R B s A w0 res hBR hs hF hW (Nat.le_refl _))⟩
  · exact ⟨rfl, hseq (pass1 R B s A w0 res hBR hs hF hW (Nat.le_refl _))⟩
  · exact ⟨rfl, hseq (pass2 R B s A w0 res hBR hs hF hW (Nat.le_refl _))⟩
  · exact ⟨rfl, hseq (pass3 R B s A w0 res hBR hs hF hW (Nat.le_refl _))⟩
  · exact ⟨rfl, hseq (pass4 R B s A w0 res hBR hs hF hW (Nat.le_refl _))⟩
  · exact ⟨rfl, hseq (pass5 R B s A w0 res hBR hs hF hW (Nat.le_refl _))⟩
  · exact ⟨rfl, hseq (pass6 R B s A w0 res hBR hs hF hW (Nat.le_refl _))⟩
  · exact ⟨rfl, hseq (pass7 R B s A w0 res hBR hs hF hW (Nat.le_refl _))⟩
  · exact hW.elim

set_option maxRecDepth 100000 in
set_option maxHeartbeats 2000000 in
theorem read_any (w : World) (hR : RdP w R s 0 0 (.slice none 0 0) LV.zero) (hC : CondB B w A) (hBR : B ≤ R) (hs : s.size ≤ 200000) :
    Calls Tryd.prog 18 #[.pointer (some ⟨R, 0, none⟩)] w (ReadPost R s A w (after [] (pI .val 0 0 s.data.toList))) := by
  have HR := Lib.hid hR
  have HC := Lib.hid hC
  clear hR hC
  obtain ⟨res, hres⟩ : ∃ res, after [] (pI .val 0 0 s.data.toList) = res := ⟨_, rfl⟩
  rw [hres]
  have HRES := Lib.hid hres
  clear hres
  go_enter Tryd.func18, Tryd.ntmps18
  go_wp2
  refine wp_scope_many (Q := QQ R s A w res) (JJ R B s A w res) (mu R s) ?_ ?_
  · apply wp_seq
    apply wp_label
    refine wp_mono (pass0 R B s A w res hBR hs (m := mu R s 0 _ _) (by unfold FrameIs; exact ⟨_, _, _, _, _, _, _, _, _, _, _, _, _, _, _, _, _, _, _, _, _, _, _, _, _, _, _, _, _, _, _, _, _, _, _, _, _, _, _, _, _, _, _, _, _, _, _, _, _, _, _, _, _, _, _, _, _, _, _, _, _, _, _, rfl⟩) ⟨?_⟩ (Nat.le_refl _)) ?_
    · exact ⟨0, 0, _, _, fun _ => 0, [], ⟨HR.out, Nat.zero_le _, HC.out, Below.refl _ _, by omega⟩, Stk.nil _ _ _ _, fun _ h => absurd h (by simp), by rw [← HRES.out]; rfl⟩
    · intro e a w h
      cases e <;> first | exact h.1 | exact h
  · intro l a w1 hJ
    exact ⟨_, pass_all R B s A w res hBR hs l a w1 hJ⟩
end

end Go.Proofs.YtnlpdpbmmpeiaaaDoor
