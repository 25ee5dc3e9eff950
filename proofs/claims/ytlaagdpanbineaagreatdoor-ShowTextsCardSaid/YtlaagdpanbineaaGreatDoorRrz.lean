/- the document's Valid; the tests at the head of its Right. -/
import Derived.Test.YtlaagdpanbineaaGreatDoorRp
import Derived.Test.YtlaagdpanbineaaGreatDoorRgc
import Derived.Test.YtlaagdpanbineaaGreatDoorSm
import Derived.Test.YtlaagdpanbineaaGreatDoorKc
import Derived.Deep.DeepCutAuto
namespace Go.Proofs.YtlaagdpanbineaaGreatDoor
open Go.RowKit

theorem rvalid_any (s : ByteArray) (w : World) (hs : s.size ≤ 200000) :
    Calls Tryz.prog 25 #[.string s] w fun e w' => e = .returned (.bool (vld s s.size 0)) ∧ Below w.heap.size w w' := by
  cases hv : vld s s.size 0 with
  | true =>
    have hP := ref_points_yes s w hs hv
    clear hv
    go_enter Tryz.func25, Tryz.ntmps25
    go_wp2_with (go_at_call 49; refine hP.mono ?_; rintro e w1 ⟨⟨A, c, rfl, hR⟩, hb⟩)
    go_ret
    exact ⟨rfl, hb⟩
  | false =>
    have hP := ref_points_no s w hs hv
    clear hv
    go_enter Tryz.func25, Tryz.ntmps25
    go_wp2_with (go_at_call 49; refine hP.mono ?_; rintro e w1 ⟨rfl, hb⟩)
    go_ret
    exact ⟨rfl, hb⟩

section
variable {k n : Int} {tx : List UInt8} {ks : List (List UInt8)} {kids : List NT} {d : Nat}
def cA (k n : Int) (tx : List UInt8) (ks : List (List UInt8)) (kids : List NT) : Prop := (k = 4 ∨ n = 0) ∧ (k = 5 ∨ tx = []) ∧ (k = 7 ∨ ks = []) ∧ (6 ≤ k ∨ kids = [])
def cB (k : Int) (tx : List UInt8) (ks : List (List UInt8)) (kids : List NT) (d : Nat) : Prop := 1 ≤ k ∧ k ≤ 7 ∧ VdL tx ∧ (6 ≤ k → d < 32) ∧ (k = 7 → ks.length = kids.length)
theorem cA_n (hk : k ≠ 4) (h : n ≠ 0) : ¬ cA k n tx ks kids := fun e => e.1.elim hk h
theorem cA_tx (hk : k ≠ 5) (h : tx ≠ []) : ¬ cA k n tx ks kids := fun e => e.2.1.elim hk h
theorem cA_ks (hk : k ≠ 7) (h : ks ≠ []) : ¬ cA k n tx ks kids := fun e => e.2.2.1.elim hk h
theorem cA_kids (hk : ¬ 6 ≤ k) (h : kids ≠ []) : ¬ cA k n tx ks kids := fun e => e.2.2.2.elim hk h
theorem rgt_cAB (n0 : -9223372036854775808 ≤ n) (n1 : n ≤ 9223372036854775807) : rgt d (.mk k n tx ks kids) ↔ cA k n tx ks kids ∧ cB k tx ks kids d ∧ ((∀ x ∈ ks, VdL x) ∧ ks.Nodup) ∧ rgtL (d + 1) kids := by
  unfold rgt cA cB
  constructor
  · rintro ⟨h1, h2, h3, h4, h5, h6, _, _, h9, h10, h11, h12, h13, h14⟩
    exact ⟨⟨h1, h2, h3, by rcases h4 with e | e | e; · exact .inl (by omega)
                           · exact .inl (by omega)
                           · exact .inr e⟩, ⟨h5, h6, h9, h10, h11⟩, ⟨h12, h13⟩, h14⟩
  · rintro ⟨⟨h1, h2, h3, h4⟩, ⟨h5, h6, h9, h10, h11⟩, ⟨h12, h13⟩, h14⟩
    exact ⟨h1, h2, h3, by rcases h4 with e | e; · omega
                          · exact .inr (.inr e), h5, h6, n0, n1, h9, h10, h11, h12, h13, h14⟩
end
theorem keys_le2 (ks : List (List UInt8)) : ks.length ≤ (ks.map fun k => k.length + 1).sum := by
  induction ks with
  | nil => simp
  | cons a l ih => simp only [List.length_cons, List.map_cons, List.sum_cons]; omega
theorem len_pos {α : Type} {l : List α} (h : l ≠ []) : decide ((0 : Int) < (l.length : Int)) = true := by
  have := List.length_pos_iff.2 h
  exact decide_eq_true (by omega)

theorem key_le {ks : List (List UInt8)} {x : List UInt8} (h : x ∈ ks) : x.length + 1 ≤ (ks.map fun k => k.length + 1).sum := by
  induction ks with
  | nil => simp at h
  | cons a l ih =>
    simp only [List.map_cons, List.sum_cons]
    rcases List.mem_cons.1 h with e | e
    · rw [e]; omega
    · have := ih e; omega
def RgPost (d : Nat) (t : NT) (w : World) (e : Ending) (w' : World) : Prop := (∃ b, e = .returned (.bool b) ∧ (b = true ↔ rgt d t)) ∧ Below w.heap.size w w'
theorem RgPost.no {d : Nat} {t : NT} {w : World} {w' : World} (h : ¬ rgt d t) (hb : Below w.heap.size w w') : RgPost d t w (.returned (.bool false)) w' := ⟨⟨false, rfl, ⟨(fun e => by cases e), (fun e => absurd e h)⟩⟩, hb⟩
theorem RgPost.yes {d : Nat} {t : NT} {w : World} {w' : World} (h : rgt d t) (hb : Below w.heap.size w w') : RgPost d t w (.returned (.bool true)) w' := ⟨⟨true, rfl, ⟨fun _ => h, fun _ => rfl⟩⟩, hb⟩
def KeysOk (ks : List (List UInt8)) (i : Nat) : Prop := (∀ x ∈ ks.take i, VdL x) ∧ (ks.take i).Nodup
theorem KeysOk.zero (ks : List (List UInt8)) : KeysOk ks 0 := by unfold KeysOk; simp
theorem KeysOk.next {ks : List (List UInt8)} {i : Nat} (h : KeysOk ks i) (hi : i < ks.length) (hv : VdL ks[i]) (hn : ∀ j, (hj : j < i) → ks[j]'(by omega) ≠ ks[i]) : KeysOk ks (i + 1) := by
  unfold KeysOk at h ⊢
  rw [List.take_succ_eq_append_getElem hi]
  refine ⟨fun x hx => ?_, ?_⟩
  · rcases List.mem_append.1 hx with hx | hx
    · exact h.1 x hx
    · rw [List.mem_singleton.1 hx]; exact hv
  · rw [List.nodup_append]
    refine ⟨h.2, by simp, fun a ha b hb => ?_⟩
    obtain rfl : b = ks[i] := by simpa using hb
    obtain ⟨j, hj, rfl⟩ := List.getElem_of_mem ha
    have hj2 : j < i := by rw [List.length_take] at hj; omega
    rw [List.getElem_take]
    exact hn j hj2
theorem KeysOk.end {ks : List (List UInt8)} (h : KeysOk ks ks.length) : (∀ x ∈ ks, VdL x) ∧ ks.Nodup := by
  unfold KeysOk at h
  rwa [List.take_length] at h
theorem nodup_no {ks : List (List UInt8)} {i j : Nat} (hi : i < ks.length) (hj : j < i) (h : ks[j] = ks[i]) : ¬ ks.Nodup := fun hn => by
  have := List.getElem_inj (xs := ks) (i := j) (j := i) (h₀ := by omega) (h₁ := hi) hn |>.1 h
  omega
theorem rgtL_take {d : Nat} {l : List NT} {k : Nat} (h : rgtL d (l.take k)) (hk : k < l.length) (h2 : rgt d l[k]) : rgtL d (l.take (k + 1)) := by
  rw [List.take_succ_eq_append_getElem hk, rgtL_append]
  exact ⟨h, h2, trivial⟩
theorem rgtL_not {d : Nat} {l : List NT} {k : Nat} (hk : k < l.length) (h2 : ¬ rgt d l[k]) : ¬ rgtL d l := fun h => h2 (rgtL_mem.1 h _ (List.getElem_mem hk))
theorem ba_inj {x y : List UInt8} : ((⟨x.toArray⟩ : ByteArray).toList == (⟨y.toArray⟩ : ByteArray).toList) = decide (x = y) := by
  rw [ByteArray.toList_eq, ByteArray.toList_eq, Bool.eq_iff_iff, beq_iff_eq, decide_eq_true_iff]
theorem vd_iff (x : List UInt8) : VdL x ↔ vld ⟨x.toArray⟩ (⟨x.toArray⟩ : ByteArray).size 0 = true := Iff.rfl
theorem Blk.at {w w' : World} {X : Nat} {c0 c1 c2 c3 c4 : Value} (h : Blk w X c0 c1 c2 c3 c4) (hb : Below w.heap.size w w') : Blk w' X c0 c1 c2 c3 c4 := (hb.block X h.lt).trans h

def RrC (N : Nat) (h : Nat) : Prop := ∀ (t : NT) (v : Value) (d : Nat) (w : World), NIs (fun b => b < N) h w t v → KCap N h w t v → N ≤ w.heap.size → szT t ≤ 200000 → okInt t → d ≤ 100 →
    Calls Tryz.prog 14 #[v, .int .i64 d] w (RgPost d t w)

end Go.Proofs.YtlaagdpanbineaaGreatDoor
