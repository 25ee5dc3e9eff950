/- quote.Parse: what each call returns. -/
import Derived.Test.YtfccfijjojnbbaaDoorQtk
import Derived.Stop.IfaceNil
import Derived.WalkSpells
namespace Go.Proofs.YtfccfijjojnbbaaDoor
open Go.RowKit

def parseR (l : List UInt8) : Option (List UInt8) := match takeL l with
  | some p => if p.2 = l.length then some p.1 else none
  | none => none
def parseV (a : Addr) : Option (List UInt8) → Value
  | some x => .tuple #[.string ⟨x.toArray⟩, .nilIface]
  | none => .tuple #[.string ⟨#[]⟩, synV a]
theorem parseR_some {l x : List UInt8} (h : parseR l = some x) : takeL l = some (x, l.length) := by
  unfold parseR at h
  split at h
  · rename_i p hp
    split at h
    · rename_i hn
      simp only [Option.some.injEq] at h
      rw [hp, ← hn, ← h]
    · cases h
  · cases h
theorem parseR_of {l x : List UInt8} (h : takeL l = some (x, l.length)) : parseR l = some x := by
  unfold parseR
  rw [h]
  simp

set_option maxHeartbeats 1000000 in
theorem parse_any (s : ByteArray) (w : World) (a : Addr) (hC : CondS w a) (hs : s.size ≤ 8000) {o : Option (List UInt8)} (ho : parseR s.data.toList = o) :
    Calls Tryd.prog 13 #[.string s] w fun e w' => e = .returned (parseV a o) ∧ Below w.heap.size w w' := by
  have hT := take_any s ((0 : Nat) : Int) w a hC hs (by rw [restQ_in, List.drop_zero])
  have HC := Lib.hid hC
  have hnl := fun (w : World) => @run_neq_nil_nil_at Tryd.prog w 24 (by kernel_rfl)
  have hnn := fun (w : World) (x : Value) => @run_neq_iface_nil Tryd.prog w 24 (by kernel_rfl) 97 x
  unfold parseR at ho
  rw [show ((0 : Nat) : Int) = 0 from rfl] at hT
  clear hC
  cases hp : takeL s.data.toList with
  | none =>
    rw [hp] at ho hT
    subst ho
    simp only [takeV, synV] at hT
    simp only [parseV, synV]
    clear hp
    go_enter Tryd.func13, Tryd.ntmps13
    go_wp2_with fail
    refine hT.mono ?_
    rintro e w1 ⟨rfl, hb1⟩
    have c0 : w1.cell? ⟨0, 0, none⟩ = _ := (HC.out.below hb1).syn
    clear hT
    go_wp2
    go_quiet (fail)
    go_wp2
    go_ret2
    exact ⟨rfl, below_drewN hb1 _⟩
  | some p =>
    obtain ⟨x, n⟩ := p
    rw [hp] at ho hT
    simp only [size_list] at ho
    simp only [takeV] at hT
    clear hp
    generalize hx : (⟨x.toArray⟩ : ByteArray) = t at *
    by_cases hn : n = s.size
    · rw [if_pos hn] at ho
      subst ho
      simp only [parseV]
      rw [hx]
      have q : ((n : Int) != (s.size : Int)) = false := by simp; omega
      clear hx
      go_enter Tryd.func13, Tryd.ntmps13
      go_wp2_with fail
      refine hT.mono ?_
      rintro e w1 ⟨rfl, hb1⟩
      clear hT
      go_wp2
      go_ret2
      exact ⟨rfl, hb1⟩
    · rw [if_neg hn] at ho
      subst ho
      simp only [parseV, synV]
      have q : ((n : Int) != (s.size : Int)) = true := by simp; omega
      clear hx hn
      go_enter Tryd.func13, Tryd.ntmps13
      go_wp2_with fail
      refine hT.mono ?_
      rintro e w1 ⟨rfl, hb1⟩
      have c0 : w1.cell? ⟨0, 0, none⟩ = _ := (HC.out.below hb1).syn
      clear hT
      go_wp2
      go_quiet (fail)
      go_wp2
      go_ret2
      exact ⟨rfl, below_drewN hb1 _⟩

end Go.Proofs.YtfccfijjojnbbaaDoor
