/- a value that is handed in, opened whole: a tree in memory whose numbers are ints, and whose lists of keys are no longer than their capacity. -/
import Derived.Test.YtlaagdpanbineaaGreatDoorPo
import Derived.Test.YtlaagdpanbineaaGreatDoorKc
namespace Go.Proofs.YtlaagdpanbineaaGreatDoor
open Go.RowKit

theorem open_whole {H : Type} {enc : TypeId × Value → H} {W : World} {held : Bool} {v : Value} {d : DataW H} {p : List MemPlace} (h : ∃ m, DataW.trod enc Tryz.prog W 0 (fun _ => true) held m 26 v.cells.toList = some (d, p)) :
    ∃ (t : NT) (g : Nat) (kd nn : Int) (Y : ByteArray) (S1 : Option Addr) (l1 c1 : Nat) (S2 : Option Addr) (l2 c2 : Nat), v = .agg #[.int .i64 kd, .int .i64 nn, .string Y, .slice S1 l1 c1, .slice S2 l2 c2] ∧
      NIs (fun _ => True) g W t v ∧ KCap W.heap.size g W t v ∧ okLen t ∧ okInt t := by
  obtain ⟨m, hm⟩ := h
  obtain ⟨c0, c1, c2, c3, c4, t, g, hc, hN, ho, hi⟩ := node_open2 m _ _ hm
  have hv := agg_cells hc
  rw [hc] at hm
  have hK := caps_of m _ _ hm g t hN
  obtain ⟨k1, n1, x1, A1, l1, m1, B1, l2, m2, hnd⟩ := hN.nd
  exact ⟨t, g, k1, n1, ⟨x1.toArray⟩, A1, l1, m1, B1, l2, m2, by rw [hv, hnd], by rw [hv]; exact hN, by rw [hv]; exact hK, ho, hi⟩

end Go.Proofs.YtlaagdpanbineaaGreatDoor
