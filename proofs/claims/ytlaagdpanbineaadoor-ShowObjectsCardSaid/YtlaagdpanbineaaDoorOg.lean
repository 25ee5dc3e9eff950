/- ShowObjects: the law. -/
import Derived.Test.YtlaagdpanbineaaDoorOfa
import Derived.Test.YtlaagdpanbineaaDoorOfb
import Derived.Test.YtlaagdpanbineaaDoorOfc
import Derived.Test.YtlaagdpanbineaaDoorPo
namespace Go.Proofs.YtlaagdpanbineaaDoor
open Go.RowKit

theorem strs_cap {H : Type} {enc : TypeId × Value → H} {W : World} {held : Bool} {fuel : Nat} {a : Option Addr} {len cap : Nat} {x : DataW H × List MemPlace} (hx : DataW.trod enc Tryd.prog W 0 (fun _ => true) held fuel 22 [.slice a len cap] = some x) : len ≤ cap := by
  rcases Go.Deep.open_slice1 Tryd.underlying22 (by kernel_rfl) hx with ⟨hcs, _⟩ | ⟨b, len2, cap2, m, n, V, D, Pl, hcs, hb, hl, _⟩
  · simp only [List.cons.injEq, Value.slice.injEq, and_true] at hcs
    omega
  · simp only [List.cons.injEq, Value.slice.injEq, and_true] at hcs
    omega

theorem law_objects (w : World) (A : Nat → Addr) (hC : CondO w A) (g : Nat) (S1 S : Option Addr) (ks : List (List UInt8)) (kids : List NT) (c0 c1 : Nat)
    (hKs : StrAt (fun _ => True) w (.slice S1 ks.length c0) ks) (hKd : KidsAt (fun _ => True) g w S kids) (hcap : ks.length ≤ c0) (hall : ∀ t ∈ kids, okLen t) :
    Calls Tryd.prog 5 #[.slice S1 ks.length c0, .slice S kids.length c1] w fun e w' => e = .returned (.bool true) ∧ Below w.heap.size w w' := by
  by_cases hl : ks.length = kids.length
  · by_cases hn : ks.Nodup
    · exact objects_ok w A hC g S1 S ks kids c0 c1 hKs hKd hcap hall hl hn
    · exact objects_tw w A hC g S1 S ks kids c0 c1 hKs hKd hcap hall hl hn
  · exact objects_ne w A hC g S1 S ks kids c0 c1 hKs hKd hcap hall hl

end Go.Proofs.YtlaagdpanbineaaDoor
