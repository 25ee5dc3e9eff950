/- the document's Right. -/
import Derived.Test.YtlaagdpanbineaaGreatDoorRru
import Derived.Test.YtlaagdpanbineaaGreatDoorRrv
import Derived.Test.YtlaagdpanbineaaGreatDoorRrw
namespace Go.Proofs.YtlaagdpanbineaaGreatDoor
open Go.RowKit

theorem rright_any (N : Nat) : ∀ h : Nat, RrC N h
  | 0 => fun _ _ _ _ hN _ _ _ _ _ => hN.elim
  | h + 1 => by
    rintro ⟨kd, nn, tx, ks, kids⟩ v d w hN hcap hNw hs hi hd
    by_cases hA : cA kd nn tx ks kids
    · by_cases hB : cB kd tx ks kids d
      · exact rright_w hN hcap hNw hs hi hd hA hB (rright_any N h)
      · exact rright_v hN hcap hs hi hd hA hB
    · exact rright_u hN hcap hs hi hA

end Go.Proofs.YtlaagdpanbineaaGreatDoor
