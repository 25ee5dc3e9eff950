/- The contracts of the library that the texts of package show want: in this seat they lie in Shelf. -/
import Derived.Test.YtlaagdpanbineaaGreatDoorShelf
namespace Go.Proofs.YtlaagdpanbineaaGreatDoor
end Go.Proofs.YtlaagdpanbineaaGreatDoor
