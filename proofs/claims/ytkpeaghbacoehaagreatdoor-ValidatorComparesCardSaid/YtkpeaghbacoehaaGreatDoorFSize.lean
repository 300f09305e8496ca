/- What the code's Size returns, for every list of fields. -/
import Derived.Test.YtkpeaghbacoehaaGreatDoorFAll
namespace Go.Proofs.YtkpeaghbacoehaaGreatDoor
open Go.RowKit

end Go.Proofs.YtkpeaghbacoehaaGreatDoor
