/- What the code's Size returns, for every list of fields. -/
import Derived.Test.YtbmbcdbldbjddaaGreatDoorFAll
namespace Go.Proofs.YtbmbcdbldbjddaaGreatDoor
open Go.RowKit

end Go.Proofs.YtbmbcdbldbjddaaGreatDoor
