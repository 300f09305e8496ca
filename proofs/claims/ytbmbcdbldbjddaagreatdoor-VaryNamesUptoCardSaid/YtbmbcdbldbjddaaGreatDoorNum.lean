/- What Num returns where the statements call it. -/
import Derived.Test.YtbmbcdbldbjddaaGreatDoorBase
namespace Go.Proofs.YtbmbcdbldbjddaaGreatDoor
open Go.RowKit

end Go.Proofs.YtbmbcdbldbjddaaGreatDoor
