/- What the code's Size returns, for every list of fields. -/
import Derived.Test.YtbmbcdbldbjddaaFAll
namespace Go.Proofs.Ytbmbcdbldbjddaa
open Go.RowKit

end Go.Proofs.Ytbmbcdbldbjddaa
