/- What the code's Set and Remove return, for every list of fields. -/
import Derived.Test.YtbmbcdbldbjddaaFWithout
import Derived.Test.YtbmbcdbldbjddaaFSetOne
namespace Go.Proofs.Ytbmbcdbldbjddaa
open Go.RowKit

end Go.Proofs.Ytbmbcdbldbjddaa
