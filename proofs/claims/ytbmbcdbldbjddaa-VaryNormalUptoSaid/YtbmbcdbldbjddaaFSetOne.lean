/- What the code's Set returns, for every list of fields. -/
import Derived.Test.YtbmbcdbldbjddaaFAll
import Derived.Test.YtbmbcdbldbjddaaFOwn
namespace Go.Proofs.Ytbmbcdbldbjddaa
open Go.RowKit

end Go.Proofs.Ytbmbcdbldbjddaa
