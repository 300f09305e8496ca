/- What the code's Trim returns. -/
import Derived.Test.YtbmbcdbldbjddaaScan
import Derived.Test.YtbmbcdbldbjddaaSpec
import Derived.Test.YtbmbcdbldbjddaaShelf
import Derived.Lib.Hide
namespace Go.Proofs.Ytbmbcdbldbjddaa
open Go.RowKit

abbrev errForm : Value := .iface 91 (.int .i64 2)
end Go.Proofs.Ytbmbcdbldbjddaa
