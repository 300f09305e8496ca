/- What the code's Size returns, for every list of fields. -/
import Derived.Test.YtnjjjfbklgdgpaaDoorFAll
namespace Go.Proofs.YtnjjjfbklgdgpaaDoor
open Go.RowKit

end Go.Proofs.YtnjjjfbklgdgpaaDoor
