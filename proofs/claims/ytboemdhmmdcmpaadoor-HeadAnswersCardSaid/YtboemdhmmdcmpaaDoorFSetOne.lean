/- What the code's Set returns, for every list of fields. -/
import Derived.Test.YtboemdhmmdcmpaaDoorFAll
import Derived.Test.YtboemdhmmdcmpaaDoorFOwn
namespace Go.Proofs.YtboemdhmmdcmpaaDoor
open Go.RowKit

end Go.Proofs.YtboemdhmmdcmpaaDoor
