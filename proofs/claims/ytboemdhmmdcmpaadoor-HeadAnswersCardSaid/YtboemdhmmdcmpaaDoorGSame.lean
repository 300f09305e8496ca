/- What the statements' Same and Alike return. -/
import Derived.Test.YtboemdhmmdcmpaaDoorFAreOnly
import Derived.Test.YtboemdhmmdcmpaaDoorTwo
namespace Go.Proofs.YtboemdhmmdcmpaaDoor
open Go.RowKit

end Go.Proofs.YtboemdhmmdcmpaaDoor
