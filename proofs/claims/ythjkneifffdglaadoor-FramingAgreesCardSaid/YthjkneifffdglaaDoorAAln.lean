/- What the code says of a letter or a digit. -/
import Derived.Test.YthjkneifffdglaaDoorASpec
namespace Go.Proofs.YthjkneifffdglaaDoor
open Go.RowKit

end Go.Proofs.YthjkneifffdglaaDoor
