/- What the contract of Itoa asks of a world: the table of powers of ten. -/
import Derived.Test.YtnjjjfbklgdgpaaDoorBase
import Derived.Lib.AppendIntMem
import Derived.Lib.SmallJoins
import Derived.Stop.LaidErr
namespace Go.Proofs.YtnjjjfbklgdgpaaDoor
open Go.RowKit

/-- The table of powers of ten, for Itoa. -/
def HasTab (w : World) : Prop := Lib.TabIs Tryd.prog w "internal/strconv.uint64pow10" .u64 Lib.pow10Tab
theorem gTab : Tryd.prog.globalNamed "internal/strconv.uint64pow10" = some 1 := by kernel_rfl
theorem HasTab.below {w w' : World} (h : HasTab w) (hb : Below w.heap.size w w') : HasTab w' := Joins.tab_stays gTab h hb (Nat.le_refl _)
end Go.Proofs.YtnjjjfbklgdgpaaDoor
