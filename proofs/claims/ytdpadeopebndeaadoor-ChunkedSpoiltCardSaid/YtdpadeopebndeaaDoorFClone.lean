/- What slices.Clone returns of a list of fields. -/
import Derived.Test.YtdpadeopebndeaaDoorJAppF
import Derived.Lib.SliceRun
namespace Go.Proofs.YtdpadeopebndeaaDoor
open Go.RowKit

theorem own_madeC (w : World) : (w.alloc (.cells #[] 71)).ownsRow w.heap.size 71 2 (.slice (some ⟨w.heap.size, 0, none⟩) 0 0) 0 [] :=
  World.ownsRow_made w #[] 0 (Nat.le_refl _) (Nat.zero_le _) (by simp)
end Go.Proofs.YtdpadeopebndeaaDoor
