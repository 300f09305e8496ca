/- What the code's Quote and the reference's Quote return, for every string up to a bound. -/
import Derived.Test.YtnjjjfbklgdgpaaDoorQuoSpec
import Derived.Test.YtnjjjfbklgdgpaaDoorBuild
import Derived.Test.YtnjjjfbklgdgpaaDoorTrim
import Derived.Test.YtnjjjfbklgdgpaaDoorDiv
import Derived.Laws.IdiomStrings
namespace Go.Proofs.YtnjjjfbklgdgpaaDoor
open Go.RowKit

def QuoRel (s : ByteArray) (w : World) (i : Value) (wr : World) : Prop :=
  ∃ k : Nat, i = .int .i64 k ∧ k ≤ s.size ∧ Bld w.heap.size w.heap.size (34 :: escS (s.data.toList.take k)) wr ∧ Below w.heap.size w wr
end Go.Proofs.YtnjjjfbklgdgpaaDoor
