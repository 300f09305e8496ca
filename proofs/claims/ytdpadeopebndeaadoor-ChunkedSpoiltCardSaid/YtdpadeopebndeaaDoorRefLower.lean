/- What the reference's Lower returns. -/
import Derived.Test.YtdpadeopebndeaaDoorLower
namespace Go.Proofs.YtdpadeopebndeaaDoor
open Go.RowKit

def LowRel (s : ByteArray) (w : World) (o i : Value) (wr : World) : Prop :=
  ∃ k : Nat, i = .int .i64 k ∧ k ≤ s.size ∧ o = .string (strB (lowS (s.data.toList.take k))) ∧ Below w.heap.size w wr
end Go.Proofs.YtdpadeopebndeaaDoor
