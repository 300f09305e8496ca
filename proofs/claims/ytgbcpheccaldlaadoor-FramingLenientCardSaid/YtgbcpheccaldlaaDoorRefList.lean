/- What the reference's List returns: the same parts as the code's List. -/
import Derived.Test.YtgbcpheccaldlaaDoorParts
namespace Go.Proofs.YtgbcpheccaldlaaDoor
open Go.RowKit

def RefListPost (s : ByteArray) (w : World) (e : Ending) (w' : World) : Prop :=
  Below w.heap.size w w' ∧
  match listO s.data.toList with
  | none => e = .returned (.tuple #[.slice none 0 0, .bool false])
  | some ls => ∃ v, e = .returned (.tuple #[v, .bool true]) ∧ OwnsS w.heap.size w' v ls ∧ ls.length ≤ 100002

end Go.Proofs.YtgbcpheccaldlaaDoor
