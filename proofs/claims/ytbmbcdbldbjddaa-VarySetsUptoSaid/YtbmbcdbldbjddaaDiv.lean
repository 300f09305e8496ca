/- What the code's divide returns: the trimmed parts of a string between separators outside of quoted parts, or ErrForm. -/
import Derived.Test.YtbmbcdbldbjddaaScan
import Derived.Test.YtbmbcdbldbjddaaSpec
import Derived.Test.YtbmbcdbldbjddaaShelf
import Derived.Lib.Hide
import Derived.Test.YtbmbcdbldbjddaaTrimA
namespace Go.Proofs.Ytbmbcdbldbjddaa
open Go.RowKit

def DivRel (s : ByteArray) (b : UInt8) (w : World) (v q st i : Value) (wr : World) : Prop :=
  ∃ (acc : List (List UInt8)) (x k : Nat) (qb : Bool), i = .int .i64 k ∧ st = .int .i64 x ∧ q = .bool qb ∧ Inv b s.data.toList acc x k qb ∧
    OwnsS w.heap.size wr v (acc.map trimB) ∧ Below w.heap.size w wr
theorem DivRel0 (s : ByteArray) (b : UInt8) (w : World) : DivRel s b w (.slice none 0 0) (.bool false) (.int .i64 0) (.int .i64 0) w :=
  ⟨[], 0, 0, false, rfl, rfl, rfl, Inv0 _ _, World.ownsRow_nil _ _ _ _, Below.refl _ _⟩

def partsO (b : UInt8) (l : List UInt8) : Option (List (List UInt8)) := if ctlS l then none else (scan b .out [] l).map (·.map trimB)

def DivPost (s : ByteArray) (b : UInt8) (w : World) (e : Ending) (w' : World) : Prop :=
  Below w.heap.size w w' ∧
  match partsO b s.data.toList with
  | none => e = .returned (.tuple #[.slice none 0 0, errForm])
  | some ls => ∃ v, e = .returned (.tuple #[v, .nilIface]) ∧ OwnsS w.heap.size w' v ls ∧ ls.length ≤ 100002

end Go.Proofs.Ytbmbcdbldbjddaa
