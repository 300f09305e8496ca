/- What the reference's Parts and List return: the same parts as the code's divide and List. -/
import Derived.Test.YtgbcpheccaldlaaDoorTrim
import Derived.Test.YtgbcpheccaldlaaDoorDiv
import Derived.Test.YtgbcpheccaldlaaDoorList
namespace Go.Proofs.YtgbcpheccaldlaaDoor
open Go.RowKit

theorem refTrim_seg (s : ByteArray) (x k : Nat) (w : World) (hs : s.size ≤ 100000) :
    Calls Tryd.prog 83 #[.string (s.extract x k)] w fun e w' => e = .returned (strV (trimB ((s.data.toList.drop x).take (k - x)))) ∧ w = w' := by
  have h := refTrim_any ((s.data.toList.drop x).take (k - x)) w (by simp; omega)
  rw [← seg_list, strB_of] at h
  rwa [seg_list] at h

def PartsPost (s : ByteArray) (b : UInt8) (w : World) (e : Ending) (w' : World) : Prop :=
  Below w.heap.size w w' ∧
  match partsO b s.data.toList with
  | none => e = .returned (.tuple #[.slice none 0 0, .bool false])
  | some ls => ∃ v, e = .returned (.tuple #[v, .bool true]) ∧ OwnsS w.heap.size w' v ls ∧ ls.length ≤ 100002
theorem partsO_none {b : UInt8} {L : List UInt8} (h : scan b .out [] L = none) : partsO b L = none := by
  unfold partsO; rw [h]; split <;> rfl

end Go.Proofs.YtgbcpheccaldlaaDoor
