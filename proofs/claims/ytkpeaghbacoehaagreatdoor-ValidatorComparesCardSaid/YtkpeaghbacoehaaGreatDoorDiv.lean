/- What the code's divide returns: the trimmed parts of a string between separators outside of quoted parts, or ErrForm. -/
import Derived.Test.YtkpeaghbacoehaaGreatDoorScan
import Derived.Test.YtkpeaghbacoehaaGreatDoorSpec
import Derived.Test.YtkpeaghbacoehaaGreatDoorShelf
import Derived.Lib.Hide
import Derived.Test.YtkpeaghbacoehaaGreatDoorTrimA
namespace Go.Proofs.YtkpeaghbacoehaaGreatDoor
open Go.RowKit

theorem trim_seg (s : ByteArray) (x k : Nat) (w : World) (hs : s.size ≤ 100000) :
    Calls Tryz.prog 38 #[.string (s.extract x k)] w fun e w' => e = .returned (strV (trimB ((s.data.toList.drop x).take (k - x)))) ∧ Below w.heap.size w w' := by
  refine (trimA_any (s.extract x k) w (by simp; omega)).mono ?_
  rintro e w' ⟨rfl, hb⟩
  exact ⟨by rw [seg_list], hb⟩
def DivRel (s : ByteArray) (b : UInt8) (w : World) (v q st i : Value) (wr : World) : Prop :=
  ∃ (acc : List (List UInt8)) (x k : Nat) (qb : Bool), i = .int .i64 k ∧ st = .int .i64 x ∧ q = .bool qb ∧ Inv b s.data.toList acc x k qb ∧
    OwnsS w.heap.size wr v (acc.map trimB) ∧ Below w.heap.size w wr
theorem DivRel0 (s : ByteArray) (b : UInt8) (w : World) : DivRel s b w (.slice none 0 0) (.bool false) (.int .i64 0) (.int .i64 0) w :=
  ⟨[], 0, 0, false, rfl, rfl, rfl, Inv0 _ _, World.ownsRow_nil _ _ _ _, Below.refl _ _⟩

def partsO (b : UInt8) (l : List UInt8) : Option (List (List UInt8)) := if ctlS l then none else (scan b .out [] l).map (·.map trimB)

def DivPost (s : ByteArray) (b : UInt8) (w : World) (e : Ending) (w' : World) : Prop :=
  Below w.heap.size w w' ∧
  match partsO b s.data.toList with
  | none => e = .returned (.tuple #[.slice none 0 0, errForm])
  | some ls => ∃ v, e = .returned (.tuple #[v, .nilIface]) ∧ OwnsS w.heap.size w' v ls ∧ ls.length ≤ 100002

end Go.Proofs.YtkpeaghbacoehaaGreatDoor
