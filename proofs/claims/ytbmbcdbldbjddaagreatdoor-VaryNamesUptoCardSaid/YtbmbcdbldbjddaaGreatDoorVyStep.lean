/- The steps of the statements of layer 16, as they are read. -/
import Derived.Test.YtbmbcdbldbjddaaGreatDoorVyFew
namespace Go.Proofs.YtbmbcdbldbjddaaGreatDoor
open Go.RowKit

structure Stp where
  what : Int
  ns : List (List UInt8)
  ps : Flds
  id : Int
/-- A step's numbers are in range. -/
structure Stp.Ok (s : Stp) : Prop where
  w0 : 0 ≤ s.what ∧ s.what ≤ 255
  i0 : -128 ≤ s.id ∧ s.id ≤ 127
/-- Steps in a slice that is read. -/
def ReadsT (w : World) (v : Value) (ss : List Stp) : Prop :=
  ∃ ao cap, v = .slice ao ss.length cap ∧ ∀ j s, ss[j]? = some s → ∃ g off na nc fa fc, ao = some ⟨g, off, none⟩ ∧ g < w.heap.size ∧ w.cell? ⟨g, off + j * 4, none⟩ = some (.int .u8 s.what) ∧ w.cell? ⟨g, off + j * 4 + 1, none⟩ = some (.slice na s.ns.length nc) ∧
    w.cell? ⟨g, off + j * 4 + 2, none⟩ = some (.slice fa s.ps.length fc) ∧ w.cell? ⟨g, off + j * 4 + 3, none⟩ = some (.int .i8 s.id) ∧ ReadsS w (.slice na s.ns.length nc) s.ns ∧ ReadsQ w (.slice fa s.ps.length fc) s.ps
end Go.Proofs.YtbmbcdbldbjddaaGreatDoor
