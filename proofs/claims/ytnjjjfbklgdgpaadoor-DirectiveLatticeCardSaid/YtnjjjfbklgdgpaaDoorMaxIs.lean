/- What the contracts of Cut ask of a world: MaxLen is an int. -/
import Derived.Test.YtnjjjfbklgdgpaaDoorBase
namespace Go.Proofs.YtnjjjfbklgdgpaaDoor
open Go.RowKit

/-- MaxLen is an int. -/
def MaxIs (w : World) : Prop := ∃ m, w.cell? ⟨0, 0, none⟩ = some (.int .i64 m)
theorem MaxIs.below {w w' : World} (h : MaxIs w) (hb : Below w.heap.size w w') : MaxIs w' := by
  obtain ⟨m, hm⟩ := h
  exact ⟨m, (hb.cell (p := ⟨0, 0, none⟩) (World.block_lt_of_cell? _ _ hm)).trans hm⟩
theorem MaxIs.alloc {w : World} (h : MaxIs w) (o : Obj) : MaxIs (w.alloc o) := h.below (below_new w o)
theorem MaxIs.drewN {w : World} (h : MaxIs w) (n : Nat) : MaxIs (w.drewN n) := h.below (below_drewN (Below.refl _ _) n)
end Go.Proofs.YtnjjjfbklgdgpaaDoor
