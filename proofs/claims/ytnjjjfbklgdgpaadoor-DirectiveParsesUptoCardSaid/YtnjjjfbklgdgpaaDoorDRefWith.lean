/- What the reference's with returns, for every element. -/
import Derived.Test.YtnjjjfbklgdgpaaDoorDRefWithA
import Derived.Test.YtnjjjfbklgdgpaaDoorDRefWithB
namespace Go.Proofs.YtnjjjfbklgdgpaaDoor
open Go.RowKit

theorem with_any (d : Dv) (e : List UInt8) (w : World) (hN : Nor d) (he : e.length ≤ 1000000) :
    Calls Tryd.prog 30 #[dvV d, .string (strB e)] w fun en w' => en = .returned (dvV (elemD d e)) ∧ Below w.heap.size w w' := by
  obtain ⟨nm, ar, fd, h⟩ := eqAt_ex e
  cases hf : fd with
  | false => exact with_no d e nm ar fd hf h w hN he
  | true => exact with_yes d e nm ar fd hf h w hN he
end Go.Proofs.YtnjjjfbklgdgpaaDoor
