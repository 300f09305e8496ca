/- What a list of values that is not large is. -/
import Derived.Test.YtnjjjfbklgdgpaaDoorDFew
namespace Go.Proofs.YtnjjjfbklgdgpaaDoor
open Go.RowKit

theorem few_ofV {vs : List (List UInt8)} (h : largeV vs = false) : vs.length ≤ 3000 ∧ totV vs ≤ 3000 ∧ ∀ v ∈ vs, v.length ≤ 3000 := by
  have h1 := of_decide_eq_false h
  refine ⟨by omega, by omega, fun v hv => ?_⟩
  have := totV_mem hv
  omega
end Go.Proofs.YtnjjjfbklgdgpaaDoor
