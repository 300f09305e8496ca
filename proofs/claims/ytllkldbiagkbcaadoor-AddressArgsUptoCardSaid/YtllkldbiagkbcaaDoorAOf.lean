/- What Of returns. -/
import Derived.Test.YtllkldbiagkbcaaDoorAAwake
namespace Go.Proofs.YtllkldbiagkbcaaDoor
open Go.RowKit

set_option maxHeartbeats 2000000 in
set_option maxRecDepth 100000 in
theorem of_any (a : Adr) (w : World) :
    Calls Tryd.prog 20 #[adrV a] w fun e w' => e = .returned (adrV a) ∧ Below w.heap.size w w' := by
  obtain ⟨h, p, q, b⟩ := a
  go_enter Tryd.func20, Tryd.ntmps20
  go_wp2_with fail
  exact bodyPost_ret (v := adrV ⟨h, p, q, b⟩) (by simp [results, Tryd.results20, go_sem]) rfl ⟨rfl, (below_new _ _).alloc (by simp) _⟩
end Go.Proofs.YtllkldbiagkbcaaDoor
