/- What Of returns. -/
import Derived.Test.YtllkldbiagkbcaaGreatDoorAAwake
namespace Go.Proofs.YtllkldbiagkbcaaGreatDoor
open Go.RowKit

set_option maxHeartbeats 2000000 in
set_option maxRecDepth 100000 in
theorem of_any (a : Adr) (w : World) :
    Calls Tryz.prog 14 #[adrV a] w fun e w' => e = .returned (adrV a) ∧ Below w.heap.size w w' := by
  obtain ⟨h, p, q, b⟩ := a
  go_enter Tryz.func14, Tryz.ntmps14
  go_wp2_with fail
  exact bodyPost_ret (v := adrV ⟨h, p, q, b⟩) (by simp [results, Tryz.results14, go_sem]) rfl ⟨rfl, (below_new _ _).alloc (by simp) _⟩
end Go.Proofs.YtllkldbiagkbcaaGreatDoor
