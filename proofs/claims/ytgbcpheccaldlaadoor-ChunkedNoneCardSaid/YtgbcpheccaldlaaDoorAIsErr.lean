/- What Is returns for an error code. -/
import Derived.Test.YtgbcpheccaldlaaDoorNum
namespace Go.Proofs.YtgbcpheccaldlaaDoor
open Go.RowKit

set_option maxHeartbeats 400000 in
set_option maxRecDepth 100000 in
theorem isErr_any (a : Int) (ha : (a != 0) = true) (w : World) : Calls Tryd.prog 45 #[.iface 77 (.int .i64 a), .int .i64 a] w fun e w' => e = .returned (.bool true) ∧ w = w' := by
  go_enter Tryd.func45, Tryd.ntmps45
  go_wp2_with (go_at_call 17; refine (num_errno _ _).mono ?_; rintro e w' ⟨rfl, rfl⟩)
  go_ret
  exact ⟨rfl, rfl⟩
end Go.Proofs.YtgbcpheccaldlaaDoor
