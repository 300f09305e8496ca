/- What Is and Clip return where the statements call them. -/
import Derived.Test.YthjkneifffdglaaDoorNumber
import Derived.Test.YthjkneifffdglaaDoorNum
namespace Go.Proofs.YthjkneifffdglaaDoor
open Go.RowKit

set_option maxHeartbeats 400000 in
set_option maxRecDepth 100000 in
theorem is_errno (a : Int) (ha : (a != 0) = true) (w : World) : Calls Tryd.prog 22 #[.iface 59 (.int .i64 a), .int .i64 a] w fun e w' => e = .returned (.bool true) ∧ w = w' := by
  go_enter Tryd.func22, Tryd.ntmps22
  go_wp2_with (go_at_call 15; refine (num_errno _ _).mono ?_; rintro e w' ⟨rfl, rfl⟩)
  go_ret
  exact ⟨rfl, rfl⟩
set_option maxHeartbeats 400000 in
set_option maxRecDepth 100000 in
theorem is_nil (b : Int) (hb : ((0 : Int) == b) = false) (w : World) : Calls Tryd.prog 22 #[.nilIface, .int .i64 b] w fun e w' => e = .returned (.bool false) ∧ w = w' := by
  go_enter Tryd.func22, Tryd.ntmps22
  go_wp2_with (go_at_call 15; refine (num_nil _).mono ?_; rintro e w' ⟨rfl, rfl⟩)
  go_ret
  exact ⟨rfl, rfl⟩
end Go.Proofs.YthjkneifffdglaaDoor
