/- What Num returns where the statements call it. -/
import Derived.Test.YtnbjkgkkefjaoaaBase
namespace Go.Proofs.Ytnbjkgkkefjaoaa
open Go.RowKit

set_option maxHeartbeats 400000 in
set_option maxRecDepth 100000 in
theorem num_nil (w : World) : Calls Try.prog 30 #[.nilIface] w fun e w' => e = .returned (.int .i64 0) ∧ w = w' := by
  go_enter Try.func30, Try.ntmps30
  go_wp2
  go_ret
  exact ⟨rfl, rfl⟩
set_option maxHeartbeats 400000 in
set_option maxRecDepth 100000 in
theorem num_errno (a : Int) (w : World) : Calls Try.prog 30 #[.iface 76 (.int .i64 a)] w fun e w' => e = .returned (.int .i64 a) ∧ w = w' := by
  have hta : ∀ w : World, (Instr.typeAssert (.iface 76 (.int .i64 a)) 39 76 true).run Try.prog w = .ok (.tuple #[.int .i64 a, .bool true]) w := fun _ => by kernel_rfl
  go_enter Try.func30, Try.ntmps30
  go_wp2
  go_ret
  exact ⟨rfl, rfl⟩
end Go.Proofs.Ytnbjkgkkefjaoaa
