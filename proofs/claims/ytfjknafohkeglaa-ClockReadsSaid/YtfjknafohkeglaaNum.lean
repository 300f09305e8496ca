/- What Num returns where the statements call it. -/
import Derived.Test.YtfjknafohkeglaaBase
namespace Go.Proofs.Ytfjknafohkeglaa
open Go.RowKit

set_option maxHeartbeats 400000 in
set_option maxRecDepth 100000 in
theorem num_nil (w : World) : Calls Try.prog 10 #[.nilIface] w fun e w' => e = .returned (.int .i64 0) ∧ w = w' := by
  go_enter Try.func10, Try.ntmps10
  go_wp2
  go_ret
  exact ⟨rfl, rfl⟩
set_option maxHeartbeats 400000 in
set_option maxRecDepth 100000 in
theorem num_errno (a : Int) (w : World) : Calls Try.prog 10 #[.iface 40 (.int .i64 a)] w fun e w' => e = .returned (.int .i64 a) ∧ w = w' := by
  have hta : ∀ w : World, (Instr.typeAssert (.iface 40 (.int .i64 a)) 26 40 true).run Try.prog w = .ok (.tuple #[.int .i64 a, .bool true]) w := fun _ => by kernel_rfl
  go_enter Try.func10, Try.ntmps10
  go_wp2
  go_ret
  exact ⟨rfl, rfl⟩
end Go.Proofs.Ytfjknafohkeglaa
