/- What Is and Clip return where the statements call them. -/
import Derived.Test.YtdcnoegnkopfdaaDoorNumber
import Derived.Test.YtdcnoegnkopfdaaDoorNum
namespace Go.Proofs.YtdcnoegnkopfdaaDoor
open Go.RowKit

set_option maxHeartbeats 400000 in
set_option maxRecDepth 100000 in
theorem is_errno (a : Int) (ha : (a != 0) = true) (w : World) : Calls Tryd.prog 18 #[.iface 41 (.int .i64 a), .int .i64 a] w fun e w' => e = .returned (.bool true) ∧ w = w' := by
  go_enter Tryd.func18, Tryd.ntmps18
  go_wp2_with (go_at_call 13; refine (num_errno _ _).mono ?_; rintro e w' ⟨rfl, rfl⟩)
  go_ret
  exact ⟨rfl, rfl⟩
set_option maxHeartbeats 400000 in
set_option maxRecDepth 100000 in
theorem is_nil (b : Int) (hb : ((0 : Int) == b) = false) (w : World) : Calls Tryd.prog 18 #[.nilIface, .int .i64 b] w fun e w' => e = .returned (.bool false) ∧ w = w' := by
  go_enter Tryd.func18, Tryd.ntmps18
  go_wp2_with (go_at_call 13; refine (num_nil _).mono ?_; rintro e w' ⟨rfl, rfl⟩)
  go_ret
  exact ⟨rfl, rfl⟩
set_option maxHeartbeats 400000 in
set_option maxRecDepth 100000 in
theorem clip_any (n : Int) (w : World) : Calls Tryd.prog 32 #[.int .i64 n, .int .i64 0, .int .i64 999999999999999] w fun e w' => ∃ m : Nat, e = .returned (.int .i64 m) ∧ m ≤ 999999999999999 ∧ w = w' := by
  by_cases h1 : n ≤ 0
  · go_enter Tryd.func32, Tryd.ntmps32
    have h2 : n ≤ 999999999999999 := by omega
    go_wp2
    go_ret
    exact ⟨0, rfl, by omega, rfl⟩
  · by_cases h2 : n ≤ 999999999999999
    · obtain ⟨m, rfl⟩ : ∃ m : Nat, n = m := ⟨n.toNat, by omega⟩
      have h3 : 0 < m := by omega
      go_enter Tryd.func32, Tryd.ntmps32
      go_wp2
      go_ret
      exact ⟨m, rfl, by omega, rfl⟩
    · have h3 : 999999999999999 < n := by omega
      go_enter Tryd.func32, Tryd.ntmps32
      go_wp2
      go_ret
      exact ⟨999999999999999, rfl, by omega, rfl⟩
end Go.Proofs.YtdcnoegnkopfdaaDoor
