/- What None, normalTime and normal return, and the reference's None and time. -/
import Derived.Test.YtnjjjfbklgdgpaaDoorDMem
import Derived.Deep.QuietTactic
import Derived.BigQuiet
import Derived.Deep.DeepCutAuto
import Derived.Deep.CutBlock
namespace Go.Proofs.YtnjjjfbklgdgpaaDoor
open Go.RowKit

abbrev In64 (n : Int) : Prop := -9223372036854775808 ≤ n ∧ n ≤ 9223372036854775807
theorem normalTime_any (n : Int) (w : World) (h : In64 n) :
    Calls Tryd.prog 49 #[.int .i64 n] w fun e w' => e = .returned (.int .i64 (normT n)) ∧ w = w' := by
  have HR := Lib.hid (show normT n = min (max n (-1)) 2147483647 from rfl)
  go_enter Tryd.func49, Tryd.ntmps49
  go_wp2
  go_ret
  exact ⟨by first | (rw [HR.out]; rfl) | rw [HR.out], rfl⟩
abbrev zD : Dv := ⟨false, false, false, false, false, false, 0, 0, 0, 0, 0, 0⟩
set_option maxHeartbeats 2000000 in
set_option maxRecDepth 100000 in
theorem none_any (w : World) : Calls Tryd.prog 18 #[] w fun e w' => e = .returned (dvV noneD) ∧ Below w.heap.size w w' := by
  have HB := Lib.hid (below_new w (.cells (dvC zD) 28))
  have hD := dvB_new w zD 28
  go_enter Tryd.func18, Tryd.ntmps18
  go_upto_region 1 with fail
  change Code.wp _ _ _ _ (w.alloc (.cells (dvC zD) 28))
  generalize (w.alloc (.cells (dvC zD) 28)) = W at *
  obtain ⟨c0, c1, c2, c3, c4, c5, c6, c7, c8, c9, c10, c11, fr, lt⟩ := hD
  go_wp2_with fail
  refine bodyPost_ret (v := .agg #[.bool false, .bool false, .bool false, .bool false, .bool false, .bool false, .int .i64 (-1), .int .i64 (-1), .int .i64 (-1), .int .i64 (-1), .int .i64 (-1), .int .i64 (-1)]) (by simp [results, Tryd.results18, go_sem, c0, c1, c2, c3, c4, c5, c6, c7, c8, c9, c10, c11]) rfl ?_
  exact ⟨rfl, below_dv HB.out (Nat.le_refl _) _ _ _ _ _ _ _ _ _ _ _ _⟩
end Go.Proofs.YtnjjjfbklgdgpaaDoor
