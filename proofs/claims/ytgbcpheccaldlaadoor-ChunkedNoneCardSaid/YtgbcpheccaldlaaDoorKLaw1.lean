/- ChunkedNone: for every slice of bytes the statement's function returns true: the walk. -/
import Derived.Test.YtgbcpheccaldlaaDoorKDone
import Derived.Test.YtgbcpheccaldlaaDoorAIsErr
namespace Go.Proofs.YtgbcpheccaldlaaDoor
open Go.RowKit

set_option maxHeartbeats 1000000 in
set_option maxRecDepth 100000 in
theorem ck_none_walk (a : Option Addr) (n c : Nat) (w : World) (hM : HasMax w) :
    Calls Tryd.prog 11 #[.slice a n c] w fun e w' => e = .returned (.bool true) ∧ Below w.heap.size w w' := by
  go_enter Tryd.func11, Tryd.ntmps11
  go_wp2_with fail
  refine (awake7_any w hM).mono ?_
  rintro e w1 ⟨rfl, hB⟩
  go_wp2_with fail
  refine (write_nil _ _).mono ?_
  rintro e w' ⟨rfl, rfl⟩
  go_wp2_with fail
  refine (trailers_nil _).mono ?_
  rintro e w' ⟨rfl, rfl⟩
  go_wp2_with fail
  refine (isErr_any 3 (by decide) _).mono ?_
  rintro e w' ⟨rfl, rfl⟩
  go_wp2_with fail
  refine (done_nil _).mono ?_
  rintro e w' ⟨rfl, rfl⟩
  go_wp2_with fail
  go_ret
  exact ⟨rfl, hB⟩
theorem ck_none_walk2 (v : Value) (l : List UInt8) (w : World) (hM : HasMax w) (hr : ReadsB w v l) (_ : l.length ≤ 140737488355328) :
    Calls Tryd.prog 11 #[v] w fun e w' => e = .returned (.bool true) ∧ Below w.heap.size w w' := by
  obtain ⟨a, c, rfl, _⟩ := hr
  exact ck_none_walk a _ c w hM
end Go.Proofs.YtgbcpheccaldlaaDoor
