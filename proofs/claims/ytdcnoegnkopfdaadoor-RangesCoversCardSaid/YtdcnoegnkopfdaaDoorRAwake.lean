/- The statements' fixed example: awake returns true. -/
import Derived.Test.YtdcnoegnkopfdaaDoorRParse
import Derived.Test.YtdcnoegnkopfdaaDoorRAre
namespace Go.Proofs.YtdcnoegnkopfdaaDoor
open Go.RowKit

theorem awake_parse : parseR (⟨#[98, 121, 116, 101, 115, 61, 48, 45, 52, 44, 32, 45, 51, 44, 50, 48, 45]⟩ : ByteArray).data.toList 10 = .ok [(0, 5), (7, 10)] := by kernel_rfl
theorem awake_p (w : World) (hM : MaxIs w) : Calls Tryd.prog 11 #[.string ⟨#[98, 121, 116, 101, 115, 61, 48, 45, 52, 44, 32, 45, 51, 44, 50, 48, 45]⟩, .int .i64 10] w fun e w' =>
    ∃ v, e = .returned (.tuple #[v, .nilIface]) ∧ ReadsI w' v [(0, 5), (7, 10)] ∧ Below w.heap.size w w' := by
  refine (parse_any _ 10 w hM (by decide) (by decide) (by decide)).mono ?_
  rintro e w1 ⟨hB, he⟩
  rw [awake_parse] at he
  obtain ⟨v, rfl, hv, _⟩ := he
  exact ⟨v, rfl, hv.reads, hB⟩
theorem readsI_new (w : World) (a b c d : Int) (T : TypeId) : ReadsI (w.alloc (.cells #[.int .i64 a, .int .i64 b, .int .i64 c, .int .i64 d] T)) (.slice (some ⟨w.heap.size, 0, none⟩) 2 2) [(a, b), (c, d)] := by
  refine ⟨_, 2, rfl, fun j p hj => ⟨w.heap.size, 0, rfl, by simp, ?_, ?_⟩⟩
  all_goals
    rw [World.cell?_alloc_at _ _ _ _ rfl]
    match j, hj with
    | 0, hj => simp at hj; subst hj; rfl
    | 1, hj => simp at hj; subst hj; rfl
    | j + 2, hj => simp at hj
set_option maxHeartbeats 1000000 in
set_option maxRecDepth 100000 in
theorem awake9_any (w : World) (hM : MaxIs w) : Calls Tryd.prog 10 #[] w fun e w' => e = .returned (.bool true) ∧ Below w.heap.size w w' := by
  go_enter Tryd.func10, Tryd.ntmps10
  go_wp2_with fail
  refine (awake_p _ hM).mono ?_
  rintro e w1 ⟨v, rfl, hv, hB⟩
  go_wp2_with fail
  refine (are_any v _ [(0, 5), (7, 10)] [(0, 5), (7, 10)] _ (hv.below (below_new _ _)) (readsI_new w1 0 5 7 10 _) (by decide) (by decide)).mono ?_
  rintro e w2 ⟨he, n, rfl⟩
  rw [decide_eq_true rfl] at he
  subst he
  go_wp2_with fail
  go_ret
  exact ⟨rfl, below_drewN (hB.alloc hB.size _) n⟩
end Go.Proofs.YtdcnoegnkopfdaaDoor
