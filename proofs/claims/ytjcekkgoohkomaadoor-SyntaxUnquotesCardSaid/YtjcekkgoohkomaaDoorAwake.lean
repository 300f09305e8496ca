/- The statements' fixed example: awake returns true. -/
import Derived.Test.YtjcekkgoohkomaaDoorTexts
import Derived.Test.YtjcekkgoohkomaaDoorList
import Derived.Test.YtjcekkgoohkomaaDoorNumber
namespace Go.Proofs.YtjcekkgoohkomaaDoor
open Go.RowKit

def L3 : List (List UInt8) := [[97], [34, 98, 44, 99, 34], [100]]
theorem awake_list : listO (⟨#[97, 44, 32, 34, 98, 44, 99, 34, 32, 44, 44, 32, 100]⟩ : ByteArray).data.toList = some [[97], [34, 98, 44, 99, 34], [100]] := by decide
theorem awake_l (w : World) : Calls Tryd.prog 28 #[.string ⟨#[97, 44, 32, 34, 98, 44, 99, 34, 32, 44, 44, 32, 100]⟩] w fun e w' =>
    ∃ v, e = .returned (.tuple #[v, .nilIface]) ∧ ReadsS w' v L3 ∧ Below w.heap.size w w' := by
  refine (list_any _ w (by decide)).mono ?_
  rintro e w1 ⟨hB, he⟩
  rw [awake_list] at he
  obtain ⟨v, rfl, hv, _⟩ := he
  exact ⟨v, rfl, hv.reads, hB⟩
theorem awake_n (w : World) : Calls Tryd.prog 52 #[.string ⟨#[48, 48, 55]⟩] w fun e w' => e = .returned (.tuple #[.int .i64 7, .nilIface]) ∧ w = w' :=
  number_good _ w (by decide) ⟨by decide, by decide⟩
theorem awake_t (w : World) : Calls Tryd.prog 20 #[.string ⟨#[97]⟩] w fun e w' => e = .returned (.bool true) ∧ w = w' :=
  token_any _ w (by decide)
theorem awake_f (w : World) : Calls Tryd.prog 20 #[.string ⟨#[97, 32, 98]⟩] w fun e w' => e = .returned (.bool false) ∧ w = w' :=
  token_any _ w (by decide)
theorem reads_new (w : World) : ReadsS (w.alloc (.cells #[.string ⟨#[97]⟩, .string ⟨#[34, 98, 44, 99, 34]⟩, .string ⟨#[100]⟩] 9)) (.slice (some ⟨w.heap.size, 0, none⟩) 3 3) L3 := by
  refine ⟨_, 3, rfl, fun j l hj => ⟨w.heap.size, 0, rfl, by simp, ?_⟩⟩
  rw [World.cell?_alloc_at _ _ _ _ rfl]
  unfold L3 at hj
  match j, hj with
  | 0, hj => simp at hj; subst hj; rfl
  | 1, hj => simp at hj; subst hj; rfl
  | 2, hj => simp at hj; subst hj; rfl
  | j + 3, hj => simp at hj

theorem awake_x (w1 : World) (v : Value) (hv : ReadsS w1 v L3) : Calls Tryd.prog 30 #[v, .slice (some ⟨w1.heap.size, 0, none⟩) 3 3]
    (w1.alloc (.cells #[.string ⟨#[97]⟩, .string ⟨#[34, 98, 44, 99, 34]⟩, .string ⟨#[100]⟩] 9))
    fun e w' => e = .returned (.bool true) ∧ ∃ n, w' = (w1.alloc (.cells #[.string ⟨#[97]⟩, .string ⟨#[34, 98, 44, 99, 34]⟩, .string ⟨#[100]⟩] 9)).drewN n := by
  refine (texts_any _ _ L3 L3 _ (hv.below ((Below.refl _ _).alloc (Nat.le_refl _) _)) (reads_new w1) (by decide) (by decide)).mono ?_
  rintro e w2 ⟨he, n, hn⟩
  exact ⟨by rw [he, decide_eq_true rfl], n, hn⟩

set_option maxHeartbeats 400000 in
set_option maxRecDepth 100000 in
theorem awake_any (w : World) : Calls Tryd.prog 19 #[] w fun e w' => e = .returned (.bool true) ∧ Below w.heap.size w w' := by
  go_enter Tryd.func19, Tryd.ntmps19
  go_wp2_with fail
  refine (awake_l _).mono ?_
  rintro e w1 ⟨v, rfl, hv, hB⟩
  go_wp2_with fail
  refine (awake_n _).mono ?_
  rintro e w' ⟨rfl, rfl⟩
  go_wp2_with fail
  refine (awake_x w1 v hv).mono ?_
  rintro e w2 ⟨rfl, n, rfl⟩
  go_wp2_with fail
  refine (awake_t _).mono ?_
  rintro e w' ⟨rfl, rfl⟩
  go_wp2_with fail
  refine (awake_f _).mono ?_
  rintro e w' ⟨rfl, rfl⟩
  go_wp2_with fail
  go_ret
  exact ⟨rfl, below_drewN (hB.alloc hB.size _) n⟩
end Go.Proofs.YtjcekkgoohkomaaDoor
