/- SyntaxLists: for every string the statement's function returns true: the walk. -/
import Derived.Test.YtjcekkgoohkomaaDoorRefList
import Derived.Test.YtjcekkgoohkomaaDoorAwake
import Derived.Test.YtjcekkgoohkomaaDoorIs
namespace Go.Proofs.YtjcekkgoohkomaaDoor.lists
open Go.RowKit

set_option maxHeartbeats 1000000 in
set_option maxRecDepth 100000 in
theorem walk (s : ByteArray) (w : World) (_hs : s.size ≤ maxLen) :
    Calls Tryd.prog 7 #[.string s] w fun e w' => e = .returned (.bool true) ∧ Below w.heap.size w w' := by
  by_cases h400 : s.size ≤ 400
  · go_enter Tryd.func7, Tryd.ntmps7
    go_wp2_with fail
    refine (awake_any _).mono ?_
    rintro e w1 ⟨rfl, hB⟩
    go_wp2_with fail
    refine (list_any s _ (by omega)).mono ?_
    rintro e w2 ⟨hB2, he⟩
    cases hl : listO s.data.toList with
    | none =>
      rw [hl] at he
      subst he
      go_wp2_with fail
      refine (refList_any s _ (by omega)).mono ?_
      rintro e w3 ⟨hB3, he⟩
      rw [hl] at he
      subst he
      go_wp2_with fail
      refine (is_errno 2 (by decide) _).mono ?_
      rintro e w' ⟨rfl, rfl⟩
      go_wp2_with fail
      go_ret
      exact ⟨rfl, hB.trans ((hB2.trans (hB3.mono hB2.size)).mono hB.size)⟩
    | some ls =>
      rw [hl] at he
      obtain ⟨v, rfl, hv, hle⟩ := he
      go_wp2_with fail
      refine (refList_any s _ (by omega)).mono ?_
      rintro e w3 ⟨hB3, he⟩
      rw [hl] at he
      obtain ⟨u, rfl, hu, _⟩ := he
      go_wp2_with fail
      refine (texts_any _ _ ls ls _ (hv.reads.below hB3) hu.reads (by omega) (by omega)).mono ?_
      rintro e w' ⟨he, n, rfl⟩
      rw [decide_eq_true rfl] at he
      subst he
      go_wp2_with fail
      go_ret
      exact ⟨rfl, below_drewN (hB.trans ((hB2.trans (hB3.mono hB2.size)).mono hB.size)) n⟩
  · go_enter Tryd.func7, Tryd.ntmps7
    go_wp2_with fail
    refine (awake_any _).mono ?_
    rintro e w1 ⟨rfl, hB⟩
    go_wp2_with fail
    refine (awake_any _).mono ?_
    rintro e w2 ⟨rfl, hB2⟩
    go_wp2_with fail
    go_ret
    exact ⟨rfl, hB.trans (hB2.mono hB.size)⟩
end Go.Proofs.YtjcekkgoohkomaaDoor.lists
