/- FieldNames: for every string the statement's function returns true: the walk. -/
import Derived.Test.YtjcekkgoohkomaaDoorFGet
import Derived.Test.YtjcekkgoohkomaaDoorFName
namespace Go.Proofs.YtjcekkgoohkomaaDoor.names
open Go.RowKit

theorem num_errV (c : Nat) (w : World) : Calls Tryd.prog 18 #[errV c] w fun e w' => e = .returned (.int .i64 c) ∧ w = w' := by
  unfold errV
  by_cases h : c = 0
  · rw [if_pos h]; subst h; exact num_nil w
  · rw [if_neg h]; exact num_errno c w

set_option maxHeartbeats 1000000 in
set_option maxRecDepth 100000 in
theorem walk (s : ByteArray) (w : World) (_hs : s.size ≤ maxLen) :
    Calls Tryd.prog 3 #[.string s] w fun e w' => e = .returned (.bool true) ∧ Below w.heap.size w w' := by
  by_cases h : s.size ≤ 3000
  · have q1 : ((strB (nameR s.data.toList)).toList == (strB (nameR s.data.toList)).toList) = true := beq_self_eq_true _
    have q2 : ((strB (valueR s.data.toList)).toList == (strB (valueR s.data.toList)).toList) = true := beq_self_eq_true _
    generalize hn : nameR s.data.toList = n at q1
    generalize hv : valueR s.data.toList = v at q2
    generalize hc : nameC s.data.toList = c
    generalize hd : valueC s.data.toList = d
    have N1 := fun w => name_any s w (by omega)
    have N2 := fun w => value_any s w (by omega)
    have N3 := fun w => refName_any s w (by omega)
    have N4 := fun w => refValue_any s w (by omega)
    rw [hn, hc] at N1 N3
    rw [hv, hd] at N2 N4
    clear hn hv hc hd
    go_enter Tryd.func3, Tryd.ntmps3
    go_wp2_with fail
    refine (awake_any _).mono ?_
    rintro e w1 ⟨rfl, hB⟩
    go_wp2_with fail
    refine (N1 _).mono ?_
    rintro e w2 ⟨rfl, hB2⟩
    go_wp2_with fail
    refine (N2 _).mono ?_
    rintro e w3 ⟨rfl, hB3⟩
    go_wp2_with fail
    refine (N3 _).mono ?_
    rintro e w4 ⟨rfl, hB4⟩
    go_wp2_with fail
    refine (N4 _).mono ?_
    rintro e w' ⟨rfl, rfl⟩
    clear N1 N2 N3 N4
    go_wp2_with fail
    refine (num_errV c _).mono ?_
    rintro e w' ⟨rfl, rfl⟩
    go_wp2_with fail
    refine (num_errV d _).mono ?_
    rintro e w' ⟨rfl, rfl⟩
    go_wp2_with fail
    go_ret
    exact ⟨by first | rfl | simp, hB.trans ((hB2.trans ((hB3.trans (hB4.mono hB3.size)).mono hB2.size)).mono hB.size)⟩
  · go_enter Tryd.func3, Tryd.ntmps3
    go_wp2_with fail
    refine (awake_any _).mono ?_
    rintro e w1 ⟨rfl, hB⟩
    go_wp2_with fail
    refine (awake_any _).mono ?_
    rintro e w2 ⟨rfl, hB2⟩
    go_wp2_with fail
    go_ret
    exact ⟨rfl, hB.trans (hB2.mono hB.size)⟩
end Go.Proofs.YtjcekkgoohkomaaDoor.names
