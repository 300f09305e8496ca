/- SyntaxQuotes and SyntaxUnquotes: for every string the statements' functions return true: the walks. -/
import Derived.Test.YtjcekkgoohkomaaDoorRefUnquote
import Derived.Test.YtjcekkgoohkomaaDoorAwake
import Derived.Test.YtjcekkgoohkomaaDoorIs
namespace Go.Proofs.YtjcekkgoohkomaaDoor
open Go.RowKit

set_option maxHeartbeats 400000 in
theorem code_true (w : World) : Calls Tryd.prog 27 #[.bool true] w fun e w' => e = .returned (.int .i64 0) ∧ w = w' := by
  go_enter Tryd.func27, Tryd.ntmps27
  go_wp2
  go_ret
  exact ⟨rfl, rfl⟩
set_option maxHeartbeats 400000 in
theorem code_false (w : World) : Calls Tryd.prog 27 #[.bool false] w fun e w' => e = .returned (.int .i64 2) ∧ w = w' := by
  go_enter Tryd.func27, Tryd.ntmps27
  go_wp2
  go_ret
  exact ⟨rfl, rfl⟩
theorem unquote_quote (s : ByteArray) (w : World) (hs : s.size ≤ 400) (hc : ctlS s.data.toList = false) :
    Calls Tryd.prog 25 #[.string (strB (quoS s.data.toList))] w fun e w' => e = .returned (.tuple #[.string s, .nilIface]) ∧ Below w.heap.size w w' := by
  have hz : (strB (quoS s.data.toList)).size ≤ 1000000000 := by
    rw [strB_size]; have := escS_le s.data.toList; simp [quoS] at *; omega
  refine (unquote_any _ w hz).mono ?_
  rintro e w' ⟨hb, he⟩
  rw [strB_list, unq_quo _ hc] at he
  exact ⟨by rw [he, strB_of], hb⟩
end Go.Proofs.YtjcekkgoohkomaaDoor
namespace Go.Proofs.YtjcekkgoohkomaaDoor.quotes
open Go.RowKit
set_option maxHeartbeats 1000000 in
set_option maxRecDepth 100000 in
theorem walk (s : ByteArray) (w : World) (_hs : s.size ≤ maxLen) :
    Calls Tryd.prog 5 #[.string s] w fun e w' => e = .returned (.bool true) ∧ Below w.heap.size w w' := by
  by_cases h400 : s.size ≤ 400
  · cases hc : ctlS s.data.toList with
    | true =>
      go_enter Tryd.func5, Tryd.ntmps5
      go_wp2_with fail
      refine (awake_any _).mono ?_
      rintro e w1 ⟨rfl, hB⟩
      go_wp2_with fail
      refine (quote_bad s _ (by omega) hc).mono ?_
      rintro e w' ⟨rfl, rfl⟩
      go_wp2_with fail
      refine (refQuote_any s _ (by omega)).mono ?_
      rintro e w2 ⟨he, hB2⟩
      rw [hc] at he
      subst he
      go_wp2_with fail
      refine (is_errno 2 (by decide) _).mono ?_
      rintro e w' ⟨rfl, rfl⟩
      go_wp2_with fail
      go_ret
      exact ⟨rfl, hB.trans (hB2.mono hB.size)⟩
    | false =>
      go_enter Tryd.func5, Tryd.ntmps5
      go_wp2_with fail
      refine (awake_any _).mono ?_
      rintro e w1 ⟨rfl, hB⟩
      go_wp2_with fail
      refine (quote_good s _ (by omega) hc).mono ?_
      rintro e w2 ⟨rfl, hB2⟩
      have hB12 := hB.trans (hB2.mono hB.size)
      go_wp2_with fail
      refine (refQuote_any s _ (by omega)).mono ?_
      rintro e w3 ⟨he, hB3⟩
      have hB13 := hB12.trans (hB3.mono hB12.size)
      rw [hc] at he
      subst he
      go_wp2_with fail
      refine (unquote_quote s _ h400 hc).mono ?_
      rintro e w4 ⟨rfl, hB4⟩
      go_wp2_with fail
      go_ret
      exact ⟨ret_bool (by simp), hB13.trans (hB4.mono hB13.size)⟩
  · go_enter Tryd.func5, Tryd.ntmps5
    go_wp2_with fail
    refine (awake_any _).mono ?_
    rintro e w1 ⟨rfl, hB⟩
    go_wp2_with fail
    refine (awake_any _).mono ?_
    rintro e w2 ⟨rfl, hB2⟩
    go_wp2_with fail
    go_ret
    exact ⟨rfl, hB.trans (hB2.mono hB.size)⟩
end Go.Proofs.YtjcekkgoohkomaaDoor.quotes
namespace Go.Proofs.YtjcekkgoohkomaaDoor.unquotes
open Go.RowKit
set_option maxHeartbeats 1000000 in
set_option maxRecDepth 100000 in
theorem walk (s : ByteArray) (w : World) (_hs : s.size ≤ maxLen) :
    Calls Tryd.prog 6 #[.string s] w fun e w' => e = .returned (.bool true) ∧ Below w.heap.size w w' := by
  by_cases h400 : s.size ≤ 400
  · cases hu : unqO s.data.toList with
    | none =>
      go_enter Tryd.func6, Tryd.ntmps6
      go_wp2_with fail
      refine (awake_any _).mono ?_
      rintro e w1 ⟨rfl, hB⟩
      go_wp2_with fail
      refine (unquote_any s _ (by omega)).mono ?_
      rintro e w2 ⟨hB2, he⟩
      rw [hu] at he
      subst he
      go_wp2_with fail
      refine (refUnquote_any s _ (by omega)).mono ?_
      rintro e w3 ⟨rfl, he⟩
      rw [hu] at he
      subst he
      go_wp2_with fail
      refine (num_errno 2 _).mono ?_
      rintro e w' ⟨rfl, rfl⟩
      go_wp2_with fail
      refine (code_false _).mono ?_
      rintro e w' ⟨rfl, rfl⟩
      go_wp2_with fail
      go_ret
      exact ⟨rfl, hB.trans (hB2.mono hB.size)⟩
    | some l =>
      go_enter Tryd.func6, Tryd.ntmps6
      go_wp2_with fail
      refine (awake_any _).mono ?_
      rintro e w1 ⟨rfl, hB⟩
      go_wp2_with fail
      refine (unquote_any s _ (by omega)).mono ?_
      rintro e w2 ⟨hB2, he⟩
      rw [hu] at he
      subst he
      go_wp2_with fail
      refine (refUnquote_any s _ (by omega)).mono ?_
      rintro e w3 ⟨rfl, he⟩
      rw [hu] at he
      subst he
      go_wp2_with fail
      refine (num_nil _).mono ?_
      rintro e w' ⟨rfl, rfl⟩
      go_wp2_with fail
      refine (code_true _).mono ?_
      rintro e w' ⟨rfl, rfl⟩
      go_wp2_with fail
      go_ret
      exact ⟨ret_bool (by simp), hB.trans (hB2.mono hB.size)⟩
  · go_enter Tryd.func6, Tryd.ntmps6
    go_wp2_with fail
    refine (awake_any _).mono ?_
    rintro e w1 ⟨rfl, hB⟩
    go_wp2_with fail
    refine (awake_any _).mono ?_
    rintro e w2 ⟨rfl, hB2⟩
    go_wp2_with fail
    go_ret
    exact ⟨rfl, hB.trans (hB2.mono hB.size)⟩
end Go.Proofs.YtjcekkgoohkomaaDoor.unquotes
