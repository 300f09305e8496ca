import Derived.Test.YtieolalohindgaaGreatDoorPa41
/- What Field, Fresh and Stale return, and the statements' awake and Times. -/
namespace Go.Proofs.YtieolalohindgaaGreatDoor
open Go.RowKit Go.Sort

def agFldV (s r a n p : Int) : Value := if okA s r n = true then .tuple #[.int .i64 (topA s a n p / 1000), .nilIface] else .tuple #[.int .i64 0, .iface 92 (.int .i64 7)]
theorem agFldV_yes {s r a n p : Int} (h : okA s r n = true) : agFldV s r a n p = .tuple #[.int .i64 (topA s a n p / 1000), .nilIface] := if_pos h
theorem agFldV_no {s r a n p : Int} (h : okA s r n = false) : agFldV s r a n p = .tuple #[.int .i64 0, .iface 92 (.int .i64 7)] := if_neg (by rw [h]; simp)
set_option maxHeartbeats 1000000 in
theorem fresh_any (s r a n p l : Int) (w : World) :
    Calls Tryz.prog 29 #[tmV s r a, .int .i64 n, .int .i64 p, .int .i64 l] w fun e w' => e = .returned (.bool (frA s r a n p l)) ∧ Gr w w' := by
  have H := Lib.hid (fun W => at_any s r a n p W)
  unfold frA
  cases h : okA s r n with
  | true =>
    rw [atV_yes h] at H
    clear h
    obtain ⟨L, hL⟩ : ∃ L, lowA r n p = L := ⟨_, rfl⟩
    obtain ⟨U, hU⟩ : ∃ U, topA s a n p = U := ⟨_, rfl⟩
    rw [hL] at H
    rw [hU] at H ⊢
    clear hL hU
    by_cases q : U < l
    all_goals
      go_enter Tryz.func29, Tryz.ntmps29
      go_wp2_with fail
      refine (H.out _).mono ?_
      rintro e w1 ⟨rfl, hG⟩
      have HG := Lib.hid ((gr_new w (.cells #[.int .i64 s, .int .i64 r, .int .i64 a] 36)).trans hG)
      clear hG
      go_wp2_with fail
      go_ret
      exact ⟨ret_bool (by simp [q]), HG.out⟩
  | false =>
    rw [atV_no h] at H
    clear h
    go_enter Tryz.func29, Tryz.ntmps29
    go_wp2_with fail
    refine (H.out _).mono ?_
    rintro e w1 ⟨rfl, hG⟩
    have HG := Lib.hid ((gr_new w (.cells #[.int .i64 s, .int .i64 r, .int .i64 a] 36)).trans hG)
    clear hG
    go_wp2_with fail
    go_ret
    exact ⟨rfl, HG.out⟩
set_option maxHeartbeats 1000000 in
theorem times_any (s r a : Int) (w : World) :
    Calls Tryz.prog 35 #[tmV s r a] w fun e w' => e = .returned (tmV s r a) ∧ Gr w w' := by
  have b : Below w.heap.size w ((w.alloc (.cells #[.int .i64 s, .int .i64 r, .int .i64 a] 24)).alloc (.cells #[.int .i64 s, .int .i64 r, .int .i64 a] 36)) := below_two2 _ _ _
  go_enter Tryz.func35, Tryz.ntmps35
  go_wp2
  exact bodyPost_ret (v := tmV s r a) (by simp [results, Tryz.results35, go_sem]) rfl ⟨rfl, (gr_new _ _).alloc _⟩
end Go.Proofs.YtieolalohindgaaGreatDoor
