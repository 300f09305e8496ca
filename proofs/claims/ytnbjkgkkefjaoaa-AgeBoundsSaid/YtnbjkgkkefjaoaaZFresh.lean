/- What Field, Fresh and Stale return, and the statements' awake and Times. -/
import Derived.Test.YtnbjkgkkefjaoaaZAt
namespace Go.Proofs.Ytnbjkgkkefjaoaa
open Go.RowKit Go.Sort

def fldV (s r a n p : Int) : Value := if okA s r n = true then .tuple #[.int .i64 (topA s a n p / 1000), .nilIface] else .tuple #[.int .i64 0, .iface 76 (.int .i64 7)]
theorem fldV_yes {s r a n p : Int} (h : okA s r n = true) : fldV s r a n p = .tuple #[.int .i64 (topA s a n p / 1000), .nilIface] := if_pos h
theorem fldV_no {s r a n p : Int} (h : okA s r n = false) : fldV s r a n p = .tuple #[.int .i64 0, .iface 76 (.int .i64 7)] := if_neg (by rw [h]; simp)
set_option maxHeartbeats 1000000 in
theorem field_any (s r a n p : Int) (w : World) :
    Calls Try.prog 31 #[tmV s r a, .int .i64 n, .int .i64 p] w fun e w' => e = .returned (fldV s r a n p) ∧ Gr w w' := by
  have H := Lib.hid (fun W => at_any s r a n p W)
  cases h : okA s r n with
  | true =>
    rw [atV_yes h] at H
    have E := Lib.hid (fldV_yes (a := a) (p := p) h)
    have b := top_bd (a := a) (p := p) h
    clear h
    obtain ⟨L, hL⟩ : ∃ L, lowA r n p = L := ⟨_, rfl⟩
    obtain ⟨U, hU⟩ : ∃ U, topA s a n p = U := ⟨_, rfl⟩
    rw [hL] at H
    rw [hU] at H E
    rw [hL, hU] at b
    clear hL hU
    go_enter Try.func31, Try.ntmps31
    go_wp2_with fail
    refine (H.out _).mono ?_
    rintro e w1 ⟨rfl, hG⟩
    have HG := Lib.hid ((gr_new w (.cells #[.int .i64 s, .int .i64 r, .int .i64 a] 57)).trans hG)
    clear hG
    go_wp2_with fail
    go_ret2
    exact ⟨by rw [E.out]; rfl, HG.out⟩
  | false =>
    rw [atV_no h] at H
    have E := Lib.hid (fldV_no (a := a) (p := p) h)
    clear h
    go_enter Try.func31, Try.ntmps31
    go_wp2_with fail
    refine (H.out _).mono ?_
    rintro e w1 ⟨rfl, hG⟩
    have HG := Lib.hid ((gr_new w (.cells #[.int .i64 s, .int .i64 r, .int .i64 a] 57)).trans hG)
    clear hG
    go_wp2_with fail
    go_ret2
    exact ⟨by rw [E.out]; rfl, HG.out⟩
set_option maxHeartbeats 1000000 in
theorem fresh_any (s r a n p l : Int) (w : World) :
    Calls Try.prog 32 #[tmV s r a, .int .i64 n, .int .i64 p, .int .i64 l] w fun e w' => e = .returned (.bool (frA s r a n p l)) ∧ Gr w w' := by
  have H := Lib.hid (fun W => at_any s r a n p W)
  unfold frA
  cases h : okA s r n with
  | true =>
    rw [atV_yes h] at H
    clear h
    obtain ⟨L, hL⟩ : ∃ L, lowA r n p = L := ⟨_, rfl⟩
    obtain ⟨U, hU⟩ : ∃ U, topA s a n p = U := ⟨_, rfl⟩
    rw [hL] at H
    rw [hU] at H ⊢
    clear hL hU
    by_cases q : U < l
    all_goals
      go_enter Try.func32, Try.ntmps32
      go_wp2_with fail
      refine (H.out _).mono ?_
      rintro e w1 ⟨rfl, hG⟩
      have HG := Lib.hid ((gr_new w (.cells #[.int .i64 s, .int .i64 r, .int .i64 a] 57)).trans hG)
      clear hG
      go_wp2_with fail
      go_ret
      exact ⟨ret_bool (by simp [q]), HG.out⟩
  | false =>
    rw [atV_no h] at H
    clear h
    go_enter Try.func32, Try.ntmps32
    go_wp2_with fail
    refine (H.out _).mono ?_
    rintro e w1 ⟨rfl, hG⟩
    have HG := Lib.hid ((gr_new w (.cells #[.int .i64 s, .int .i64 r, .int .i64 a] 57)).trans hG)
    clear hG
    go_wp2_with fail
    go_ret
    exact ⟨rfl, HG.out⟩
set_option maxHeartbeats 1000000 in
theorem stale_any (s r a n p l : Int) (w : World) :
    Calls Try.prog 33 #[tmV s r a, .int .i64 n, .int .i64 p, .int .i64 l] w fun e w' => e = .returned (.bool (stA s r n p l)) ∧ Gr w w' := by
  have H := Lib.hid (fun W => at_any s r a n p W)
  unfold stA
  cases h : okA s r n with
  | true =>
    rw [atV_yes h] at H
    clear h
    obtain ⟨L, hL⟩ : ∃ L, lowA r n p = L := ⟨_, rfl⟩
    obtain ⟨U, hU⟩ : ∃ U, topA s a n p = U := ⟨_, rfl⟩
    rw [hL] at H ⊢
    rw [hU] at H
    clear hL hU
    by_cases q : l ≤ L
    all_goals
      go_enter Try.func33, Try.ntmps33
      go_wp2_with fail
      refine (H.out _).mono ?_
      rintro e w1 ⟨rfl, hG⟩
      have HG := Lib.hid ((gr_new w (.cells #[.int .i64 s, .int .i64 r, .int .i64 a] 57)).trans hG)
      clear hG
      go_wp2_with fail
      go_ret
      exact ⟨ret_bool (by simp [q]), HG.out⟩
  | false =>
    rw [atV_no h] at H
    clear h
    go_enter Try.func33, Try.ntmps33
    go_wp2_with fail
    refine (H.out _).mono ?_
    rintro e w1 ⟨rfl, hG⟩
    have HG := Lib.hid ((gr_new w (.cells #[.int .i64 s, .int .i64 r, .int .i64 a] 57)).trans hG)
    clear hG
    go_wp2_with fail
    go_ret
    exact ⟨rfl, HG.out⟩
set_option maxHeartbeats 1000000 in
theorem times_any (s r a : Int) (w : World) :
    Calls Try.prog 28 #[tmV s r a] w fun e w' => e = .returned (tmV s r a) ∧ Gr w w' := by
  have b : Below w.heap.size w ((w.alloc (.cells #[.int .i64 s, .int .i64 r, .int .i64 a] 52)).alloc (.cells #[.int .i64 s, .int .i64 r, .int .i64 a] 57)) := below_two2 _ _ _
  go_enter Try.func28, Try.ntmps28
  go_wp2
  exact bodyPost_ret (v := tmV s r a) (by simp [results, Try.results28, go_sem]) rfl ⟨rfl, (gr_new _ _).alloc _⟩
set_option maxHeartbeats 1000000 in
theorem awake13_any (w : World) : Calls Try.prog 26 #[] w fun e w' => e = .returned (.bool true) ∧ Gr w w' := by
  have H := Lib.hid (show ∀ W, Calls Try.prog 27 #[tmV 1000 1500 7, .int .i64 3000, .int .i64 0] W fun e w' => e = .returned (.tuple #[.int .i64 1500, .int .i64 10000, .nilIface]) ∧ Gr W w' from fun W => at_any 1000 1500 7 3000 0 W)
  go_enter Try.func26, Try.ntmps26
  go_wp2_with fail
  refine (H.out _).mono ?_
  rintro e w' ⟨rfl, hG⟩
  have HG := Lib.hid hG
  clear hG
  go_wp2_with fail
  go_ret
  exact ⟨rfl, HG.out⟩
end Go.Proofs.Ytnbjkgkkefjaoaa
