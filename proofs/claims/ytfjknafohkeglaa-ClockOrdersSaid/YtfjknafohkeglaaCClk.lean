/- What the functions of package clock return, and those of the reference. -/
import Derived.Test.YtfjknafohkeglaaBase
import Derived.Test.YtfjknafohkeglaaCPure
namespace Go.Proofs.Ytfjknafohkeglaa
open Go.RowKit

theorem wrap_in {x : Int} (h0 : -9223372036854775808 ≤ x) (h1 : x < 9223372036854775808) : wrap64 x = x := by unfold wrap64; omega
theorem ret_i {k : IntKind} {a b : Int} (h : a = b) : Ending.returned (.int k a) = .returned (.int k b) := by rw [h]
set_option maxHeartbeats 400000 in
theorem clipTime_any (n : Int) (w : World) :
    Calls Try.prog 20 #[.int .i64 n] w fun e w' => e = .returned (.int .i64 (tk n)) ∧ w = w' := by
  go_enter Try.func20, Try.ntmps20
  go_wp2
  all_goals
    go_ret
    exact ⟨ret_i (by unfold tk; omega), rfl⟩
set_option maxHeartbeats 400000 in
theorem clipDrift_any (n : Int) (w : World) :
    Calls Try.prog 18 #[.int .i64 n] w fun e w' => e = .returned (.int .i64 (pm n)) ∧ w = w' := by
  go_enter Try.func18, Try.ntmps18
  go_wp2
  all_goals
    go_ret
    exact ⟨ret_i (by unfold pm; omega), rfl⟩
set_option maxHeartbeats 400000 in
theorem quotientUp_any (n b : Int) (hn : 0 ≤ n) (hn1 : n < 4611686018427387904) (hb : 0 < b) (hb1 : b < 4611686018427387904) (w : World) :
    Calls Try.prog 21 #[.int .i64 n, .int .i64 b] w fun e w' => e = .returned (.int .i64 ((n + b - 1) / b)) ∧ w = w' := by
  have hq : wrap64 ((n + b - 1) / b) = (n + b - 1) / b := wrap_in (by have := Int.ediv_nonneg (a := n + b - 1) (b := b) (by omega) (by omega); omega) (by have := Int.ediv_le_self (a := n + b - 1) b (by omega); omega)
  go_enter Try.func21, Try.ntmps21
  go_wp2
  go_ret
  exact ⟨rfl, rfl⟩
/-- A result of two ints. -/
theorem ret_ii {a b c d : Int} (h : a = c ∧ b = d) : Ending.returned (.tuple #[.int .i64 a, .int .i64 b]) = .returned (.tuple #[.int .i64 c, .int .i64 d]) := by rw [h.1, h.2]
set_option maxHeartbeats 1000000 in
theorem elapsed_any (d q : Int) (w : World) :
    Calls Try.prog 14 #[.int .i64 d, .int .i64 q] w fun e w' => e = .returned (.tuple #[.int .i64 (loE (tk d) (pm q)), .int .i64 (hiE (tk d) (pm q))]) ∧ w = w' := by
  have H1 := Lib.hid (fun W => clipTime_any d W)
  have H2 := Lib.hid (fun W => clipDrift_any q W)
  have b1 := tk_bd d
  have b2 := pm_bd q
  obtain ⟨n, hn⟩ : ∃ n, tk d = n := ⟨_, rfl⟩
  obtain ⟨p, hp⟩ : ∃ p, pm q = p := ⟨_, rfl⟩
  rw [hn] at H1 b1 ⊢
  rw [hp] at H2 b2 ⊢
  clear hn hp
  have hb := hi_bd n p b1.1 b2.1 b2.2
  have hl := lo_bd n p b1.1 b2.1 b2.2
  have eh : Hid (hiE n p = ((n + 1) * 1000000 + (1000000 - p) - 1) / (1000000 - p) - 1) := by show _ = _; rfl
  obtain ⟨X, hX⟩ : ∃ X, ((n + 1) * 1000000 + (1000000 - p) - 1) / (1000000 - p) = X := ⟨_, rfl⟩
  have H3 := Lib.hid (fun W => quotientUp_any ((n + 1) * 1000000) (1000000 - p) (by omega) (by omega) (by omega) (by omega) W)
  rw [hX] at H3
  have eh := Lib.hid (show hiE n p = X - 1 by rw [← hX]; rfl)
  have hX2 : n ≤ X - 1 ∧ (X - 1) * 9 < (n + 1) * 10 := by rw [← eh.out]; exact hb
  clear hX hb
  by_cases h : n = 0
  · subst h
    go_enter Try.func14, Try.ntmps14
    go_wp2_with fail
    refine (H1.out _).mono ?_
    rintro e w' ⟨rfl, rfl⟩
    go_wp2_with fail
    refine (H2.out _).mono ?_
    rintro e w' ⟨rfl, rfl⟩
    go_wp2_with fail
    refine (H3.out _).mono ?_
    rintro e w' ⟨rfl, rfl⟩
    go_wp2_with fail
    go_ret2
    exact ⟨ret_ii ⟨by rw [lo_zero], eh.out.symm⟩, rfl⟩
  · have el := Lib.hid (show loE n p = (n - 1) * 1000000 / (1000000 + p) + 1 from if_neg h)
    have hq : wrap64 ((n - 1) * 1000000 / (1000000 + p)) = (n - 1) * 1000000 / (1000000 + p) := by
      rw [el.out] at hl
      exact wrap_in (by omega) (by omega)
    rw [el.out] at hl
    go_enter Try.func14, Try.ntmps14
    go_wp2_with fail
    refine (H1.out _).mono ?_
    rintro e w' ⟨rfl, rfl⟩
    go_wp2_with fail
    refine (H2.out _).mono ?_
    rintro e w' ⟨rfl, rfl⟩
    go_wp2_with fail
    refine (H3.out _).mono ?_
    rintro e w' ⟨rfl, rfl⟩
    go_wp2_with fail
    go_ret2
    exact ⟨ret_ii ⟨el.out.symm, eh.out.symm⟩, rfl⟩
set_option maxHeartbeats 400000 in
theorem isTime_any (n : Int) (w : World) : Calls Try.prog 15 #[.int .i64 n] w fun e w' => e = .returned (.bool (decide (0 ≤ n ∧ n ≤ 1099511627776))) ∧ w = w' := by
  by_cases h : 0 ≤ n
  · by_cases h2 : n ≤ 1099511627776
    all_goals
      go_enter Try.func15, Try.ntmps15
      go_wp2
      go_ret
      exact ⟨ret_bool (by simp; omega), rfl⟩
  · go_enter Try.func15, Try.ntmps15
    go_wp2
    go_ret
    exact ⟨ret_bool (by simp; omega), rfl⟩
set_option maxHeartbeats 400000 in
theorem isTerm_any (n : Int) (w : World) : Calls Try.prog 22 #[.int .i64 n] w fun e w' => e = .returned (.bool (decide (1 ≤ n ∧ n ≤ 1048576))) ∧ w = w' := by
  by_cases h : 1 ≤ n
  · by_cases h2 : n ≤ 1048576
    all_goals
      go_enter Try.func22, Try.ntmps22
      go_wp2
      go_ret
      exact ⟨ret_bool (by simp; omega), rfl⟩
  · go_enter Try.func22, Try.ntmps22
    go_wp2
    go_ret
    exact ⟨ret_bool (by simp; omega), rfl⟩
/- The reference's. -/
set_option maxHeartbeats 400000 in
theorem clip_any (n a b : Int) (w : World) : Calls Try.prog 23 #[.int .i64 n, .int .i64 a, .int .i64 b] w fun e w' => e = .returned (.int .i64 (max a (min n b))) ∧ w = w' := by
  go_enter Try.func23, Try.ntmps23
  go_wp2
  all_goals
    go_ret
    exact ⟨ret_i (by omega), rfl⟩
set_option maxHeartbeats 400000 in
theorem refPpm_any (n : Int) (w : World) : Calls Try.prog 19 #[.int .i64 n] w fun e w' => e = .returned (.int .i64 (pm n)) ∧ w = w' := by
  go_enter Try.func19, Try.ntmps19
  go_wp2_with fail
  refine (clip_any _ _ _ _).mono ?_
  rintro e w' ⟨rfl, rfl⟩
  go_wp2_with fail
  all_goals
    go_ret
    exact ⟨rfl, rfl⟩
end Go.Proofs.Ytfjknafohkeglaa
