import Derived.Test.YtieolalohindgaaGreatDoorPa9
/- What Date, Floor, Clip and Time return, and the reference's leap, length, Day, Date and Weekday. -/
namespace Go.Proofs.YtieolalohindgaaGreatDoor
open Go.RowKit

set_option maxHeartbeats 400000 in
theorem date_no (n : Int) (w : World) (h : n < 0 ∨ 2932896 < n) :
    Calls Tryz.prog 146 #[.int .i64 n] w fun e w' => e = .returned (.tuple #[.int .i64 0, .int .i64 0, .int .i64 0, .iface 92 (.int .i64 1)]) ∧ w = w' := by
  rcases h with h | h
  · go_enter Tryz.func146, Tryz.ntmps146
    go_wp2
    exact bodyPost_ret (v := .tuple #[.int .i64 0, .int .i64 0, .int .i64 0, .iface 92 (.int .i64 1)]) (by simp [results, Tryz.results146, go_sem]) rfl ⟨rfl, rfl⟩
  · have h' : ¬ n < 0 := by omega
    go_enter Tryz.func146, Tryz.ntmps146
    go_wp2
    exact bodyPost_ret (v := .tuple #[.int .i64 0, .int .i64 0, .int .i64 0, .iface 92 (.int .i64 1)]) (by simp [results, Tryz.results146, go_sem]) rfl ⟨rfl, rfl⟩
/-- y, m, d is the date that a search for the day n ended with. -/
theorem date_end {y m d n Y M D : Int} (hD : isD y m d n) (h1 : 1970 ≤ Y) (h2 : Y ≤ 9999) (h3 : 1 ≤ M) (h4 : M ≤ 12) (h5 : 1 ≤ D) (h6 : D ≤ md Y M) (h7 : D = n - ys Y - cum Y M + 1) : Y = y ∧ M = m ∧ D = d := by
  obtain ⟨a, b, c⟩ := isD_uniq (isD_found h1 h2 h3 h4 h5 h6 h7) hD
  exact ⟨a, b, c⟩
set_option maxHeartbeats 1000000 in
theorem date_yes (y m d n : Int) (w : World) (h : isD y m d n) :
    Calls Tryz.prog 146 #[.int .i64 n] w fun e w' => e = .returned (.tuple #[.int .i64 y, .int .i64 m, .int .i64 d, .nilIface]) ∧ w = w' := by
  have HD := Lib.hid h
  have b := isD_bd h
  have g0 := ys_guess n (by omega)
  obtain ⟨n0, n1⟩ : 0 ≤ n ∧ n ≤ 2932896 := by omega
  clear h b
  go_enter Tryz.func146, Tryz.ntmps146
  go_wp2
  go_loop [2] (fun t => ∃ Y : Int, 1970 ≤ Y ∧ Y ≤ 9999 ∧ ys Y ≤ n ∧ t = .int .i64 Y) (fun t => (9999 - intOf t).toNat)
  case atStart => exact ⟨_, by omega, by omega, g0, by rw [Int.add_comm]⟩
  case round =>
    obtain ⟨Y, hy1, hy2, hy3, rfl⟩ := hrel
    by_cases hc : ys (Y + 1) ≤ n
    · have hlt : Y < 9999 := by
        by_cases e : Y = 9999
        · have := ys_end; rw [e] at hc; have h2 : ys 10000 ≤ n := hc; omega
        · omega
      go_wp2_with (go_at_call 143; refine (ys_any _ _ (by omega) (by omega)).mono ?_; rintro e w' ⟨rfl, rfl⟩)
      go_round
      case rel => exact ⟨Y + 1, by omega, by omega, hc, rfl⟩
      case measure => simp [intOf]; omega
    · have hsc := ys_succ Y
      have hlp := lp_01 Y
      have hyb := ys_bd Y hy1 (by omega)
      obtain ⟨r0, r1⟩ : 0 ≤ n - ys Y ∧ n - ys Y < 365 + lp Y := by omega
      clear g0 hsc
      go_wp2_with (go_at_call 143; refine (ys_any _ _ (by omega) (by omega)).mono ?_; rintro e w' ⟨rfl, rfl⟩)
      go_loop [3, 4] (fun k r => ∃ M : Int, 1 ≤ M ∧ M ≤ 12 ∧ k = .int .i64 M ∧ 0 ≤ n - ys Y - cum Y M ∧ r = .int .i64 (n - ys Y - cum Y M + 1)) (fun k _ => (12 - intOf k).toNat)
      case atStart => exact ⟨1, by omega, by omega, rfl, by rw [cum_1]; omega, by rw [cum_1]; simp⟩
      case round =>
        obtain ⟨M, hm1, hm2, rfl, hr, rfl⟩ := hrel
        have cb := cum_bd Y M hm1 (by omega)
        have db := md_bd Y M
        by_cases hm : md Y M < n - ys Y - cum Y M + 1
        · have hlt : M < 12 := by
            by_cases e : M = 12
            · subst e; have := cum_succ Y 12 (by omega) (by omega); have h13 : cum Y (12 + 1) = 365 + lp Y := cum_13 Y; omega
            · omega
          have cs := Lib.hid (cum_succ Y M hm1 hm2)
          go_wp2_with (go_at_call 144; refine (monthDays_any _ _ _ (by omega)).mono ?_; rintro e w' ⟨rfl, rfl⟩)
          go_round
          case rel => exact ⟨M + 1, by omega, by omega, rfl, by rw [cs.out]; omega, by rw [cs.out]; go_num⟩
          case measure => simp [intOf]; omega
        · have E := Lib.hid (date_end HD.out hy1 hy2 hm1 hm2 (show 1 ≤ n - ys Y - cum Y M + 1 by omega) (by omega) rfl)
          go_wp2_with (go_at_call 144; refine (monthDays_any _ _ _ (by omega)).mono ?_; rintro e w' ⟨rfl, rfl⟩)
          exact bodyPost_ret (v := .tuple #[.int .i64 Y, .int .i64 M, .int .i64 (n - ys Y - cum Y M + 1), .nilIface]) (by simp [results, Tryz.results146, go_sem]) rfl ⟨by rw [E.out.2.2, E.out.1, E.out.2.1], rfl⟩
/-- A time in ticks, moved into its range. -/
def tck (n : Int) : Int := if n < 0 then 0 else if 1099511627776 < n then 1099511627776 else n
theorem tck_lo {n : Int} (h : n ≤ 0) : tck n = 0 := by unfold tck; split <;> (try split) <;> omega
theorem tck_hi {n : Int} (h : 1099511627776 < n) : tck n = 1099511627776 := by unfold tck; rw [if_neg (by omega), if_pos h]
theorem tck_in {n : Int} (h : 0 ≤ n) (h2 : n ≤ 1099511627776) : tck n = n := by unfold tck; rw [if_neg (by omega), if_neg (by omega)]
theorem tck_bd (n : Int) : 0 ≤ tck n ∧ tck n ≤ 1099511627776 := by unfold tck; split <;> (try split) <;> omega
set_option maxHeartbeats 400000 in
theorem clipT_any (n : Int) (w : World) : Calls Tryz.prog 47 #[.int .i64 n, .int .i64 0, .int .i64 1099511627776] w fun e w' => e = .returned (.int .i64 (tck n)) ∧ w = w' := by
  by_cases h1 : n ≤ 0
  · have e := Lib.hid (tck_lo h1)
    have h2 : n ≤ 1099511627776 := by omega
    go_enter Tryz.func47, Tryz.ntmps47
    go_wp2
    go_ret
    exact ⟨ret_int (by rw [e.out]; all_goals (first | rfl | omega | (simp; done) | (simp; omega))), rfl⟩
  · by_cases h2 : n ≤ 1099511627776
    · have e := Lib.hid (tck_in (by omega) h2)
      have h3 : 0 < n := by omega
      go_enter Tryz.func47, Tryz.ntmps47
      go_wp2
      go_ret
      exact ⟨ret_int (by rw [e.out]; all_goals (first | rfl | omega | (simp; done) | (simp; omega))), rfl⟩
    · have e := Lib.hid (tck_hi (n := n) (by omega))
      have h3 : 1099511627776 < n := by omega
      go_enter Tryz.func47, Tryz.ntmps47
      go_wp2
      go_ret
      exact ⟨ret_int (by rw [e.out]; all_goals (first | rfl | omega | (simp; done) | (simp; omega))), rfl⟩
set_option maxHeartbeats 400000 in
theorem time_any (n : Int) (w : World) : Calls Tryz.prog 25 #[.int .i64 n] w fun e w' => e = .returned (.int .i64 (tck n)) ∧ w = w' := by
  go_enter Tryz.func25, Tryz.ntmps25
  go_wp2_with (go_at_call 47; refine (clipT_any _ _).mono ?_; rintro e w' ⟨rfl, rfl⟩)
  go_ret
  exact ⟨rfl, rfl⟩
end Go.Proofs.YtieolalohindgaaGreatDoor
