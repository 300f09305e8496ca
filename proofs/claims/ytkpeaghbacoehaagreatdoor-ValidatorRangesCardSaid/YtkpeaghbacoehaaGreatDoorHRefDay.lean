/- What the reference's leap, length, Day, Date and Weekday return. -/
import Derived.Test.YtkpeaghbacoehaaGreatDoorHDay
namespace Go.Proofs.YtkpeaghbacoehaaGreatDoor
open Go.RowKit

set_option maxHeartbeats 400000 in
theorem refLeap_any (y : Int) (w : World) (h : 0 ≤ y) :
    Calls Tryz.prog 87 #[.int .i64 y] w fun e w' => e = .returned (.int .i64 (lp y)) ∧ w = w' := by
  by_cases h4 : y % 4 = 0
  · have d4 : ((y % 4 : Int) == 0) = true := by rw [h4]; rfl
    by_cases h100 : y % 100 = 0
    · have d100 : ((y % 100 : Int) != 0) = false := by rw [h100]; rfl
      by_cases h400 : y % 400 = 0
      · have e := Lib.hid (lp_yes (leap_yes (y := y) (.inr h400)))
        have d400 : ((y % 400 : Int) == 0) = true := by rw [h400]; rfl
        clear h4 h100 h400
        go_enter Tryz.func87, Tryz.ntmps87
        go_wp2
        go_ret
        exact ⟨ret_int e.out.symm, rfl⟩
      · have e := Lib.hid (lp_no (leap_no (y := y) (by omega)))
        have d400 : ((y % 400 : Int) == 0) = false := by simpa using h400
        clear h4 h100 h400
        go_enter Tryz.func87, Tryz.ntmps87
        go_wp2
        go_ret
        exact ⟨ret_int e.out.symm, rfl⟩
    · have e := Lib.hid (lp_yes (leap_yes (y := y) (.inl ⟨h4, h100⟩)))
      have d100 : ((y % 100 : Int) != 0) = true := by simpa using h100
      clear h4 h100
      go_enter Tryz.func87, Tryz.ntmps87
      go_wp2
      go_ret
      exact ⟨ret_int e.out.symm, rfl⟩
  · have e := Lib.hid (lp_no (leap_no (y := y) (by omega)))
    have d4 : ((y % 4 : Int) == 0) = false := by simpa using h4
    have d400 : ((y % 400 : Int) == 0) = false := by simp; omega
    clear h4
    go_enter Tryz.func87, Tryz.ntmps87
    go_wp2
    go_ret
    exact ⟨ret_int e.out.symm, rfl⟩
set_option maxHeartbeats 400000 in
theorem refLength_any (y m : Int) (w : World) (h : 0 ≤ y) :
    Calls Tryz.prog 86 #[.int .i64 y, .int .i64 m] w fun e w' => e = .returned (.int .i64 (md y m)) ∧ w = w' := by
  by_cases h2 : m = 2
  · subst h2
    have lb := lp_01 y
    go_enter Tryz.func86, Tryz.ntmps86
    go_wp2_with (go_at_call 87; refine (refLeap_any _ _ h).mono ?_; rintro e w' ⟨rfl, rfl⟩)
    go_ret
    exact ⟨ret_int (md_2 y).symm, rfl⟩
  · have d2 : ((m : Int) == 2) = false := by simpa using h2
    by_cases h30 : m = 4 ∨ m = 6 ∨ m = 9 ∨ m = 11
    · have e := Lib.hid (md_30 y m h30)
      clear h2 d2
      rcases h30 with rfl | rfl | rfl | rfl
      all_goals
        go_enter Tryz.func86, Tryz.ntmps86
        go_wp2
        go_ret
        exact ⟨ret_int e.out.symm, rfl⟩
    · have e := Lib.hid (md_31 y m h2 h30)
      have a4 : ((m : Int) == 4) = false := by simp; omega
      have a6 : ((m : Int) == 6) = false := by simp; omega
      have a9 : ((m : Int) == 9) = false := by simp; omega
      have a11 : ((m : Int) == 11) = false := by simp; omega
      clear h2 h30
      go_enter Tryz.func86, Tryz.ntmps86
      go_wp2
      go_ret
      exact ⟨ret_int e.out.symm, rfl⟩
set_option maxHeartbeats 400000 in
theorem refDay_no (y m d : Int) (w : World) (h : vldB y m d = false) :
    Calls Tryz.prog 64 #[.int .i64 y, .int .i64 m, .int .i64 d] w fun e w' => e = .returned (.tuple #[.int .i64 0, .bool false]) ∧ w = w' := by
  have h0 := of_decide_eq_false h
  clear h
  by_cases h1 : y < 1970
  · clear h0
    go_enter Tryz.func64, Tryz.ntmps64
    go_wp2
    go_ret2
    exact ⟨rfl, rfl⟩
  · by_cases h2 : 9999 < y
    · clear h0
      go_enter Tryz.func64, Tryz.ntmps64
      go_wp2
      go_ret2
      exact ⟨rfl, rfl⟩
    · by_cases h3 : m < 1
      · clear h0
        go_enter Tryz.func64, Tryz.ntmps64
        go_wp2
        go_ret2
        exact ⟨rfl, rfl⟩
      · by_cases h4 : 12 < m
        · clear h0
          go_enter Tryz.func64, Tryz.ntmps64
          go_wp2
          go_ret2
          exact ⟨rfl, rfl⟩
        · by_cases h5 : d < 1
          · clear h0
            go_enter Tryz.func64, Tryz.ntmps64
            go_wp2
            go_ret2
            exact ⟨rfl, rfl⟩
          · have h6 : md y m < d := by omega
            clear h0
            go_enter Tryz.func64, Tryz.ntmps64
            go_wp2_with (go_at_call 86; refine (refLength_any _ _ _ (by omega)).mono ?_; rintro e w' ⟨rfl, rfl⟩)
            go_ret2
            exact ⟨rfl, rfl⟩
set_option maxHeartbeats 1000000 in
theorem refDay_yes (y m d n : Int) (w : World) (h : isD y m d n) :
    Calls Tryz.prog 64 #[.int .i64 y, .int .i64 m, .int .i64 d] w fun e w' => e = .returned (.tuple #[.int .i64 n, .bool true]) ∧ w = w' := by
  have HD := Lib.hid h
  have b := isD_bd h
  have hmd := h.2.2.2.2.2.1
  clear h
  go_enter Tryz.func64, Tryz.ntmps64
  go_wp2_with (go_at_call 86; refine (refLength_any _ _ _ (by omega)).mono ?_; rintro e w' ⟨rfl, rfl⟩)
  go_loop [8, 9] (fun t k => ∃ Y : Int, 1970 ≤ Y ∧ Y ≤ y ∧ k = .int .i64 Y ∧ t = .int .i64 (d - 1 + ys Y)) (fun _ k => (y - intOf k).toNat)
  case atStart => exact ⟨1970, by omega, by omega, rfl, by rw [ys_first]; simp⟩
  case round =>
    obtain ⟨Y, hy1, hy2, rfl, rfl⟩ := hrel
    have yb := ys_bd Y hy1 (by omega)
    have lb := lp_01 Y
    by_cases hlt : Y < y
    · have ysc := Lib.hid (ys_succ Y)
      go_wp2_with (go_at_call 87; refine (refLeap_any _ _ (by omega)).mono ?_; rintro e w' ⟨rfl, rfl⟩)
      go_round
      case rel => exact ⟨Y + 1, by omega, by omega, rfl, by rw [ysc.out]; go_num⟩
      case measure => simp [intOf]; omega
    · obtain rfl : Y = y := by omega
      go_wp2
      go_loop [8, 10] (fun t k => ∃ M : Int, 1 ≤ M ∧ M ≤ m ∧ k = .int .i64 M ∧ t = .int .i64 (d - 1 + ys Y + cum Y M)) (fun _ k => (m - intOf k).toNat)
      case atStart => exact ⟨1, by omega, by omega, rfl, by rw [cum_1]; simp⟩
      case round =>
        obtain ⟨M, hm1, hm2, rfl, rfl⟩ := hrel
        have cb := cum_bd Y M hm1 (by omega)
        have mb := md_bd Y M
        by_cases hlt2 : M < m
        · have cs := Lib.hid (cum_succ Y M hm1 (by omega))
          go_wp2_with (go_at_call 86; refine (refLength_any _ _ _ (by omega)).mono ?_; rintro e w' ⟨rfl, rfl⟩)
          go_round
          case rel => exact ⟨M + 1, by omega, by omega, rfl, by rw [cs.out]; go_num⟩
          case measure => simp [intOf]; omega
        · obtain rfl : M = m := by omega
          go_wp2
          go_ret2
          exact ⟨ret2_int (by rw [HD.out.2.2.2.2.2.2]; unfold num; omega), rfl⟩
set_option maxHeartbeats 1000000 in
theorem refDate_yes (y m d n : Int) (w : World) (h : isD y m d n) :
    Calls Tryz.prog 88 #[.int .i64 n] w fun e w' => e = .returned (.tuple #[.int .i64 y, .int .i64 m, .int .i64 d]) ∧ w = w' := by
  have HD := Lib.hid h
  have b := isD_bd h
  obtain ⟨n0, n1⟩ : 0 ≤ n ∧ n ≤ 2932896 := by omega
  clear h b
  go_enter Tryz.func88, Tryz.ntmps88
  go_wp2
  go_loop [0, 5] (fun r k => ∃ Y : Int, 1970 ≤ Y ∧ Y ≤ 9999 ∧ 0 ≤ n - ys Y ∧ k = .int .i64 Y ∧ r = .int .i64 (n - ys Y)) (fun _ k => (9999 - intOf k).toNat)
  case atStart => exact ⟨1970, by omega, by omega, by rw [ys_first]; omega, rfl, by rw [ys_first]; simp⟩
  case round =>
    obtain ⟨Y, hy1, hy2, hy3, rfl, rfl⟩ := hrel
    have lb := lp_01 Y
    have yb := ys_bd Y hy1 (by omega)
    by_cases hc : 365 + lp Y ≤ n - ys Y
    · have hlt : Y < 9999 := by
        by_cases e : Y = 9999
        · have h1 := ys_succ Y; have h2 := ys_end; rw [e] at h1 hc; have h3 : ys (9999 + 1) = 2932897 := h2; omega
        · omega
      have ysc := Lib.hid (ys_succ Y)
      go_wp2_with (go_at_call 87; refine (refLeap_any _ _ (by omega)).mono ?_; rintro e w' ⟨rfl, rfl⟩)
      go_round
      case rel => exact ⟨Y + 1, by omega, by omega, by rw [ysc.out]; omega, rfl, by rw [ysc.out]; go_num⟩
      case measure => simp [intOf]; omega
    · obtain ⟨r0, r1⟩ : 0 ≤ n - ys Y ∧ n - ys Y < 365 + lp Y := by omega
      clear hc
      go_wp2_with (go_at_call 87; refine (refLeap_any _ _ (by omega)).mono ?_; rintro e w' ⟨rfl, rfl⟩)
      go_loop [0, 6] (fun r k => ∃ M : Int, 1 ≤ M ∧ M ≤ 12 ∧ k = .int .i64 M ∧ 0 ≤ n - ys Y - cum Y M ∧ r = .int .i64 (n - ys Y - cum Y M)) (fun _ k => (12 - intOf k).toNat)
      case atStart => exact ⟨1, by omega, by omega, rfl, by rw [cum_1]; omega, by rw [cum_1]; simp⟩
      case round =>
        obtain ⟨M, hm1, hm2, rfl, hr, rfl⟩ := hrel
        have cb := cum_bd Y M hm1 (by omega)
        have db := md_bd Y M
        by_cases hm : md Y M ≤ n - ys Y - cum Y M
        · have hlt : M < 12 := by
            by_cases e : M = 12
            · subst e; have := cum_succ Y 12 (by omega) (by omega); have h13 : cum Y (12 + 1) = 365 + lp Y := cum_13 Y; omega
            · omega
          have cs := Lib.hid (cum_succ Y M hm1 hm2)
          go_wp2_with (go_at_call 86; refine (refLength_any _ _ _ (by omega)).mono ?_; rintro e w' ⟨rfl, rfl⟩)
          go_round
          case rel => exact ⟨M + 1, by omega, by omega, rfl, by rw [cs.out]; omega, by rw [cs.out]; go_num⟩
          case measure => simp [intOf]; omega
        · have E := Lib.hid (isD_uniq (isD_found hy1 hy2 hm1 hm2 (show 1 ≤ n - ys Y - cum Y M + 1 by omega) (by omega) rfl) HD.out)
          go_wp2_with (go_at_call 86; refine (refLength_any _ _ _ (by omega)).mono ?_; rintro e w' ⟨rfl, rfl⟩)
          go_ret3
          exact ⟨ret3_int E.out, rfl⟩
set_option maxHeartbeats 400000 in
theorem refWeekday_any (n : Int) (w : World) :
    Calls Tryz.prog 89 #[.int .i64 n] w fun e w' => e = .returned (.int .i64 (wdI n)) ∧ w = w' := by
  have b1 : -7 < n.tmod 7 := by rw [Int.tmod_eq_emod]; split <;> omega
  have b2 : n.tmod 7 < 7 := by rw [Int.tmod_eq_emod]; split <;> omega
  have b3 : -7 < (n.tmod 7 + 4).tmod 7 := by rw [Int.tmod_eq_emod (a := n.tmod 7 + 4)]; split <;> omega
  have b4 : (n.tmod 7 + 4).tmod 7 < 7 := by rw [Int.tmod_eq_emod (a := n.tmod 7 + 4)]; split <;> omega
  have HE : Hid (((n.tmod 7 + 4).tmod 7 + 7) % 7 = wdI n) := by
    show _ = _
    have e1 : n.tmod 7 = n % 7 ∨ n.tmod 7 = n % 7 - 7 := by rw [Int.tmod_eq_emod]; split <;> omega
    have e2 : (n.tmod 7 + 4).tmod 7 = (n.tmod 7 + 4) % 7 ∨ (n.tmod 7 + 4).tmod 7 = (n.tmod 7 + 4) % 7 - 7 := by rw [Int.tmod_eq_emod (a := n.tmod 7 + 4)]; split <;> omega
    unfold wdI; omega
  go_enter Tryz.func89, Tryz.ntmps89
  go_wp2
  go_ret
  exact ⟨ret_int HE.out, rfl⟩
end Go.Proofs.YtkpeaghbacoehaaGreatDoor
