import Derived.Test.YtieolalohindgaaGreatDoorPa0
import Derived.Lib.AppendIntMem
import Derived.Lib.SmallJoins
import Derived.Stop.LaidErr
import Derived.Test.YtieolalohindgaaGreatDoorPa5
/- What the contract of Itoa asks of a world: the table of powers of ten. -/
namespace Go.Proofs.YtieolalohindgaaGreatDoor
open Go.RowKit

/-- The table of powers of ten, for Itoa. -/
def HasTab (w : World) : Prop := Lib.TabIs Tryz.prog w "internal/strconv.uint64pow10" .u64 Lib.pow10Tab
theorem gTab : Tryz.prog.globalNamed "internal/strconv.uint64pow10" = some 7 := by kernel_rfl
theorem HasTab.below {w w' : World} (h : HasTab w) (hb : Below w.heap.size w w') : HasTab w' := Joins.tab_stays gTab h hb (Nat.le_refl _)
end Go.Proofs.YtieolalohindgaaGreatDoor

/- What the program's calendar functions return: isLeap, monthDays, leapYearsBefore, yearStart, isDate, Day, Weekday, Floor; and Clip and Time. -/
namespace Go.Proofs.YtieolalohindgaaGreatDoor
open Go.RowKit

theorem ret_int {k : IntKind} {a b : Int} (h : a = b) : Ending.returned (.int k a) = .returned (.int k b) := by rw [h]
theorem ret2_int {k : IntKind} {a b : Int} {v : Value} (h : a = b) : Ending.returned (.tuple #[.int k a, v]) = .returned (.tuple #[.int k b, v]) := by rw [h]
theorem ret3_int {k : IntKind} {a b c x y z : Int} (h : a = x ∧ b = y ∧ c = z) : Ending.returned (.tuple #[.int k a, .int k b, .int k c]) = .returned (.tuple #[.int k x, .int k y, .int k z]) := by rw [h.1, h.2.1, h.2.2]
theorem vld_no {y m d : Int} (h : ¬ (1970 ≤ y ∧ y ≤ 9999 ∧ 1 ≤ m ∧ m ≤ 12 ∧ 1 ≤ d ∧ d ≤ md y m)) : vldB y m d = false := decide_eq_false h
theorem vld_yes {y m d : Int} (h : 1970 ≤ y ∧ y ≤ 9999 ∧ 1 ≤ m ∧ m ≤ 12 ∧ 1 ≤ d ∧ d ≤ md y m) : vldB y m d = true := decide_eq_true h
theorem lp_yes {y : Int} (h : leapB y = true) : lp y = 1 := by unfold lp; rw [if_pos h]
theorem lp_no {y : Int} (h : leapB y = false) : lp y = 0 := by unfold lp; rw [h]; rfl
set_option maxHeartbeats 400000 in
theorem isLeap_any (y : Int) (w : World) (h : 0 ≤ y) :
    Calls Tryz.prog 158 #[.int .i64 y] w fun e w' => e = .returned (.bool (leapB y)) ∧ w = w' := by
  by_cases h4 : y % 4 = 0
  · have d4 : ((y % 4 : Int) == 0) = true := by rw [h4]; rfl
    by_cases h100 : y % 100 = 0
    · have d100 : ((y % 100 : Int) != 0) = false := by rw [h100]; rfl
      by_cases h400 : y % 400 = 0
      · have e := Lib.hid (leap_yes (y := y) (.inr h400))
        have d400 : ((y % 400 : Int) == 0) = true := by rw [h400]; rfl
        clear h4 h100 h400
        go_enter Tryz.func158, Tryz.ntmps158
        go_wp2
        go_ret
        exact ⟨ret_bool e.out.symm, rfl⟩
      · have e := Lib.hid (leap_no (y := y) (by omega))
        have d400 : ((y % 400 : Int) == 0) = false := by simpa using h400
        clear h4 h100 h400
        go_enter Tryz.func158, Tryz.ntmps158
        go_wp2
        go_ret
        exact ⟨ret_bool e.out.symm, rfl⟩
    · have e := Lib.hid (leap_yes (y := y) (.inl ⟨h4, h100⟩))
      have d100 : ((y % 100 : Int) != 0) = true := by simpa using h100
      clear h4 h100
      go_enter Tryz.func158, Tryz.ntmps158
      go_wp2
      go_ret
      exact ⟨ret_bool e.out.symm, rfl⟩
  · have e := Lib.hid (leap_no (y := y) (by omega))
    have d4 : ((y % 4 : Int) == 0) = false := by simpa using h4
    have d400 : ((y % 400 : Int) == 0) = false := by simp; omega
    clear h4
    go_enter Tryz.func158, Tryz.ntmps158
    go_wp2
    go_ret
    exact ⟨ret_bool e.out.symm, rfl⟩
set_option maxHeartbeats 400000 in
theorem monthDays_any (y m : Int) (w : World) (h : 0 ≤ y) :
    Calls Tryz.prog 144 #[.int .i64 y, .int .i64 m] w fun e w' => e = .returned (.int .i64 (md y m)) ∧ w = w' := by
  by_cases h2 : m = 2
  · subst h2
    have HY := Lib.hid h
    clear h
    cases hl : leapB y with
    | true =>
      have e := Lib.hid (show md y 2 = 29 by rw [md_2, lp_yes hl]; rfl)
      have HL := Lib.hid hl
      clear hl
      go_enter Tryz.func144, Tryz.ntmps144
      go_wp2_with (go_at_call 158; refine (isLeap_any _ _ HY.out).mono ?_; rw [HL.out]; rintro e w' ⟨rfl, rfl⟩)
      go_ret
      exact ⟨ret_int e.out.symm, rfl⟩
    | false =>
      have e := Lib.hid (show md y 2 = 28 by rw [md_2, lp_no hl]; rfl)
      have HL := Lib.hid hl
      clear hl
      go_enter Tryz.func144, Tryz.ntmps144
      go_wp2_with (go_at_call 158; refine (isLeap_any _ _ HY.out).mono ?_; rw [HL.out]; rintro e w' ⟨rfl, rfl⟩)
      go_ret
      exact ⟨ret_int e.out.symm, rfl⟩
  · have d2 : ((m : Int) == 2) = false := by simpa using h2
    by_cases h30 : m = 4 ∨ m = 6 ∨ m = 9 ∨ m = 11
    · have e := Lib.hid (md_30 y m h30)
      clear h2 d2
      rcases h30 with rfl | rfl | rfl | rfl
      all_goals
        go_enter Tryz.func144, Tryz.ntmps144
        go_wp2
        go_ret
        exact ⟨ret_int e.out.symm, rfl⟩
    · have e := Lib.hid (md_31 y m h2 h30)
      have a4 : ((m : Int) == 4) = false := by simp; omega
      have a6 : ((m : Int) == 6) = false := by simp; omega
      have a9 : ((m : Int) == 9) = false := by simp; omega
      have a11 : ((m : Int) == 11) = false := by simp; omega
      clear h2 h30
      go_enter Tryz.func144, Tryz.ntmps144
      go_wp2
      go_ret
      exact ⟨ret_int e.out.symm, rfl⟩
set_option maxHeartbeats 400000 in
theorem lyb_any (y : Int) (w : World) (h : 1 ≤ y) (h2 : y ≤ 20000) :
    Calls Tryz.prog 157 #[.int .i64 y] w fun e w' => e = .returned (.int .i64 (lyb y)) ∧ w = w' := by
  go_enter Tryz.func157, Tryz.ntmps157
  go_wp2
  go_ret
  exact ⟨rfl, rfl⟩
theorem lyb_1970 : lyb 1970 = 477 := by decide
theorem lyb_bd (y : Int) (h : 1 ≤ y) (h2 : y ≤ 20000) : 0 ≤ lyb y ∧ lyb y ≤ 5000 := by unfold lyb; omega
set_option maxHeartbeats 400000 in
theorem ys_any (y : Int) (w : World) (h : 1970 ≤ y) (h2 : y ≤ 20000) :
    Calls Tryz.prog 143 #[.int .i64 y] w fun e w' => e = .returned (.int .i64 (ys y)) ∧ w = w' := by
  have b := lyb_bd y (by omega) h2
  have b0 := lyb_bd 1970 (by omega) (by omega)
  go_enter Tryz.func143, Tryz.ntmps143
  go_wp2_with (go_at_call 157; refine (lyb_any _ _ (by omega) (by omega)).mono ?_; rintro e w' ⟨rfl, rfl⟩)
  go_ret
  exact ⟨ret_int (by unfold ys; rw [lyb_1970]), rfl⟩
set_option maxHeartbeats 400000 in
theorem isDate_any (y m d : Int) (w : World) :
    Calls Tryz.prog 142 #[.int .i64 y, .int .i64 m, .int .i64 d] w fun e w' => e = .returned (.bool (vldB y m d)) ∧ w = w' := by
  by_cases h1 : y < 1970
  · have e := Lib.hid (vld_no (y := y) (m := m) (d := d) (by omega))
    go_enter Tryz.func142, Tryz.ntmps142
    go_wp2
    go_ret
    exact ⟨ret_bool e.out.symm, rfl⟩
  · by_cases h2 : 9999 < y
    · have e := Lib.hid (vld_no (y := y) (m := m) (d := d) (by omega))
      go_enter Tryz.func142, Tryz.ntmps142
      go_wp2
      go_ret
      exact ⟨ret_bool e.out.symm, rfl⟩
    · by_cases h3 : m < 1
      · have e := Lib.hid (vld_no (y := y) (m := m) (d := d) (by omega))
        go_enter Tryz.func142, Tryz.ntmps142
        go_wp2
        go_ret
        exact ⟨ret_bool e.out.symm, rfl⟩
      · by_cases h4 : 12 < m
        · have e := Lib.hid (vld_no (y := y) (m := m) (d := d) (by omega))
          go_enter Tryz.func142, Tryz.ntmps142
          go_wp2
          go_ret
          exact ⟨ret_bool e.out.symm, rfl⟩
        · by_cases h5 : 1 ≤ d
          · by_cases h6 : d ≤ md y m
            · have e := Lib.hid (vld_yes (y := y) (m := m) (d := d) ⟨by omega, by omega, by omega, by omega, h5, h6⟩)
              go_enter Tryz.func142, Tryz.ntmps142
              go_wp2_with (go_at_call 144; refine (monthDays_any _ _ _ (by omega)).mono ?_; rintro e w' ⟨rfl, rfl⟩)
              go_ret
              exact ⟨ret_bool e.out.symm, rfl⟩
            · have e := Lib.hid (vld_no (y := y) (m := m) (d := d) (by omega))
              go_enter Tryz.func142, Tryz.ntmps142
              go_wp2_with (go_at_call 144; refine (monthDays_any _ _ _ (by omega)).mono ?_; rintro e w' ⟨rfl, rfl⟩)
              go_ret
              exact ⟨ret_bool (by rw [e.out]; exact decide_eq_false (by omega)), rfl⟩
          · have e := Lib.hid (vld_no (y := y) (m := m) (d := d) (by omega))
            have h5' : d < 1 := by omega
            go_enter Tryz.func142, Tryz.ntmps142
            go_wp2
            go_ret
            exact ⟨ret_bool e.out.symm, rfl⟩
set_option maxHeartbeats 400000 in
theorem day_no (y m d : Int) (w : World) (h : vldB y m d = false) :
    Calls Tryz.prog 125 #[.int .i64 y, .int .i64 m, .int .i64 d] w fun e w' => e = .returned (.tuple #[.int .i64 0, .iface 92 (.int .i64 1)]) ∧ w = w' := by
  have H := Lib.hid h
  clear h
  go_enter Tryz.func125, Tryz.ntmps125
  go_wp2_with (go_at_call 142; refine (isDate_any _ _ _ _).mono ?_; rw [H.out]; rintro e w' ⟨rfl, rfl⟩)
  go_ret2
  exact ⟨rfl, rfl⟩
set_option maxHeartbeats 1000000 in
theorem day_yes (y m d n : Int) (w : World) (h : isD y m d n) :
    Calls Tryz.prog 125 #[.int .i64 y, .int .i64 m, .int .i64 d] w fun e w' => e = .returned (.tuple #[.int .i64 n, .nilIface]) ∧ w = w' := by
  have H := Lib.hid (vld_of h)
  have HD := Lib.hid h
  have b := isD_bd h
  have by1 := ys_bd y (by omega) (by omega)
  clear h
  go_enter Tryz.func125, Tryz.ntmps125
  go_wp2_with (first | (go_at_call 142; refine (isDate_any _ _ _ _).mono ?_; rw [H.out]; rintro e w' ⟨rfl, rfl⟩) | (go_at_call 143; refine (ys_any _ _ (by omega) (by omega)).mono ?_; rintro e w' ⟨rfl, rfl⟩))
  go_loop [8, 9] (fun t k => ∃ j : Nat, 1 ≤ j ∧ (j : Int) ≤ m ∧ k = .int .i64 (j : Int) ∧ t = .int .i64 (ys y + d - 1 + cum y j)) (fun _ k => (m - intOf k).toNat)
  case atStart => exact ⟨1, by omega, by omega, rfl, by rw [show ((1 : Nat) : Int) = 1 from rfl, cum_1]; simp⟩
  case round =>
    obtain ⟨j, hj1, hj2, rfl, rfl⟩ := hrel
    have cb := cum_bd y j (by omega) (by omega)
    have lb := lp_01 y
    have mb := md_bd y j
    by_cases hlt : (j : Int) < m
    · have cs := Lib.hid (cum_succ y j (by omega) (by omega))
      go_wp2_with (go_at_call 144; refine (monthDays_any _ _ _ (by omega)).mono ?_; rintro e w' ⟨rfl, rfl⟩)
      go_round
      case rel => exact ⟨j + 1, by omega, by omega, by go_num, by rw [show (((j + 1 : Nat)) : Int) = (j : Int) + 1 by omega, cs.out]; go_num⟩
      case measure => simp [intOf]; omega
    · go_wp2
      go_ret2
      have e : (j : Int) = m := by omega
      exact ⟨ret2_int (by rw [e, HD.out.2.2.2.2.2.2]; unfold num; omega), rfl⟩
set_option maxHeartbeats 400000 in
theorem weekday_any (n : Int) (w : World) :
    Calls Tryz.prog 149 #[.int .i64 n] w fun e w' => e = .returned (.int .i64 (wdI n)) ∧ w = w' := by
  have b1 : -7 < n.tmod 7 := by rw [Int.tmod_eq_emod]; split <;> omega
  have b2 : n.tmod 7 < 7 := by rw [Int.tmod_eq_emod]; split <;> omega
  go_enter Tryz.func149, Tryz.ntmps149
  go_wp2
  go_ret
  exact ⟨ret_int (by unfold wdI; rw [Int.tmod_eq_emod]; split <;> omega), rfl⟩
end Go.Proofs.YtieolalohindgaaGreatDoor
