/- The Gregorian calendar from 1970 to 9999 in plain integers: leap years, lengths of months, the day of a date; each day has exactly one date. -/
namespace Go.Proofs.YtkpeaghbacoehaaGreatDoor

/-- Whether y is a leap year. -/
def leapB (y : Int) : Bool := decide (y % 4 = 0 ∧ y % 100 ≠ 0 ∨ y % 400 = 0)
def lp (y : Int) : Int := if leapB y = true then 1 else 0
theorem lp_01 (y : Int) : 0 ≤ lp y ∧ lp y ≤ 1 := by unfold lp; split <;> omega
theorem leap_yes {y : Int} (h : y % 4 = 0 ∧ y % 100 ≠ 0 ∨ y % 400 = 0) : leapB y = true := decide_eq_true h
theorem leap_no {y : Int} (h : ¬ (y % 4 = 0 ∧ y % 100 ≠ 0 ∨ y % 400 = 0)) : leapB y = false := decide_eq_false h
/-- The leap years from year 1 to the one before y. -/
def lyb (y : Int) : Int := (y - 1) / 4 - (y - 1) / 100 + (y - 1) / 400
/-- The day of the first of January. -/
def ys (y : Int) : Int := (y - 1970) * 365 + lyb y - 477
theorem ys_first : ys 1970 = 0 := by decide
theorem ys_end : ys 10000 = 2932897 := by decide
theorem ys_succ (y : Int) : ys (y + 1) = ys y + 365 + lp y := by
  unfold ys lyb lp leapB
  by_cases c : y % 4 = 0 ∧ y % 100 ≠ 0 ∨ y % 400 = 0
  · rw [if_pos (decide_eq_true c)]; omega
  · rw [if_neg (by simpa using c)]; omega
theorem ys_mono (a b : Int) (h : a ≤ b) : ys a ≤ ys b := by unfold ys lyb; omega
theorem ys_guess (n : Int) (h0 : 0 ≤ n) : ys (1970 + n / 366) ≤ n := by unfold ys lyb; omega
theorem ys_bd (y : Int) (h0 : 1970 ≤ y) (h : y ≤ 10000) : 0 ≤ ys y ∧ ys y ≤ 2932897 := by
  have a := ys_mono 1970 y h0
  have b := ys_mono y 10000 h
  rw [ys_first] at a; rw [ys_end] at b; exact ⟨a, b⟩
/-- The days of a month. -/
def md (y m : Int) : Int := if m = 2 then 28 + lp y else if m = 4 ∨ m = 6 ∨ m = 9 ∨ m = 11 then 30 else 31
theorem md_2 (y : Int) : md y 2 = 28 + lp y := rfl
theorem md_30 (y m : Int) (h : m = 4 ∨ m = 6 ∨ m = 9 ∨ m = 11) : md y m = 30 := by unfold md; rw [if_neg (by omega), if_pos h]
theorem md_31 (y m : Int) (h2 : m ≠ 2) (h : ¬ (m = 4 ∨ m = 6 ∨ m = 9 ∨ m = 11)) : md y m = 31 := by unfold md; rw [if_neg h2, if_neg h]
theorem md_bd (y m : Int) : 28 ≤ md y m ∧ md y m ≤ 31 := by
  have := lp_01 y
  unfold md; split
  · omega
  · split <;> omega
/-- The days of the year before a month. -/
def cum (y m : Int) : Int := if m ≤ 1 then 0 else if m = 2 then 31 else (153 * (m - 3) + 2) / 5 + 59 + lp y
theorem cum_1 (y : Int) : cum y 1 = 0 := rfl
theorem cum_13 (y : Int) : cum y 13 = 365 + lp y := rfl
theorem cum_succ (y m : Int) (h1 : 1 ≤ m) (h2 : m ≤ 12) : cum y (m + 1) = cum y m + md y m := by
  have h : m = 1 ∨ m = 2 ∨ m = 3 ∨ m = 4 ∨ m = 5 ∨ m = 6 ∨ m = 7 ∨ m = 8 ∨ m = 9 ∨ m = 10 ∨ m = 11 ∨ m = 12 := by omega
  rcases h with rfl | rfl | rfl | rfl | rfl | rfl | rfl | rfl | rfl | rfl | rfl | rfl
  all_goals (unfold cum md; simp <;> omega)
theorem cum_mono (y m k : Int) (h : m ≤ k) : cum y m ≤ cum y k := by
  have := lp_01 y
  unfold cum; split <;> split <;> (try split) <;> (try split) <;> omega
theorem cum_bd (y m : Int) (h1 : 1 ≤ m) (h2 : m ≤ 13) : 0 ≤ cum y m ∧ cum y m ≤ 365 + lp y := by
  have a := cum_mono y 1 m h1
  have b := cum_mono y m 13 h2
  rw [cum_1] at a; rw [cum_13] at b; exact ⟨a, b⟩
/-- The day of a date. -/
def num (y m d : Int) : Int := ys y + cum y m + d - 1
/-- y, m, d is a date, and n its day. -/
def isD (y m d n : Int) : Prop := 1970 ≤ y ∧ y ≤ 9999 ∧ 1 ≤ m ∧ m ≤ 12 ∧ 1 ≤ d ∧ d ≤ md y m ∧ n = num y m d
/-- Whether y, m, d is a date. -/
def vldB (y m d : Int) : Bool := decide (1970 ≤ y ∧ y ≤ 9999 ∧ 1 ≤ m ∧ m ≤ 12 ∧ 1 ≤ d ∧ d ≤ md y m)
theorem vld_of {y m d n : Int} (h : isD y m d n) : vldB y m d = true := decide_eq_true ⟨h.1, h.2.1, h.2.2.1, h.2.2.2.1, h.2.2.2.2.1, h.2.2.2.2.2.1⟩
theorem isD_of {y m d : Int} (h : vldB y m d = true) : isD y m d (num y m d) := by
  obtain ⟨a, b, c, e, f, g⟩ := of_decide_eq_true h
  exact ⟨a, b, c, e, f, g, rfl⟩
theorem num_in {y m d n : Int} (h : isD y m d n) : ys y ≤ n ∧ n < ys (y + 1) ∧ cum y m ≤ n - ys y ∧ n - ys y < cum y (m + 1) ∧ 0 ≤ n ∧ n ≤ 2932896 := by
  obtain ⟨a, b, c, e, f, g, rfl⟩ := h
  have h1 := cum_succ y m c e
  have h2 := cum_bd y m c (by omega)
  have h3 := cum_bd y (m + 1) (by omega) (by omega)
  have h4 := ys_succ y
  have h5 := ys_bd y a (by omega)
  have h6 := ys_bd (y + 1) (by omega) (by omega)
  unfold num
  omega
theorem isD_uniq {y m d y' m' d' n : Int} (h : isD y m d n) (h' : isD y' m' d' n) : y = y' ∧ m = m' ∧ d = d' := by
  have a := num_in h
  have a' := num_in h'
  have ey : y = y' := by
    have i1 := h.1; have i2 := h'.1
    rcases Int.lt_trichotomy y y' with c | c | c
    · have := ys_mono (y + 1) y' (by omega); omega
    · exact c
    · have := ys_mono (y' + 1) y (by omega); omega
  subst ey
  have em : m = m' := by
    have i1 := h.2.2.1; have i2 := h'.2.2.1
    rcases Int.lt_trichotomy m m' with c | c | c
    · have := cum_mono y (m + 1) m' (by omega); omega
    · exact c
    · have := cum_mono y (m' + 1) m (by omega); omega
  subst em
  have b := h.2.2.2.2.2.2; have b' := h'.2.2.2.2.2.2
  unfold num at b b'
  exact ⟨rfl, rfl, by omega⟩
/-- y, m, d is a date, and y2, m2, d2 the next one. -/
def nextD (y m d y2 m2 d2 : Int) : Prop := (y2 = y ∧ m2 = m ∧ d2 = d + 1 ∧ d + 1 ≤ md y m) ∨ (y2 = y ∧ m2 = m + 1 ∧ d2 = 1 ∧ d = md y m ∧ m < 12) ∨ (y2 = y + 1 ∧ m2 = 1 ∧ d2 = 1 ∧ d = md y m ∧ m = 12)
theorem isD_next {y m d n : Int} (h : isD y m d n) (hn : n < 2932896) : ∃ y2 m2 d2, isD y2 m2 d2 (n + 1) ∧ nextD y m d y2 m2 d2 := by
  obtain ⟨a, b, c, e, f, g, rfl⟩ := h
  by_cases h1 : d + 1 ≤ md y m
  · exact ⟨y, m, d + 1, ⟨a, b, c, e, by omega, h1, by unfold num; omega⟩, .inl ⟨rfl, rfl, rfl, h1⟩⟩
  · have hd : d = md y m := by omega
    by_cases h2 : m < 12
    · have := md_bd y (m + 1)
      refine ⟨y, m + 1, 1, ⟨a, b, by omega, by omega, by omega, by omega, ?_⟩, .inr (.inl ⟨rfl, rfl, rfl, hd, h2⟩)⟩
      unfold num; rw [cum_succ y m c e, hd]; omega
    · obtain rfl : m = 12 := by omega
      have h4 := ys_succ y
      have h5 := cum_succ y 12 (by omega) (by omega)
      rw [show (12 : Int) + 1 = 13 from rfl, cum_13] at h5
      have hy : y ≠ 9999 := by
        rintro rfl
        have h6 : ys (9999 + 1) = 2932897 := ys_end
        unfold num at hn; rw [hd] at hn; omega
      have := md_bd (y + 1) 1
      refine ⟨y + 1, 1, 1, ⟨by omega, by omega, by omega, by omega, by omega, by omega, ?_⟩, .inr (.inr ⟨rfl, rfl, rfl, hd, rfl⟩)⟩
      unfold num; rw [cum_1, hd]; omega
theorem isD_ex (n : Nat) (h : n ≤ 2932896) : ∃ y m d, isD y m d (n : Int) := by
  induction n with
  | zero => exact ⟨1970, 1, 1, by unfold isD; decide⟩
  | succ k ih =>
    obtain ⟨y, m, d, hD⟩ := ih (by omega)
    obtain ⟨y2, m2, d2, h2, _⟩ := isD_next hD (by omega)
    exact ⟨y2, m2, d2, by rw [Int.natCast_add]; exact h2⟩
theorem isD_exI (n : Int) (h0 : 0 ≤ n) (h : n ≤ 2932896) : ∃ y m d, isD y m d n := by
  obtain ⟨y, m, d, hD⟩ := isD_ex n.toNat (by omega)
  exact ⟨y, m, d, by rw [Int.toNat_of_nonneg h0] at hD; exact hD⟩
theorem isD_bd {y m d n : Int} (h : isD y m d n) : 1970 ≤ y ∧ y ≤ 9999 ∧ 1 ≤ m ∧ m ≤ 12 ∧ 1 ≤ d ∧ d ≤ 31 ∧ 0 ≤ n ∧ n ≤ 2932896 := by
  have a := num_in h
  have b := md_bd y m
  obtain ⟨h1, h2, h3, h4, h5, h6, _⟩ := h
  omega
/-- What both searches for a date end with. -/
theorem isD_found {y m d n : Int} (h1 : 1970 ≤ y) (h2 : y ≤ 9999) (h3 : 1 ≤ m) (h4 : m ≤ 12) (h5 : 1 ≤ d) (h6 : d ≤ md y m) (h7 : d = n - ys y - cum y m + 1) : isD y m d n :=
  ⟨h1, h2, h3, h4, h5, h6, by unfold num; omega⟩
/-- The weekday of a day. -/
def wdI (n : Int) : Int := (n + 4) % 7
theorem wd_bd (n : Int) : 0 ≤ wdI n ∧ wdI n ≤ 6 := by unfold wdI; omega
theorem wd_succ (n : Int) : wdI (n + 1) = (wdI n + 1) % 7 := by unfold wdI; omega
end Go.Proofs.YtkpeaghbacoehaaGreatDoor
