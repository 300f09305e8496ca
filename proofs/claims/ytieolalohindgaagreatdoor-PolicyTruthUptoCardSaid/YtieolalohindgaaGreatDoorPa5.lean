import Derived.Lib.Atoi
import Derived.Lib.ItoaNum
/- The Gregorian calendar from 1970 to 9999 in plain integers: leap years, lengths of months, the day of a date; each day has exactly one date. -/
namespace Go.Proofs.YtieolalohindgaaGreatDoor

/-- Whether y is a leap year. -/
def leapB (y : Int) : Bool := decide (y % 4 = 0 ∧ y % 100 ≠ 0 ∨ y % 400 = 0)
def lp (y : Int) : Int := if leapB y = true then 1 else 0
theorem lp_01 (y : Int) : 0 ≤ lp y ∧ lp y ≤ 1 := by unfold lp; split <;> omega
theorem leap_yes {y : Int} (h : y % 4 = 0 ∧ y % 100 ≠ 0 ∨ y % 400 = 0) : leapB y = true := decide_eq_true h
theorem leap_no {y : Int} (h : ¬ (y % 4 = 0 ∧ y % 100 ≠ 0 ∨ y % 400 = 0)) : leapB y = false := decide_eq_false h
/-- The leap years from year 1 to the one before y. -/
def lyb (y : Int) : Int := (y - 1) / 4 - (y - 1) / 100 + (y - 1) / 400
/-- The day of the first of January. -/
def ys (y : Int) : Int := (y - 1970) * 365 + lyb y - 477
theorem ys_first : ys 1970 = 0 := by decide
theorem ys_end : ys 10000 = 2932897 := by decide
theorem ys_succ (y : Int) : ys (y + 1) = ys y + 365 + lp y := by
  unfold ys lyb lp leapB
  by_cases c : y % 4 = 0 ∧ y % 100 ≠ 0 ∨ y % 400 = 0
  · rw [if_pos (decide_eq_true c)]; omega
  · rw [if_neg (by simpa using c)]; omega
theorem ys_mono (a b : Int) (h : a ≤ b) : ys a ≤ ys b := by unfold ys lyb; omega
theorem ys_guess (n : Int) (h0 : 0 ≤ n) : ys (1970 + n / 366) ≤ n := by unfold ys lyb; omega
theorem ys_bd (y : Int) (h0 : 1970 ≤ y) (h : y ≤ 10000) : 0 ≤ ys y ∧ ys y ≤ 2932897 := by
  have a := ys_mono 1970 y h0
  have b := ys_mono y 10000 h
  rw [ys_first] at a; rw [ys_end] at b; exact ⟨a, b⟩
/-- The days of a month. -/
def md (y m : Int) : Int := if m = 2 then 28 + lp y else if m = 4 ∨ m = 6 ∨ m = 9 ∨ m = 11 then 30 else 31
theorem md_2 (y : Int) : md y 2 = 28 + lp y := rfl
theorem md_30 (y m : Int) (h : m = 4 ∨ m = 6 ∨ m = 9 ∨ m = 11) : md y m = 30 := by unfold md; rw [if_neg (by omega), if_pos h]
theorem md_31 (y m : Int) (h2 : m ≠ 2) (h : ¬ (m = 4 ∨ m = 6 ∨ m = 9 ∨ m = 11)) : md y m = 31 := by unfold md; rw [if_neg h2, if_neg h]
theorem md_bd (y m : Int) : 28 ≤ md y m ∧ md y m ≤ 31 := by
  have := lp_01 y
  unfold md; split
  · omega
  · split <;> omega
/-- The days of the year before a month. -/
def cum (y m : Int) : Int := if m ≤ 1 then 0 else if m = 2 then 31 else (153 * (m - 3) + 2) / 5 + 59 + lp y
theorem cum_1 (y : Int) : cum y 1 = 0 := rfl
theorem cum_13 (y : Int) : cum y 13 = 365 + lp y := rfl
theorem cum_succ (y m : Int) (h1 : 1 ≤ m) (h2 : m ≤ 12) : cum y (m + 1) = cum y m + md y m := by
  have h : m = 1 ∨ m = 2 ∨ m = 3 ∨ m = 4 ∨ m = 5 ∨ m = 6 ∨ m = 7 ∨ m = 8 ∨ m = 9 ∨ m = 10 ∨ m = 11 ∨ m = 12 := by omega
  rcases h with rfl | rfl | rfl | rfl | rfl | rfl | rfl | rfl | rfl | rfl | rfl | rfl
  all_goals (unfold cum md; simp <;> omega)
theorem cum_mono (y m k : Int) (h : m ≤ k) : cum y m ≤ cum y k := by
  have := lp_01 y
  unfold cum; split <;> split <;> (try split) <;> (try split) <;> omega
theorem cum_bd (y m : Int) (h1 : 1 ≤ m) (h2 : m ≤ 13) : 0 ≤ cum y m ∧ cum y m ≤ 365 + lp y := by
  have a := cum_mono y 1 m h1
  have b := cum_mono y m 13 h2
  rw [cum_1] at a; rw [cum_13] at b; exact ⟨a, b⟩
/-- The day of a date. -/
def num (y m d : Int) : Int := ys y + cum y m + d - 1
/-- y, m, d is a date, and n its day. -/
def isD (y m d n : Int) : Prop := 1970 ≤ y ∧ y ≤ 9999 ∧ 1 ≤ m ∧ m ≤ 12 ∧ 1 ≤ d ∧ d ≤ md y m ∧ n = num y m d
/-- Whether y, m, d is a date. -/
def vldB (y m d : Int) : Bool := decide (1970 ≤ y ∧ y ≤ 9999 ∧ 1 ≤ m ∧ m ≤ 12 ∧ 1 ≤ d ∧ d ≤ md y m)
theorem vld_of {y m d n : Int} (h : isD y m d n) : vldB y m d = true := decide_eq_true ⟨h.1, h.2.1, h.2.2.1, h.2.2.2.1, h.2.2.2.2.1, h.2.2.2.2.2.1⟩
theorem isD_of {y m d : Int} (h : vldB y m d = true) : isD y m d (num y m d) := by
  obtain ⟨a, b, c, e, f, g⟩ := of_decide_eq_true h
  exact ⟨a, b, c, e, f, g, rfl⟩
theorem num_in {y m d n : Int} (h : isD y m d n) : ys y ≤ n ∧ n < ys (y + 1) ∧ cum y m ≤ n - ys y ∧ n - ys y < cum y (m + 1) ∧ 0 ≤ n ∧ n ≤ 2932896 := by
  obtain ⟨a, b, c, e, f, g, rfl⟩ := h
  have h1 := cum_succ y m c e
  have h2 := cum_bd y m c (by omega)
  have h3 := cum_bd y (m + 1) (by omega) (by omega)
  have h4 := ys_succ y
  have h5 := ys_bd y a (by omega)
  have h6 := ys_bd (y + 1) (by omega) (by omega)
  unfold num
  omega
theorem isD_uniq {y m d y' m' d' n : Int} (h : isD y m d n) (h' : isD y' m' d' n) : y = y' ∧ m = m' ∧ d = d' := by
  have a := num_in h
  have a' := num_in h'
  have ey : y = y' := by
    have i1 := h.1; have i2 := h'.1
    rcases Int.lt_trichotomy y y' with c | c | c
    · have := ys_mono (y + 1) y' (by omega); omega
    · exact c
    · have := ys_mono (y' + 1) y (by omega); omega
  subst ey
  have em : m = m' := by
    have i1 := h.2.2.1; have i2 := h'.2.2.1
    rcases Int.lt_trichotomy m m' with c | c | c
    · have := cum_mono y (m + 1) m' (by omega); omega
    · exact c
    · have := cum_mono y (m' + 1) m (by omega); omega
  subst em
  have b := h.2.2.2.2.2.2; have b' := h'.2.2.2.2.2.2
  unfold num at b b'
  exact ⟨rfl, rfl, by omega⟩
/-- y, m, d is a date, and y2, m2, d2 the next one. -/
def nextD (y m d y2 m2 d2 : Int) : Prop := (y2 = y ∧ m2 = m ∧ d2 = d + 1 ∧ d + 1 ≤ md y m) ∨ (y2 = y ∧ m2 = m + 1 ∧ d2 = 1 ∧ d = md y m ∧ m < 12) ∨ (y2 = y + 1 ∧ m2 = 1 ∧ d2 = 1 ∧ d = md y m ∧ m = 12)
theorem isD_next {y m d n : Int} (h : isD y m d n) (hn : n < 2932896) : ∃ y2 m2 d2, isD y2 m2 d2 (n + 1) ∧ nextD y m d y2 m2 d2 := by
  obtain ⟨a, b, c, e, f, g, rfl⟩ := h
  by_cases h1 : d + 1 ≤ md y m
  · exact ⟨y, m, d + 1, ⟨a, b, c, e, by omega, h1, by unfold num; omega⟩, .inl ⟨rfl, rfl, rfl, h1⟩⟩
  · have hd : d = md y m := by omega
    by_cases h2 : m < 12
    · have := md_bd y (m + 1)
      refine ⟨y, m + 1, 1, ⟨a, b, by omega, by omega, by omega, by omega, ?_⟩, .inr (.inl ⟨rfl, rfl, rfl, hd, h2⟩)⟩
      unfold num; rw [cum_succ y m c e, hd]; omega
    · obtain rfl : m = 12 := by omega
      have h4 := ys_succ y
      have h5 := cum_succ y 12 (by omega) (by omega)
      rw [show (12 : Int) + 1 = 13 from rfl, cum_13] at h5
      have hy : y ≠ 9999 := by
        rintro rfl
        have h6 : ys (9999 + 1) = 2932897 := ys_end
        unfold num at hn; rw [hd] at hn; omega
      have := md_bd (y + 1) 1
      refine ⟨y + 1, 1, 1, ⟨by omega, by omega, by omega, by omega, by omega, by omega, ?_⟩, .inr (.inr ⟨rfl, rfl, rfl, hd, rfl⟩)⟩
      unfold num; rw [cum_1, hd]; omega
theorem isD_ex (n : Nat) (h : n ≤ 2932896) : ∃ y m d, isD y m d (n : Int) := by
  induction n with
  | zero => exact ⟨1970, 1, 1, by unfold isD; decide⟩
  | succ k ih =>
    obtain ⟨y, m, d, hD⟩ := ih (by omega)
    obtain ⟨y2, m2, d2, h2, _⟩ := isD_next hD (by omega)
    exact ⟨y2, m2, d2, by rw [Int.natCast_add]; exact h2⟩
theorem isD_exI (n : Int) (h0 : 0 ≤ n) (h : n ≤ 2932896) : ∃ y m d, isD y m d n := by
  obtain ⟨y, m, d, hD⟩ := isD_ex n.toNat (by omega)
  exact ⟨y, m, d, by rw [Int.toNat_of_nonneg h0] at hD; exact hD⟩
theorem isD_bd {y m d n : Int} (h : isD y m d n) : 1970 ≤ y ∧ y ≤ 9999 ∧ 1 ≤ m ∧ m ≤ 12 ∧ 1 ≤ d ∧ d ≤ 31 ∧ 0 ≤ n ∧ n ≤ 2932896 := by
  have a := num_in h
  have b := md_bd y m
  obtain ⟨h1, h2, h3, h4, h5, h6, _⟩ := h
  omega
/-- What both searches for a date end with. -/
theorem isD_found {y m d n : Int} (h1 : 1970 ≤ y) (h2 : y ≤ 9999) (h3 : 1 ≤ m) (h4 : m ≤ 12) (h5 : 1 ≤ d) (h6 : d ≤ md y m) (h7 : d = n - ys y - cum y m + 1) : isD y m d n :=
  ⟨h1, h2, h3, h4, h5, h6, by unfold num; omega⟩
/-- The weekday of a day. -/
def wdI (n : Int) : Int := (n + 4) % 7
theorem wd_bd (n : Int) : 0 ≤ wdI n ∧ wdI n ≤ 6 := by unfold wdI; omega
theorem wd_succ (n : Int) : wdI (n + 1) = (wdI n + 1) % 7 := by unfold wdI; omega
end Go.Proofs.YtieolalohindgaaGreatDoor

/- Date texts as lists of bytes: what a text is the date text of, and what its parts spell. -/
namespace Go.Proofs.YtieolalohindgaaGreatDoor

def dig (n : Nat) : UInt8 := UInt8.ofNat (48 + n % 10)
theorem dig_nat (n : Nat) : (dig n).toNat = 48 + n % 10 := by unfold dig; rw [UInt8.toNat_ofNat']; omega
/-- Two digits, four digits. -/
def dd (n : Nat) : List UInt8 := [dig (n / 10), dig n]
def d4 (n : Nat) : List UInt8 := [dig (n / 1000), dig (n / 100), dig (n / 10), dig n]
/-- The names of the weekdays and of the months, one after the other. -/
def wdT : List UInt8 := [83, 117, 110, 77, 111, 110, 84, 117, 101, 87, 101, 100, 84, 104, 117, 70, 114, 105, 83, 97, 116]
def moT : List UInt8 := [74, 97, 110, 70, 101, 98, 77, 97, 114, 65, 112, 114, 77, 97, 121, 74, 117, 110, 74, 117, 108, 65, 117, 103, 83, 101, 112, 79, 99, 116, 78, 111, 118, 68, 101, 99]
def wdS (w : Nat) : List UInt8 := (wdT.drop (3 * w)).take 3
def moS (m : Nat) : List UInt8 := (moT.drop (3 * m - 3)).take 3
theorem wdS_len_fin : ∀ w : Fin 7, (wdS w.val).length = 3 := by decide +kernel
theorem wdS_len (w : Nat) (h : w < 7) : (wdS w).length = 3 := wdS_len_fin ⟨w, h⟩
theorem moS_len_fin : ∀ m : Fin 13, 1 ≤ m.val → (moS m.val).length = 3 := by decide +kernel
theorem moS_len (m : Nat) (h1 : 1 ≤ m) (h : m ≤ 12) : (moS m).length = 3 := moS_len_fin ⟨m, by omega⟩ h1
theorem moS_inj_fin : ∀ m k : Fin 13, 1 ≤ m.val → 1 ≤ k.val → moS m.val = moS k.val → m = k := by decide +kernel
theorem moS_inj (m k : Nat) (h1 : 1 ≤ m) (h2 : m ≤ 12) (h3 : 1 ≤ k) (h4 : k ≤ 12) (h : moS m = moS k) : m = k := by
  have := moS_inj_fin ⟨m, by omega⟩ ⟨k, by omega⟩ h1 h3 h
  exact congrArg Fin.val this
theorem three {l : List UInt8} (h : l.length = 3) : ∃ a b c, l = [a, b, c] := by
  match l, h with
  | [a, b, c], _ => exact ⟨a, b, c, rfl⟩
/-- The time of day. -/
def clockS (r : Nat) : List UInt8 := dd (r / 3600) ++ [58] ++ dd (r % 3600 / 60) ++ [58] ++ dd (r % 60)
def dateS (y m d : Nat) : List UInt8 := dd d ++ [32] ++ moS m ++ [32] ++ d4 y
def txt (w y m d r : Nat) : List UInt8 := wdS w ++ [44, 32] ++ dateS y m d ++ [32] ++ clockS r ++ [32, 71, 77, 84]
/-- l is the date text of the second n. -/
def isT (n : Nat) (l : List UInt8) : Prop := n ≤ 253402300799 ∧ ∃ y m d : Nat, isD y m d ((n / 86400 : Nat) : Int) ∧ l = txt ((n / 86400 + 4) % 7) y m d (n % 86400)
theorem isT_ex (n : Nat) (h : n ≤ 253402300799) : ∃ l, isT n l := by
  obtain ⟨y, m, d, hD⟩ := isD_ex (n / 86400) (by omega)
  have b := isD_bd hD
  refine ⟨_, h, y.toNat, m.toNat, d.toNat, ?_, rfl⟩
  rw [Int.toNat_of_nonneg (by omega), Int.toNat_of_nonneg (by omega), Int.toNat_of_nonneg (by omega)]; exact hD
theorem isT_uniq {n : Nat} {l l' : List UInt8} (h : isT n l) (h' : isT n l') : l = l' := by
  obtain ⟨_, y, m, d, a, rfl⟩ := h
  obtain ⟨_, y', m', d', a', rfl⟩ := h'
  obtain ⟨e1, e2, e3⟩ := isD_uniq a a'
  rw [Int.ofNat.inj e1, Int.ofNat.inj e2, Int.ofNat.inj e3]
/-- What Atoi makes of a text. -/
def av (l : List UInt8) : Int := (Lib.atoi l).getD 0
theorem digitVal_dig (n : Nat) : Lib.digitVal (dig n) = some (n % 10) := by
  unfold Lib.digitVal; rw [dig_nat, if_pos (by omega)]; congr 1; omega
theorem dig_ne (n : Nat) (c : UInt8) (h : c.toNat < 48) : (dig n == c) = false := by
  simp; intro e; have := congrArg UInt8.toNat e; rw [dig_nat] at this; omega
theorem av_dd (n : Nat) (h : n < 100) : av (dd n) = n := by
  unfold av dd
  simp only [Lib.atoi]
  rw [dig_ne _ 45 (by decide), dig_ne _ 43 (by decide)]
  simp [Lib.decNat, Lib.decFrom, digitVal_dig]; omega
theorem av_d4 (n : Nat) (h : n < 10000) : av (d4 n) = n := by
  unfold av d4
  simp only [Lib.atoi]
  rw [dig_ne _ 45 (by decide), dig_ne _ 43 (by decide)]
  simp [Lib.decNat, Lib.decFrom, digitVal_dig]; omega
theorem av_bd (l : List UInt8) : -(10 ^ l.length : Nat) ≤ av l ∧ av l ≤ (10 ^ l.length : Nat) := by
  unfold av
  cases h : Lib.atoi l with
  | none => simp; have : 0 ≤ (10 : Int) ^ l.length := Int.pow_nonneg (by omega); omega
  | some n =>
    obtain ⟨b, r, rfl, hc⟩ := Lib.atoi_cases h
    have hp : (10 : Nat) ^ (r.length + 1) = 10 ^ r.length * 10 := Nat.pow_succ ..
    rcases hc with ⟨_, m, _, hm, rfl⟩ | ⟨_, m, _, hm, rfl⟩ | ⟨_, _, m, hm, rfl⟩
    all_goals
      have := Lib.decFrom_lt _ 0 m hm
      simp only [List.length_cons, Option.getD_some] at *
      omega
theorem av_2 (l : List UInt8) (h : l.length = 2) : -100 ≤ av l ∧ av l ≤ 100 := by
  have := av_bd l; rw [h] at this; exact this
theorem av_4 (l : List UInt8) (h : l.length = 4) : -10000 ≤ av l ∧ av l ≤ 10000 := by
  have := av_bd l; rw [h] at this; exact this
/-- The part of l from i to j. -/
def part (l : List UInt8) (i j : Nat) : List UInt8 := (l.drop i).take (j - i)
theorem part_len (l : List UInt8) (i j : Nat) (hij : i ≤ j) (hj : j ≤ l.length) : (part l i j).length = j - i := by unfold part; simp; omega
/-- The parts of a date text. -/
theorem txt_parts (w y m d r : Nat) (hw : w < 7) (h1 : 1 ≤ m) (h2 : m ≤ 12) :
    (txt w y m d r).length = 29 ∧ part (txt w y m d r) 12 16 = d4 y ∧ part (txt w y m d r) 8 11 = moS m ∧ part (txt w y m d r) 5 7 = dd d ∧
      part (txt w y m d r) 17 19 = dd (r / 3600) ∧ part (txt w y m d r) 20 22 = dd (r % 3600 / 60) ∧ part (txt w y m d r) 23 25 = dd (r % 60) := by
  obtain ⟨a, b, c, e⟩ := three (wdS_len w hw)
  obtain ⟨a', b', c', e'⟩ := three (moS_len m h1 h2)
  unfold txt dateS clockS part
  rw [e, e']
  exact ⟨rfl, rfl, rfl, rfl, rfl, rfl, rfl⟩
theorem isT_parts {n : Nat} {l : List UInt8} (h : isT n l) : l.length = 29 ∧ ∃ y m d : Nat, isD y m d ((n / 86400 : Nat) : Int) ∧ part l 12 16 = d4 y ∧ part l 8 11 = moS m ∧ part l 5 7 = dd d ∧
      part l 17 19 = dd (n % 86400 / 3600) ∧ part l 20 22 = dd (n % 86400 % 3600 / 60) ∧ part l 23 25 = dd (n % 86400 % 60) := by
  obtain ⟨_, y, m, d, hD, rfl⟩ := h
  have b := isD_bd hD
  have p := txt_parts ((n / 86400 + 4) % 7) y m d (n % 86400) (by omega) (by omega) (by omega)
  exact ⟨p.1, y, m, d, hD, p.2⟩
/-- A text is that of one second at most. -/
theorem isT_inj {n k : Nat} {l : List UInt8} (h : isT n l) (h' : isT k l) : n = k := by
  obtain ⟨_, y, m, d, hD, p1, p2, p3, p4, p5, p6⟩ := isT_parts h
  obtain ⟨_, y', m', d', hD', q1, q2, q3, q4, q5, q6⟩ := isT_parts h'
  have b := isD_bd hD; have b' := isD_bd hD'
  have e1 := av_d4 y (by omega); rw [← p1, q1, av_d4 y' (by omega)] at e1
  have e2 := moS_inj m' m (by omega) (by omega) (by omega) (by omega) (by rw [← q2, p2])
  have e3 := av_dd d (by omega); rw [← p3, q3, av_dd d' (by omega)] at e3
  have e4 := av_dd (n % 86400 / 3600) (by omega); rw [← p4, q4, av_dd _ (by omega)] at e4
  have e5 := av_dd (n % 86400 % 3600 / 60) (by omega); rw [← p5, q5, av_dd _ (by omega)] at e5
  have e6 := av_dd (n % 86400 % 60) (by omega); rw [← p6, q6, av_dd _ (by omega)] at e6
  have g := hD.2.2.2.2.2.2; have g' := hD'.2.2.2.2.2.2
  rw [← e1, ← e3, ← e2, ← g'] at g
  omega
/-- k is the number of the month of this name, or 0. -/
def isMo (l : List UInt8) (k : Nat) : Prop := (1 ≤ k ∧ k ≤ 12 ∧ moS k = l) ∨ (k = 0 ∧ ∀ j, 1 ≤ j → j ≤ 12 → moS j ≠ l)
theorem isMo_of {l : List UInt8} {k m : Nat} (h : isMo l k) (h1 : 1 ≤ m) (h2 : m ≤ 12) (e : l = moS m) : k = m := by
  rcases h with ⟨a, b, c⟩ | ⟨_, c⟩
  · exact moS_inj k m a b h1 h2 (c.trans e)
  · exact absurd e.symm (c m h1 h2)
theorem isMo_bd {l : List UInt8} {k : Nat} (h : isMo l k) : k ≤ 12 := by
  rcases h with ⟨_, b, _⟩ | ⟨b, _⟩ <;> omega
theorem decDigits_4 (n : Nat) (h1 : 1000 ≤ n) (h2 : n < 10000) : Lib.decDigits n = d4 n := by
  rw [Lib.decDigits, dif_neg (by omega), Lib.decDigits, dif_neg (by omega), Lib.decDigits, dif_neg (by omega), Lib.decDigits, dif_pos (by omega)]
  have e1 : n / 10 / 10 / 10 = n / 1000 := by omega
  have e2 : n / 10 / 10 = n / 100 := by omega
  unfold d4 dig
  rw [e1, e2, Nat.mod_eq_of_lt (show n / 1000 < 10 by omega)]
  rfl
theorem dd_small (n : Nat) (h : n < 10) : [48] ++ Lib.decDigits n = dd n := by
  rw [Lib.decDigits_one h]; unfold dd dig
  rw [Nat.div_eq_of_lt h, Nat.mod_eq_of_lt h]; rfl
theorem dd_big (n : Nat) (h1 : ¬ n < 10) (h2 : n < 100) : Lib.decDigits n = dd n := by
  rw [Lib.decDigits_two h1 h2]; unfold dd dig
  rw [Nat.mod_eq_of_lt (show n / 10 < 10 by omega)]
end Go.Proofs.YtieolalohindgaaGreatDoor

/- Plain mathematics: the date of a text, or none. -/
namespace Go.Proofs.YtieolalohindgaaGreatDoor

/-- A text is the date text of a second, or of none. -/
def DateIs (v : List UInt8) (d : Option Nat) : Prop := match d with
  | some n => isT n v
  | none => ∀ n, ¬ isT n v
theorem date_ex (v : List UInt8) : ∃ d, DateIs v d := by
  by_cases h : ∃ n, isT n v
  · obtain ⟨n, h⟩ := h; exact ⟨some n, h⟩
  · exact ⟨none, fun n hn => h ⟨n, hn⟩⟩
theorem DateIs.uniq {v : List UInt8} {d e : Option Nat} (h : DateIs v d) (g : DateIs v e) : d = e := by
  cases d with
  | none => cases e with
    | none => rfl
    | some n => exact absurd g (h n)
  | some n => cases e with
    | none => exact absurd h (g n)
    | some k => exact congrArg some (isT_inj h g)
theorem date_nil : DateIs [] none := fun n h => by have := (isT_parts h).1; simp at this
end Go.Proofs.YtieolalohindgaaGreatDoor
