/- Pure: the arithmetic of clocks that drift within a bound: the ends of Elapsed, Hold and Wait as formulas, what they say about products, and the laws. -/
import Derived.Lib.Hide
namespace Go.Proofs.Ytfjknafohkeglaa

/-- A time within its limits; a drift within its limits. -/
def tk (n : Int) : Int := max 0 (min n 1099511627776)
def pm (n : Int) : Int := max 0 (min n 100000)
theorem tk_bd (n : Int) : 0 ≤ tk n ∧ tk n ≤ 1099511627776 := by unfold tk; omega
theorem pm_bd (n : Int) : 0 ≤ pm n ∧ pm n ≤ 100000 := by unfold pm; omega
def loE (n p : Int) : Int := if n = 0 then 0 else (n - 1) * 1000000 / (1000000 + p) + 1
def hiE (n p : Int) : Int := ((n + 1) * 1000000 + (1000000 - p) - 1) / (1000000 - p) - 1
def hoE (l p : Int) : Int := l * (1000000 - p) / 1000000
def waE (l p : Int) : Int := if l = 0 then 0 else ((l - 1) * (1000000 + p) + 999999) / 1000000 + 1

theorem div_lo (a b : Int) (h : 0 < b) : a / b * b ≤ a := Int.ediv_mul_le a (by omega)
theorem div_hi (a b : Int) (h : 0 < b) : a < a / b * b + b := by
  have := Int.lt_ediv_add_one_mul_self a h
  rw [Int.add_mul, Int.one_mul] at this
  exact this
/-- What loE says: the products. -/
theorem lo_spec (n p : Int) (hn : 0 < n) (hp : 0 ≤ p) : (loE n p - 1) * (1000000 + p) ≤ (n - 1) * 1000000 ∧ (n - 1) * 1000000 < loE n p * (1000000 + p) := by
  have e : loE n p = (n - 1) * 1000000 / (1000000 + p) + 1 := if_neg (by omega)
  have h1 := div_lo ((n - 1) * 1000000) (1000000 + p) (by omega)
  have h2 := div_hi ((n - 1) * 1000000) (1000000 + p) (by omega)
  rw [e, Int.add_sub_cancel, Int.add_mul, Int.one_mul]
  exact ⟨h1, h2⟩
theorem lo_zero (p : Int) : loE 0 p = 0 := rfl
theorem hi_spec (n p : Int) (hp : p ≤ 100000) : hiE n p * (1000000 - p) < (n + 1) * 1000000 ∧ (n + 1) * 1000000 ≤ (hiE n p + 1) * (1000000 - p) := by
  have h1 := div_lo ((n + 1) * 1000000 + (1000000 - p) - 1) (1000000 - p) (by omega)
  have h2 := div_hi ((n + 1) * 1000000 + (1000000 - p) - 1) (1000000 - p) (by omega)
  have e : hiE n p = ((n + 1) * 1000000 + (1000000 - p) - 1) / (1000000 - p) - 1 := rfl
  rw [e, Int.sub_add_cancel, Int.sub_mul, Int.one_mul]
  constructor <;> omega
theorem ho_spec (l p : Int) : hoE l p * 1000000 ≤ l * (1000000 - p) ∧ l * (1000000 - p) < (hoE l p + 1) * 1000000 := by
  unfold hoE; omega
theorem wa_spec (l p : Int) (hl : 0 < l) : (waE l p - 2) * 1000000 < (l - 1) * (1000000 + p) ∧ (l - 1) * (1000000 + p) ≤ (waE l p - 1) * 1000000 := by
  have e : waE l p = ((l - 1) * (1000000 + p) + 999999) / 1000000 + 1 := if_neg (by omega)
  rw [e]; omega
theorem wa_zero (p : Int) : waE 0 p = 0 := rfl
theorem mono_r {a b c : Int} (h : a ≤ b) (hc : 0 ≤ c) : a * c ≤ b * c := Int.mul_le_mul_of_nonneg_right h hc
theorem mono_l {a b c : Int} (h : a ≤ b) (hc : 0 ≤ c) : c * a ≤ c * b := Int.mul_le_mul_of_nonneg_left h hc
theorem lt_of_prod {a b c : Int} (h : a * c < b * c) (hc : 0 ≤ c) : a < b := Int.lt_of_mul_lt_mul_right h hc
theorem le_of_prod {a b c : Int} (h : a * c ≤ b * c) (hc : 0 < c) : a ≤ b := Int.le_of_mul_le_mul_right h hc

/-- A reading's products: 0 ≤ l (M - p) ≤ l M and l M ≤ l (M + p) ≤ 2 l M. -/
theorem prod_bd (l p : Int) (hl : 0 ≤ l) (h0 : 0 ≤ p) (h1 : p ≤ 100000) :
    0 ≤ l * p ∧ l * p ≤ l * 100000 ∧ l * (1000000 - p) = l * 1000000 - l * p ∧ l * (1000000 + p) = l * 1000000 + l * p := by
  have a := Int.mul_nonneg hl h0
  have b := mono_l h1 hl
  exact ⟨a, b, Int.mul_sub _ _ _, Int.mul_add _ _ _⟩

theorem lo_bd (n p : Int) (hn : 0 ≤ n) (h0 : 0 ≤ p) (h1 : p ≤ 100000) : 0 ≤ loE n p ∧ loE n p ≤ n := by
  by_cases h : n = 0
  · subst h; rw [lo_zero]; omega
  · obtain ⟨a, b⟩ := lo_spec n p (by omega) h0
    have c : 0 < loE n p := lt_of_prod (c := 1000000 + p) (by omega) (by omega)
    have q := prod_bd (loE n p - 1) p (by omega) h0 h1
    omega
theorem hi_bd (n p : Int) (hn : 0 ≤ n) (h0 : 0 ≤ p) (h1 : p ≤ 100000) : n ≤ hiE n p ∧ hiE n p * 9 < (n + 1) * 10 := by
  obtain ⟨a, b⟩ := hi_spec n p h1
  have c : 0 < hiE n p + 1 := lt_of_prod (c := 1000000 - p) (by omega) (by omega)
  have q := prod_bd (hiE n p) p (by omega) h0 h1
  have q' := prod_bd (hiE n p + 1) p (by omega) h0 h1
  omega
theorem ho_bd (l p : Int) (hl : 0 ≤ l) (h0 : 0 ≤ p) (h1 : p ≤ 100000) : 0 ≤ hoE l p ∧ hoE l p ≤ l := by
  obtain ⟨a, b⟩ := ho_spec l p
  have q := prod_bd l p hl h0 h1
  omega
theorem wa_bd (l p : Int) (hl : 0 ≤ l) (h0 : 0 ≤ p) (h1 : p ≤ 100000) : l ≤ waE l p ∧ waE l p * 10 ≤ l * 11 + 20 := by
  by_cases h : l = 0
  · subst h; rw [wa_zero]; omega
  · obtain ⟨a, b⟩ := wa_spec l p (by omega)
    have q := prod_bd (l - 1) p (by omega) h0 h1
    omega

/-- Possible, of the reference: whether a difference d is possible after t ticks. -/
def posB (d t p : Int) : Bool := decide (0 ≤ t ∧ (d - 1) * 1000000 < t * (1000000 + p) ∧ t * (1000000 - p) < (d + 1) * 1000000)
theorem pos_lo (n p : Int) (hn : 0 ≤ n) (h0 : 0 ≤ p) (h1 : p ≤ 100000) : posB n (loE n p) p = true ∧ posB n (loE n p - 1) p = false := by
  have bd := lo_bd n p hn h0 h1
  by_cases h : n = 0
  · subst h; rw [lo_zero]
    exact ⟨decide_eq_true (by omega), decide_eq_false (by omega)⟩
  · obtain ⟨a, b⟩ := lo_spec n p (by omega) h0
    have q := prod_bd (loE n p) p (by omega) h0 h1
    have c : 0 < loE n p := lt_of_prod (c := 1000000 + p) (by omega) (by omega)
    have q' := prod_bd (loE n p - 1) p (by omega) h0 h1
    exact ⟨decide_eq_true (by omega), decide_eq_false (by omega)⟩
theorem pos_hi (n p : Int) (hn : 0 ≤ n) (h0 : 0 ≤ p) (h1 : p ≤ 100000) : posB n (hiE n p) p = true ∧ posB n (hiE n p + 1) p = false := by
  have bd := hi_bd n p hn h0 h1
  obtain ⟨a, b⟩ := hi_spec n p h1
  have q := prod_bd (hiE n p) p (by omega) h0 h1
  have q' := prod_bd (hiE n p + 1) p (by omega) h0 h1
  exact ⟨decide_eq_true (by omega), decide_eq_false (by omega)⟩
theorem pos_ho (n p : Int) (hn : 0 < n) (h0 : 0 ≤ p) (h1 : p ≤ 100000) : posB (hoE n p - 1) n p = false ∧ posB (hoE n p) n p = true := by
  have bd := ho_bd n p (by omega) h0 h1
  obtain ⟨a, b⟩ := ho_spec n p
  have q := prod_bd n p (by omega) h0 h1
  exact ⟨decide_eq_false (by omega), decide_eq_true (by omega)⟩
theorem pos_wa (n p : Int) (hn : 0 < n) (h0 : 0 ≤ p) (h1 : p ≤ 100000) : posB (waE n p) (n - 1) p = false ∧ posB (waE n p - 1) (n - 1) p = true := by
  have bd := wa_bd n p (by omega) h0 h1
  obtain ⟨a, b⟩ := wa_spec n p (by omega)
  have q := prod_bd (n - 1) p (by omega) h0 h1
  exact ⟨decide_eq_false (by omega), decide_eq_true (by omega)⟩

/- What grows. -/
theorem lo_n (n m p : Int) (hn : 0 ≤ n) (hm : n ≤ m) (h0 : 0 ≤ p) (h1 : p ≤ 100000) : loE n p ≤ loE m p := by
  by_cases h : n = 0
  · subst h; rw [lo_zero]; exact (lo_bd m p hm h0 h1).1
  · obtain ⟨a, b⟩ := lo_spec n p (by omega) h0
    obtain ⟨c, d⟩ := lo_spec m p (by omega) h0
    have : loE n p - 1 < loE m p := lt_of_prod (c := 1000000 + p) (by omega) (by omega)
    omega
theorem lo_p (n p q : Int) (hn : 0 ≤ n) (h0 : 0 ≤ p) (h1 : p ≤ q) (h2 : q ≤ 100000) : loE n q ≤ loE n p := by
  by_cases h : n = 0
  · subst h; rw [lo_zero, lo_zero]; omega
  · obtain ⟨a, b⟩ := lo_spec n p (by omega) h0
    obtain ⟨c, d⟩ := lo_spec n q (by omega) (by omega)
    have e := mono_l (c := loE n p) (show 1000000 + p ≤ 1000000 + q by omega) (lo_bd n p hn h0 (by omega)).1
    have : loE n q - 1 < loE n p := lt_of_prod (c := 1000000 + q) (by omega) (by omega)
    omega
theorem hi_n (n m p : Int) (hm : n ≤ m) (h1 : p ≤ 100000) : hiE n p ≤ hiE m p := by
  obtain ⟨a, b⟩ := hi_spec n p h1
  obtain ⟨c, d⟩ := hi_spec m p h1
  have : hiE n p < hiE m p + 1 := lt_of_prod (c := 1000000 - p) (by omega) (by omega)
  omega
theorem hi_p (n p q : Int) (hn : 0 ≤ n) (h0 : 0 ≤ p) (h1 : p ≤ q) (h2 : q ≤ 100000) : hiE n p ≤ hiE n q := by
  obtain ⟨a, b⟩ := hi_spec n p (by omega)
  obtain ⟨c, d⟩ := hi_spec n q h2
  have e := mono_l (c := hiE n p) (show 1000000 - q ≤ 1000000 - p by omega) (by have := hi_bd n p hn h0 (by omega); omega)
  have : hiE n p < hiE n q + 1 := lt_of_prod (c := 1000000 - q) (by omega) (by omega)
  omega
theorem ho_l (l m p : Int) (hm : l ≤ m) (h1 : p ≤ 100000) : hoE l p ≤ hoE m p := by
  have := mono_r hm (show 0 ≤ 1000000 - p by omega)
  unfold hoE; omega
theorem ho_p (l p q : Int) (hl : 0 ≤ l) (h1 : p ≤ q) : hoE l q ≤ hoE l p := by
  have := mono_l (show 1000000 - q ≤ 1000000 - p by omega) hl
  unfold hoE; omega
theorem wa_l (l m p : Int) (hl : 0 ≤ l) (hm : l ≤ m) (h0 : 0 ≤ p) (h1 : p ≤ 100000) : waE l p ≤ waE m p := by
  by_cases h : l = 0
  · subst h; rw [wa_zero]; have := wa_bd m p hm h0 h1; omega
  · obtain ⟨a, b⟩ := wa_spec l p (by omega)
    obtain ⟨c, d⟩ := wa_spec m p (by omega)
    have := mono_r (show l - 1 ≤ m - 1 by omega) (show 0 ≤ 1000000 + p by omega)
    omega
theorem wa_p (l p q : Int) (hl : 0 ≤ l) (h1 : p ≤ q) : waE l p ≤ waE l q := by
  by_cases h : l = 0
  · subst h; rw [wa_zero, wa_zero]; omega
  · obtain ⟨a, b⟩ := wa_spec l p (by omega)
    obtain ⟨c, d⟩ := wa_spec l q (by omega)
    have := mono_l (c := l - 1) (show 1000000 + p ≤ 1000000 + q by omega) (by omega)
    omega

/- A clock's reading, with the rate N / 1024. -/
/-- The difference of two readings: floor(to N / 1024) - floor(from N / 1024). -/
theorem diff_bd (f t N d : Int) (h : d = t * N / 1024 - f * N / 1024) : (d - 1) * 1024 < (t - f) * N ∧ (t - f) * N < (d + 1) * 1024 := by
  rw [Int.sub_mul t f N]; omega
/-- A rate within the bound. -/
theorem rate_prod (D N p : Int) (hD : 0 ≤ D) (a : N * 1000000 ≤ 1024 * (1000000 + p)) (b : 1024 * (1000000 - p) ≤ N * 1000000) :
    D * N * 1000000 ≤ D * (1000000 + p) * 1024 ∧ D * (1000000 - p) * 1024 ≤ D * N * 1000000 := by
  have x := mono_l a hD
  have y := mono_l b hD
  rw [Int.mul_left_comm D 1024, Int.mul_comm 1024] at x y
  rw [← Int.mul_assoc D N] at x y
  exact ⟨x, y⟩
theorem contains_pure (f t N d p : Int) (hft : f ≤ t) (hd : 0 ≤ d) (h0 : 0 ≤ p) (h1 : p ≤ 100000) (h : d = t * N / 1024 - f * N / 1024)
    (a : N * 1000000 ≤ 1024 * (1000000 + p)) (b : 1024 * (1000000 - p) ≤ N * 1000000) : loE d p ≤ t - f ∧ t - f ≤ hiE d p := by
  obtain ⟨u, v⟩ := diff_bd f t N d h
  obtain ⟨x, y⟩ := rate_prod (t - f) N p (by omega) a b
  constructor
  · by_cases hz : d = 0
    · rw [hz, lo_zero]; omega
    · obtain ⟨q, r⟩ := lo_spec d p (by omega) h0
      have : loE d p - 1 < t - f := lt_of_prod (c := 1000000 + p) (by omega) (by omega)
      omega
  · obtain ⟨q, r⟩ := hi_spec d p h1
    have : t - f < hiE d p + 1 := lt_of_prod (c := 1000000 - p) (by omega) (by omega)
    omega
theorem leases_pure (s h g w N K d e l p : Int) (hsh : s ≤ h) (hgw : g ≤ w) (hsg : s ≤ g) (hl : 0 ≤ l) (h0 : 0 ≤ p) (h1 : p ≤ 100000) (hd0 : 0 ≤ d) (hd : d = h * N / 1024 - s * N / 1024) (he : e = w * K / 1024 - g * K / 1024)
    (a : N * 1000000 ≤ 1024 * (1000000 + p)) (b : 1024 * (1000000 - p) ≤ N * 1000000) (a' : K * 1000000 ≤ 1024 * (1000000 + p)) (b' : 1024 * (1000000 - p) ≤ K * 1000000)
    (hold : d < hoE l p) (wait : waE l p ≤ e) : h < w := by
  obtain ⟨u, v⟩ := diff_bd s h N d hd
  obtain ⟨u', v'⟩ := diff_bd g w K e he
  obtain ⟨x, y⟩ := rate_prod (h - s) N p (by omega) a b
  obtain ⟨x', y'⟩ := rate_prod (w - g) K p (by omega) a' b'
  obtain ⟨q, r⟩ := ho_spec l p
  have hl0 : 0 < l := by
    by_cases hz : l = 0
    · subst hz; unfold hoE at hold; omega
    · omega
  obtain ⟨q', r'⟩ := wa_spec l p hl0
  have t1 : h - s < l := lt_of_prod (c := 1000000 - p) (by omega) (by omega)
  have t2 : l - 1 < w - g := lt_of_prod (c := 1000000 + p) (by omega) (by omega)
  omega
end Go.Proofs.Ytfjknafohkeglaa
