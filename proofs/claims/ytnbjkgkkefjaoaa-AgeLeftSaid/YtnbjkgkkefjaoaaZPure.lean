/- Pure: the bounds of an age: what At says of times, a reading and a drift; for how many readings a response stays fresh. -/
import Derived.Test.YtnbjkgkkefjaoaaCPure
namespace Go.Proofs.Ytnbjkgkkefjaoaa

/-- What an Age field adds to the upper bound. -/
def addA (a : Int) : Int := if a < 0 then 0 else (min a 2147483647 + 1) * 1000
theorem addA_bd (a : Int) : 0 ≤ addA a ∧ addA a ≤ 2147483648000 := by unfold addA; split <;> omega
/-- The order of the clipped readings. -/
def okA (s r n : Int) : Bool := decide (tk s ≤ tk r ∧ tk r ≤ tk n)
def lowA (r n p : Int) : Int := loE (tk n - tk r) (pm p)
def topA (s a n p : Int) : Int := hiE (tk n - tk s) (pm p) + addA a
theorem top_bd {s r a n p : Int} (h : okA s r n = true) : 0 ≤ lowA r n p ∧ lowA r n p ≤ 1099511627776 ∧ 0 ≤ topA s a n p ∧ topA s a n p ≤ 4398046511104 := by
  have h := of_decide_eq_true h
  have b1 := tk_bd s
  have b2 := tk_bd r
  have b3 := tk_bd n
  have b4 := pm_bd p
  have l := lo_bd (tk n - tk r) (pm p) (by omega) b4.1 b4.2
  have u := hi_bd (tk n - tk s) (pm p) (by omega) b4.1 b4.2
  have c := addA_bd a
  unfold lowA topA
  omega
theorem low_top {s r a n p : Int} (h : okA s r n = true) : lowA r n p ≤ topA s a n p := by
  have h := of_decide_eq_true h
  have b1 := tk_bd s
  have b2 := tk_bd r
  have b3 := tk_bd n
  have b4 := pm_bd p
  have l := lo_bd (tk n - tk r) (pm p) (by omega) b4.1 b4.2
  have u := hi_bd (tk n - tk s) (pm p) (by omega) b4.1 b4.2
  have c := addA_bd a
  unfold lowA topA
  omega
/-- Fresh and Stale. -/
def frA (s r a n p l : Int) : Bool := okA s r n && decide (topA s a n p < l)
def stA (s r n p l : Int) : Bool := okA s r n && decide (l ≤ lowA r n p)
theorem tk_tk (n : Int) : tk (tk n) = tk n := by unfold tk; omega
theorem tk_add {n : Int} {k : Nat} (h : (k : Int) < 1099511627777 - tk n) : tk (tk n + k) = tk n + k := by
  have := tk_bd n
  unfold tk at *; omega
/-- What is fresh at a later reading is fresh at an earlier one, from a reading without an error on. -/
theorem fr_anti {s r a n p l : Int} {i j : Nat} (ok : okA s r n = true) (hij : i ≤ j) (hj : (j : Int) < 1099511627777 - tk n) (h : frA s r a (tk n + j) p l = true) : frA s r a (tk n + i) p l = true := by
  have ok := of_decide_eq_true ok
  have b1 := tk_bd s
  have b4 := pm_bd p
  unfold frA at h ⊢
  rw [Bool.and_eq_true] at h ⊢
  obtain ⟨h1, h2⟩ := h
  have h2 := of_decide_eq_true h2
  refine ⟨decide_eq_true (by rw [tk_add (by omega)]; omega), decide_eq_true ?_⟩
  unfold topA at h2 ⊢
  rw [tk_add hj] at h2
  rw [tk_add (by omega)]
  have := hi_n (tk n + i - tk s) (tk n + j - tk s) (pm p) (by omega) b4.2
  omega
/-- N counts the places below M at which f holds: these are the first ones. -/
def CountIs (f : Nat → Bool) (M N : Nat) : Prop := N ≤ M ∧ (∀ k, k < N → f k = true) ∧ (∀ k, N ≤ k → k < M → f k = false)
theorem CountIs.uniq {f : Nat → Bool} {M N K : Nat} (h : CountIs f M N) (g : CountIs f M K) : N = K := by
  obtain ⟨h1, h2, h3⟩ := h
  obtain ⟨g1, g2, g3⟩ := g
  rcases Nat.lt_trichotomy N K with q | q | q
  · have := g2 N q; rw [h3 N (Nat.le_refl _) (by omega)] at this; cases this
  · exact q
  · have := h2 K q; rw [g3 K (Nat.le_refl _) (by omega)] at this; cases this
theorem countIs_countP (f : Nat → Bool) (M : Nat) (h : ∀ a b, a ≤ b → b < M → f b = true → f a = true) : CountIs f M ((List.range M).countP f) := by
  induction M with
  | zero => exact ⟨Nat.le_refl _, fun k hk => by simp at hk, fun k _ hk => absurd hk (Nat.not_lt_zero _)⟩
  | succ M ih =>
    obtain ⟨i1, i2, i3⟩ := ih fun a b hab hb => h a b hab (by omega)
    rw [List.range_succ, List.countP_append]
    generalize (List.range M).countP f = c at *
    cases hM : f M with
    | true =>
      have all : ∀ k, k < M → f k = true := fun k hk => h k M (by omega) (by omega) hM
      have hc : c = M := by
        rcases Nat.lt_or_ge c M with q | q
        · have := all c q; rw [i3 c (Nat.le_refl _) q] at this; cases this
        · omega
      subst hc
      simp [hM]
      exact ⟨by omega, fun k hk => if q : k < c then all k q else by rw [show k = c by omega]; exact hM, fun k h1 h2 => by omega⟩
    | false =>
      simp [hM]
      exact ⟨by omega, i2, fun k h1 h2 => if q : k < M then i3 k h1 q else by rw [show k = M by omega]; exact hM⟩
/-- Left. -/
def LeftIs (s r a n p l : Int) (N : Nat) : Prop := CountIs (fun k => frA s r a (tk n + k) p l) (1099511627777 - tk n).toNat N
/-- A chain's step: the next hop's true age is within its bounds, its statement too. -/
theorem div_bd (x : Int) : x < (x / 1000 + 1) * 1000 := by omega
end Go.Proofs.Ytnbjkgkkefjaoaa
