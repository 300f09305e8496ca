/- What the reference's Read and Possible return, and the statements' near and awake. -/
import Derived.Test.YtfjknafohkeglaaCBox
import Derived.Test.YtfjknafohkeglaaNum
namespace Go.Proofs.Ytfjknafohkeglaa
open Go.RowKit

set_option maxHeartbeats 4000000 in
theorem refRead_any (o n d t : Int) (w : World) :
    Calls Try.prog 9 #[ckV o n d, .int .i64 t] w fun e w' => e = .returned (readR o n d t) ∧ Below w.heap.size w w' := by
  have H2 := Lib.hid (fun W => rate_any o n d W)
  by_cases o1 : o < 0
  · have E := Lib.hid (readR_no (show okB o n d t = false by unfold okB; rw [decide_eq_false (by omega)]; rfl))
    go_enter Try.func9, Try.ntmps9
    go_wp2_with fail
    go_ret2
    exact ⟨by rw [E.out]; rfl, below_new _ _⟩
  · by_cases o2 : 1099511627776 < o
    · have E := Lib.hid (readR_no (show okB o n d t = false by unfold okB; rw [decide_eq_false (by omega)]; rfl))
      go_enter Try.func9, Try.ntmps9
      go_wp2_with fail
      go_ret2
      exact ⟨by rw [E.out]; rfl, below_new _ _⟩
    · cases c2 : rateB n d with
      | false =>
        have E := Lib.hid (readR_no (show okB o n d t = false by unfold okB; rw [c2]; simp))
        rw [c2] at H2
        clear c2
        go_enter Try.func9, Try.ntmps9
        go_wp2_with fail
        refine (H2.out _).mono ?_
        rintro e w2 ⟨rfl, hB⟩
        go_wp2_with fail
        go_ret2
        exact ⟨by rw [E.out]; rfl, (below_new _ _).trans (hB.mono (by simp))⟩
      | true =>
        rw [c2] at H2
        by_cases t1 : t < 0
        · have E := Lib.hid (readR_no (show okB o n d t = false by unfold okB; rw [decide_eq_false (p := 0 ≤ t ∧ t ≤ 1099511627776) (by omega)]; simp))
          clear c2
          go_enter Try.func9, Try.ntmps9
          go_wp2_with fail
          refine (H2.out _).mono ?_
          rintro e w2 ⟨rfl, hB⟩
          go_wp2_with fail
          go_ret2
          exact ⟨by rw [E.out]; rfl, (below_new _ _).trans (hB.mono (by simp))⟩
        · by_cases t2 : 1099511627776 < t
          · have E := Lib.hid (readR_no (show okB o n d t = false by unfold okB; rw [decide_eq_false (p := 0 ≤ t ∧ t ≤ 1099511627776) (by omega)]; simp))
            clear c2
            go_enter Try.func9, Try.ntmps9
            go_wp2_with fail
            refine (H2.out _).mono ?_
            rintro e w2 ⟨rfl, hB⟩
            go_wp2_with fail
            go_ret2
            exact ⟨by rw [E.out]; rfl, (below_new _ _).trans (hB.mono (by simp))⟩
          · have E := Lib.hid (readR_yes (show okB o n d t = true by unfold okB; rw [c2, decide_eq_true (p := 0 ≤ t ∧ t ≤ 1099511627776) (by omega), decide_eq_true (p := 0 ≤ o ∧ o ≤ 1099511627776) (by omega)]; rfl))
            have rb := rate_bd c2
            have xb := tn_bd t n d (by omega) ⟨rb.1, rb.2.1⟩ rb.2.2.1
            obtain ⟨X, hX⟩ : ∃ X, t * n = X := ⟨_, rfl⟩
            obtain ⟨Y, hY⟩ : ∃ Y, X / d = Y := ⟨_, rfl⟩
            rw [hX, hY] at xb E
            have hw1 : IntKind.i64.wrap (t * n) = X := by rw [hX]; exact IntWalk.i64_in _ (by omega)
            have hd0 : (d == 0) = false := by simp; omega
            have hw2 : IntKind.i64.wrap (X / d) = Y := by rw [hY]; exact IntWalk.i64_in _ (by omega)
            have hw2' : IntKind.i64.wrap (X.tdiv d) = Y := by rw [Int.tdiv_eq_ediv_of_nonneg xb.1]; exact hw2
            have hw3 : IntKind.i64.wrap (o + Y) = o + Y := IntWalk.i64_in _ (by omega)
            clear c2 hX hY
            go_enter Try.func9, Try.ntmps9
            go_wp2_with fail
            refine (H2.out _).mono ?_
            rintro e w2 ⟨rfl, hB⟩
            obtain ⟨e0, e1, e2, hN⟩ := (threeI_new w o n d 23).below hB
            have HB := Lib.hid ((below_new w (.cells #[.int .i64 o, .int .i64 n, .int .i64 d] 23)).trans (hB.mono (by simp)))
            clear hB
            go_wp2_with fail
            go_quiet (fail)
            go_wp2_with fail
            go_ret2
            exact ⟨by rw [E.out]; rfl, below_drewN HB.out _⟩
/-- The numerator of near: 1024 and part of 255 of the bound, more or less. -/
def nearN (p part : Int) (slow : Bool) : Int := if slow = true then 1024 + -(p * 1024 / 1000000 * part / 255) else 1024 + p * 1024 / 1000000 * part / 255
theorem near_bd (p part : Int) (slow : Bool) (h0 : 0 ≤ p) (h1 : p ≤ 100000) (q0 : 0 ≤ part) (q1 : part ≤ 255) :
    nearN p part slow * 1000000 ≤ 1024 * (1000000 + p) ∧ 1024 * (1000000 - p) ≤ nearN p part slow * 1000000 ∧ 922 ≤ nearN p part slow ∧ nearN p part slow ≤ 1126 ∧ 0 ≤ p * 1024 / 1000000 * part ∧ p * 1024 / 1000000 * part ≤ 26010 := by
  obtain ⟨m, hm⟩ : ∃ m, p * 1024 / 1000000 = m := ⟨_, rfl⟩
  have m0 : 0 ≤ m ∧ m * 1000000 ≤ p * 1024 ∧ m ≤ 102 := by omega
  have a := Int.mul_nonneg m0.1 q0
  have b := mono_l q1 m0.1
  unfold nearN
  rw [hm]
  generalize m * part = z at *
  split <;> omega
end Go.Proofs.Ytfjknafohkeglaa
