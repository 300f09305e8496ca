/- What the reference's Read and Possible return, and the statements' near and awake. -/
import Derived.Test.YtnbjkgkkefjaoaaCBox
import Derived.Test.YtnbjkgkkefjaoaaNum
namespace Go.Proofs.Ytnbjkgkkefjaoaa
open Go.RowKit

set_option maxHeartbeats 2000000 in
theorem possible_any (d t q : Int) (hd : -4398046511104 ≤ d ∧ d ≤ 4398046511104) (ht : t ≤ 4398046511104) (ht0 : -4398046511104 ≤ t) (w : World) :
    Calls Try.prog 18 #[.int .i64 d, .int .i64 t, .int .i64 q] w fun e w' => e = .returned (.bool (posB d t (pm q))) ∧ w = w' := by
  have b2 := pm_bd q
  have HP := Lib.hid (fun W => refPpm_any q W)
  obtain ⟨p, hp⟩ : ∃ p, pm q = p := ⟨_, rfl⟩
  rw [hp] at b2 HP ⊢
  clear hp
  by_cases h0 : t < 0
  · have E := Lib.hid (show posB d t p = false from decide_eq_false (by omega))
    go_enter Try.func18, Try.ntmps18
    go_wp2_with fail
    go_ret
    exact ⟨ret_bool E.out.symm, rfl⟩
  · have pb := prod_bd t p (by omega) b2.1 b2.2
    obtain ⟨X, hX⟩ : ∃ X, t * (1000000 + p) = X := ⟨_, rfl⟩
    obtain ⟨Y, hY⟩ : ∃ Y, t * (1000000 - p) = Y := ⟨_, rfl⟩
    have E := Lib.hid (show posB d t p = decide (0 ≤ t ∧ (d - 1) * 1000000 < X ∧ Y < (d + 1) * 1000000) by rw [← hX, ← hY]; rfl)
    have hw1 : wrap64 (t * (1000000 + p)) = X := by rw [hX]; exact wrap_in (by omega) (by omega)
    have hw2 : wrap64 (t * (1000000 - p)) = Y := by rw [hY]; exact wrap_in (by omega) (by omega)
    have bX : 0 ≤ X ∧ X ≤ 4837851162214400000 ∧ 0 ≤ Y ∧ Y ≤ 4837851162214400000 := by omega
    clear pb hX hY
    by_cases h1 : (d - 1) * 1000000 < X
    · by_cases h2 : Y < (d + 1) * 1000000
      all_goals
        go_enter Try.func18, Try.ntmps18
        go_wp2_with fail
        refine (HP.out _).mono ?_
        rintro e w' ⟨rfl, rfl⟩
        go_wp2_with fail
        refine (HP.out _).mono ?_
        rintro e w' ⟨rfl, rfl⟩
        go_wp2_with fail
        go_ret
        refine ⟨ret_bool ?_, rfl⟩
        rw [E.out]
        first | exact (decide_eq_true (by omega)).symm | exact decide_eq_decide.mpr (by omega)
    · go_enter Try.func18, Try.ntmps18
      go_wp2_with fail
      refine (HP.out _).mono ?_
      rintro e w' ⟨rfl, rfl⟩
      go_wp2_with fail
      go_ret
      exact ⟨ret_bool (by rw [E.out]; exact (decide_eq_false (by omega)).symm), rfl⟩
/-- The numerator of near: 1024 and part of 255 of the bound, more or less. -/
def nearN (p part : Int) (slow : Bool) : Int := if slow = true then 1024 + -(p * 1024 / 1000000 * part / 255) else 1024 + p * 1024 / 1000000 * part / 255
theorem near_bd (p part : Int) (slow : Bool) (h0 : 0 ≤ p) (h1 : p ≤ 100000) (q0 : 0 ≤ part) (q1 : part ≤ 255) :
    nearN p part slow * 1000000 ≤ 1024 * (1000000 + p) ∧ 1024 * (1000000 - p) ≤ nearN p part slow * 1000000 ∧ 922 ≤ nearN p part slow ∧ nearN p part slow ≤ 1126 ∧ 0 ≤ p * 1024 / 1000000 * part ∧ p * 1024 / 1000000 * part ≤ 26010 := by
  obtain ⟨m, hm⟩ : ∃ m, p * 1024 / 1000000 = m := ⟨_, rfl⟩
  have m0 : 0 ≤ m ∧ m * 1000000 ≤ p * 1024 ∧ m ≤ 102 := by omega
  have a := Int.mul_nonneg m0.1 q0
  have b := mono_l q1 m0.1
  unfold nearN
  rw [hm]
  generalize m * part = z at *
  split <;> omega
set_option maxHeartbeats 2000000 in
theorem near_any (o q part : Int) (slow : Bool) (q0 : 0 ≤ part) (q1 : part ≤ 255) (w : World) :
    Calls Try.prog 20 #[.int .i64 o, .int .i64 q, .int .u8 part, .bool slow] w fun e w' => e = .returned (ckV (tk o) (nearN (pm q) part slow) 1024) ∧ Below w.heap.size w w' := by
  have b2 := pm_bd q
  have HP := Lib.hid (fun W => refPpm_any q W)
  have HT := Lib.hid (fun W => refTime_any o W)
  obtain ⟨T, hT⟩ : ∃ T, tk o = T := ⟨_, rfl⟩
  obtain ⟨p, hp⟩ : ∃ p, pm q = p := ⟨_, rfl⟩
  rw [hp] at b2 HP ⊢
  rw [hT] at HT ⊢
  clear hp hT
  have nb := near_bd p part slow b2.1 b2.2 q0 q1
  have m0 : 0 ≤ p * 1024 / 1000000 ∧ p * 1024 / 1000000 ≤ 102 := by omega
  have eN := Lib.hid (show nearN p part slow = if slow = true then 1024 + -(p * 1024 / 1000000 * part / 255) else 1024 + p * 1024 / 1000000 * part / 255 from rfl)
  obtain ⟨z, hz⟩ : ∃ z, p * 1024 / 1000000 * part = z := ⟨_, rfl⟩
  have hw : wrap64 (p * 1024 / 1000000 * part) = z := by rw [hz]; exact wrap_in (by omega) (by omega)
  rw [hz] at nb eN
  clear hz
  have z0 : 0 ≤ z ∧ z ≤ 26010 := nb.2.2.2.2
  clear nb
  cases slow with
  | true =>
    rw [if_pos rfl] at eN
    go_enter Try.func20, Try.ntmps20
    go_wp2_with fail
    refine (HP.out _).mono ?_
    rintro e w' ⟨rfl, rfl⟩
    go_wp2_with fail
    refine (HT.out _).mono ?_
    rintro e w' ⟨rfl, rfl⟩
    go_wp2_with fail
    exact bodyPost_ret (v := ckV T (nearN p part true) 1024) (by simp [results, Try.results20, go_sem, eN.out]) rfl ⟨rfl, below_new _ _⟩
  | false =>
    rw [if_neg (by simp)] at eN
    go_enter Try.func20, Try.ntmps20
    go_wp2_with fail
    refine (HP.out _).mono ?_
    rintro e w' ⟨rfl, rfl⟩
    go_wp2_with fail
    refine (HT.out _).mono ?_
    rintro e w' ⟨rfl, rfl⟩
    go_wp2_with fail
    exact bodyPost_ret (v := ckV T (nearN p part false) 1024) (by simp [results, Try.results20, go_sem, eN.out]) rfl ⟨rfl, below_new _ _⟩
end Go.Proofs.Ytnbjkgkkefjaoaa
