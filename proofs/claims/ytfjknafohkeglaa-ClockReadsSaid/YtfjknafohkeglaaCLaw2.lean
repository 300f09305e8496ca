/- ClockGrows, ClockOrders and ClockContains: for every input the statement's function returns true: the walks. -/
import Derived.Test.YtfjknafohkeglaaCLaw
namespace Go.Proofs.Ytfjknafohkeglaa
open Go.RowKit

theorem tk_id {n : Int} (h : 0 ≤ n ∧ n ≤ 1099511627776) : tk n = n := by unfold tk; omega
theorem pm_id {n : Int} (h : 0 ≤ n ∧ n ≤ 100000) : pm n = n := by unfold pm; omega
theorem elapsed_at {n p : Int} (hn : 0 ≤ n ∧ n ≤ 1099511627776) (hp : 0 ≤ p ∧ p ≤ 100000) (w : World) :
    Calls Try.prog 14 #[.int .i64 n, .int .i64 p] w fun e w' => e = .returned (.tuple #[.int .i64 (loE n p), .int .i64 (hiE n p)]) ∧ w = w' := by
  have := elapsed_any n p w
  rw [tk_id hn, pm_id hp] at this
  exact this
namespace clgrows
end clgrows
namespace clorders
def befB (a b c d : Int) : Bool := decide (a ≤ b ∧ c ≤ d ∧ b < c)
abbrev twV (a b : Int) : Value := .agg #[.int .i64 a, .int .i64 b]
set_option maxHeartbeats 2000000 in
theorem before_any (a b c d : Int) (w : World) :
    Calls Try.prog 13 #[twV a b, twV c d] w fun e w' => e = .returned (.bool (befB a b c d)) ∧ Below w.heap.size w w' := by
  by_cases h1 : a ≤ b
  · by_cases h2 : c ≤ d
    · by_cases h3 : b < c
      all_goals
        go_enter Try.func13, Try.ntmps13
        go_wp2_with fail
        go_ret
        exact ⟨ret_bool (by unfold befB; first | exact (decide_eq_true (by omega)).symm | exact (decide_eq_false (by omega)).symm | exact decide_eq_decide.mpr (by omega)), below_two2 _ _ _⟩
    · go_enter Try.func13, Try.ntmps13
      go_wp2_with fail
      go_ret
      exact ⟨ret_bool (by unfold befB; exact (decide_eq_false (by omega)).symm), below_two2 _ _ _⟩
  · go_enter Try.func13, Try.ntmps13
    go_wp2_with fail
    go_ret
    exact ⟨ret_bool (by unfold befB; exact (decide_eq_false (by omega)).symm), below_two2 _ _ _⟩
/-- Both boxes. -/
def Two2 (M N : Nat) (w : World) (a b c d : Int) : Prop :=
  w.cell? ⟨M, 0, none⟩ = some (.int .i64 a) ∧ w.cell? ⟨M, 1, none⟩ = some (.int .i64 b) ∧ w.cell? ⟨N, 0, none⟩ = some (.int .i64 c) ∧ w.cell? ⟨N, 1, none⟩ = some (.int .i64 d) ∧ M < w.heap.size ∧ N < w.heap.size
theorem Two2.below {M N : Nat} {w w' : World} {a b c d : Int} (h : Two2 M N w a b c d) (hb : Below w.heap.size w w') : Two2 M N w' a b c d := by
  obtain ⟨h1, h2, h3, h4, h5, h6⟩ := h
  exact ⟨(hb.cell (p := ⟨M, 0, none⟩) h5).trans h1, (hb.cell (p := ⟨M, 1, none⟩) h5).trans h2, (hb.cell (p := ⟨N, 0, none⟩) h6).trans h3, (hb.cell (p := ⟨N, 1, none⟩) h6).trans h4, Nat.lt_of_lt_of_le h5 hb.size, Nat.lt_of_lt_of_le h6 hb.size⟩
theorem two2_new (w : World) (a b c d : Int) (T U : TypeId) : Two2 w.heap.size (w.heap.size + 1) ((w.alloc (.cells #[.int .i64 a, .int .i64 b] T)).alloc (.cells #[.int .i64 c, .int .i64 d] U)) a b c d := by
  refine ⟨?_, ?_, ?_, ?_, by simp; omega, by simp⟩
  · rw [World.cell?_alloc_old _ _ _ (by simp), World.cell?_alloc_at _ _ _ _ rfl]; rfl
  · rw [World.cell?_alloc_old _ _ _ (by simp), World.cell?_alloc_at _ _ _ _ rfl]; rfl
  · rw [World.cell?_alloc_at _ _ _ _ (by simp)]; rfl
  · rw [World.cell?_alloc_at _ _ _ _ (by simp)]; rfl
set_option maxHeartbeats 4000000 in
theorem walk (a b c d : Int) (w : World) :
    Calls Try.prog 5 #[twV a b, twV c d] w fun e w' => e = .returned (.bool true) ∧ Below w.heap.size w w' := by
  have B1 := Lib.hid (fun W => before_any a b c d W)
  have B2 := Lib.hid (fun W => before_any c d a b W)
  have B3 := Lib.hid (fun W => before_any a b a b W)
  rw [show befB a b a b = false from decide_eq_false (by omega)] at B3
  by_cases h1 : a ≤ b
  · by_cases h2 : c ≤ d
    · by_cases h3 : b < c
      · rw [show befB a b c d = true from decide_eq_true (by omega)] at B1
        rw [show befB c d a b = false from decide_eq_false (by omega)] at B2
        go_enter Try.func5, Try.ntmps5
        go_wp2_with fail
        refine (awake_any _).mono ?_
        rintro e w' ⟨rfl, rfl⟩
        have HB0 := Lib.hid (below_two2 w (.cells #[.int .i64 a, .int .i64 b] 36) (.cells #[.int .i64 c, .int .i64 d] 36))
        have T0 := two2_new w a b c d 36 36
        generalize (w.alloc (.cells #[.int .i64 a, .int .i64 b] 36)).alloc (.cells #[.int .i64 c, .int .i64 d] 36) = w0 at *
        obtain ⟨a0, a1, a2, a3, a4, a5⟩ := id T0
        go_wp2_with fail
        refine (B1.out _).mono ?_
        rintro e w1 ⟨rfl, hB⟩
        have T1 := T0.below hB
        have HB1 := Lib.hid (HB0.out.trans (hB.mono HB0.out.size))
        clear hB T0 a0 a1 a2 a3 a4 a5
        obtain ⟨a0, a1, a2, a3, a4, a5⟩ := id T1
        go_wp2_with fail
        refine (B1.out _).mono ?_
        rintro e w2 ⟨rfl, hB⟩
        have T2 := T1.below hB
        have HB2 := Lib.hid (HB1.out.trans (hB.mono HB1.out.size))
        clear hB T1 a0 a1 a2 a3 a4 a5
        obtain ⟨a0, a1, a2, a3, a4, a5⟩ := id T2
        go_wp2_with fail
        refine (B2.out _).mono ?_
        rintro e w3 ⟨rfl, hB⟩
        have T3 := T2.below hB
        have HB3 := Lib.hid (HB2.out.trans (hB.mono HB2.out.size))
        clear hB T2 a0 a1 a2 a3 a4 a5
        obtain ⟨a0, a1, a2, a3, a4, a5⟩ := id T3
        go_wp2_with fail
        refine (B3.out _).mono ?_
        rintro e w4 ⟨rfl, hB⟩
        have HB4 := Lib.hid (HB3.out.trans (hB.mono HB3.out.size))
        clear hB
        go_wp2_with fail
        go_ret
        exact ⟨by first | rfl | exact ret_bool (by simp; omega), HB4.out⟩
      · rw [show befB a b c d = false from decide_eq_false (by omega)] at B1
        go_enter Try.func5, Try.ntmps5
        go_wp2_with fail
        refine (awake_any _).mono ?_
        rintro e w' ⟨rfl, rfl⟩
        have HB0 := Lib.hid (below_two2 w (.cells #[.int .i64 a, .int .i64 b] 36) (.cells #[.int .i64 c, .int .i64 d] 36))
        have T0 := two2_new w a b c d 36 36
        generalize (w.alloc (.cells #[.int .i64 a, .int .i64 b] 36)).alloc (.cells #[.int .i64 c, .int .i64 d] 36) = w0 at *
        obtain ⟨a0, a1, a2, a3, a4, a5⟩ := id T0
        go_wp2_with fail
        refine (B1.out _).mono ?_
        rintro e w1 ⟨rfl, hB⟩
        have T1 := T0.below hB
        have HB1 := Lib.hid (HB0.out.trans (hB.mono HB0.out.size))
        clear hB T0 a0 a1 a2 a3 a4 a5
        obtain ⟨a0, a1, a2, a3, a4, a5⟩ := id T1
        go_wp2_with fail
        refine (B1.out _).mono ?_
        rintro e w2 ⟨rfl, hB⟩
        have T2 := T1.below hB
        have HB2 := Lib.hid (HB1.out.trans (hB.mono HB1.out.size))
        clear hB T1 a0 a1 a2 a3 a4 a5
        obtain ⟨a0, a1, a2, a3, a4, a5⟩ := id T2
        go_wp2_with fail
        refine (B3.out _).mono ?_
        rintro e w4 ⟨rfl, hB⟩
        have HB4 := Lib.hid (HB2.out.trans (hB.mono HB2.out.size))
        clear hB
        go_wp2_with fail
        go_ret
        exact ⟨by first | rfl | exact ret_bool (by simp; omega), HB4.out⟩
    · rw [show befB a b c d = false from decide_eq_false (by omega)] at B1
      go_enter Try.func5, Try.ntmps5
      go_wp2_with fail
      refine (awake_any _).mono ?_
      rintro e w' ⟨rfl, rfl⟩
      have HB0 := Lib.hid (below_two2 w (.cells #[.int .i64 a, .int .i64 b] 36) (.cells #[.int .i64 c, .int .i64 d] 36))
      have T0 := two2_new w a b c d 36 36
      generalize (w.alloc (.cells #[.int .i64 a, .int .i64 b] 36)).alloc (.cells #[.int .i64 c, .int .i64 d] 36) = w0 at *
      obtain ⟨a0, a1, a2, a3, a4, a5⟩ := id T0
      go_wp2_with fail
      refine (B1.out _).mono ?_
      rintro e w1 ⟨rfl, hB⟩
      have T1 := T0.below hB
      have HB1 := Lib.hid (HB0.out.trans (hB.mono HB0.out.size))
      clear hB T0 a0 a1 a2 a3 a4 a5
      obtain ⟨a0, a1, a2, a3, a4, a5⟩ := id T1
      go_wp2_with fail
      refine (B1.out _).mono ?_
      rintro e w2 ⟨rfl, hB⟩
      have T2 := T1.below hB
      have HB2 := Lib.hid (HB1.out.trans (hB.mono HB1.out.size))
      clear hB T1 a0 a1 a2 a3 a4 a5
      obtain ⟨a0, a1, a2, a3, a4, a5⟩ := id T2
      go_wp2_with fail
      refine (B3.out _).mono ?_
      rintro e w4 ⟨rfl, hB⟩
      have HB4 := Lib.hid (HB2.out.trans (hB.mono HB2.out.size))
      clear hB
      go_wp2_with fail
      go_ret
      exact ⟨by first | rfl | exact ret_bool (by simp; omega), HB4.out⟩
  · rw [show befB a b c d = false from decide_eq_false (by omega)] at B1
    go_enter Try.func5, Try.ntmps5
    go_wp2_with fail
    refine (awake_any _).mono ?_
    rintro e w' ⟨rfl, rfl⟩
    have HB0 := Lib.hid (below_two2 w (.cells #[.int .i64 a, .int .i64 b] 36) (.cells #[.int .i64 c, .int .i64 d] 36))
    have T0 := two2_new w a b c d 36 36
    generalize (w.alloc (.cells #[.int .i64 a, .int .i64 b] 36)).alloc (.cells #[.int .i64 c, .int .i64 d] 36) = w0 at *
    obtain ⟨a0, a1, a2, a3, a4, a5⟩ := id T0
    go_wp2_with fail
    refine (B1.out _).mono ?_
    rintro e w1 ⟨rfl, hB⟩
    have T1 := T0.below hB
    have HB1 := Lib.hid (HB0.out.trans (hB.mono HB0.out.size))
    clear hB T0 a0 a1 a2 a3 a4 a5
    obtain ⟨a0, a1, a2, a3, a4, a5⟩ := id T1
    go_wp2_with fail
    refine (B1.out _).mono ?_
    rintro e w2 ⟨rfl, hB⟩
    have T2 := T1.below hB
    have HB2 := Lib.hid (HB1.out.trans (hB.mono HB1.out.size))
    clear hB T1 a0 a1 a2 a3 a4 a5
    obtain ⟨a0, a1, a2, a3, a4, a5⟩ := id T2
    go_wp2_with fail
    refine (B3.out _).mono ?_
    rintro e w4 ⟨rfl, hB⟩
    have HB4 := Lib.hid (HB2.out.trans (hB.mono HB2.out.size))
    clear hB
    go_wp2_with fail
    go_ret
    exact ⟨by first | rfl | exact ret_bool (by simp; omega), HB4.out⟩
end clorders
end Go.Proofs.Ytfjknafohkeglaa
