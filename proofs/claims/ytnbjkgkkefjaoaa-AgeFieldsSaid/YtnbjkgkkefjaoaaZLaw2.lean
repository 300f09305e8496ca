/- AgeLeft: for every input the statement's function returns true: the walk. -/
import Derived.Test.YtnbjkgkkefjaoaaZLaw1
namespace Go.Proofs.Ytnbjkgkkefjaoaa
open Go.RowKit Go.Sort

theorem leftOf_ex (s r a n p l : Int) : ∃ N : Nat, LeftOf s r a n p l N := by
  unfold LeftOf
  cases h : frA s r a n p l with
  | false => exact ⟨0, by simp⟩
  | true =>
    refine ⟨(List.range (1099511627777 - tk n).toNat).countP fun k => frA s r a (tk n + (k : Nat)) p l, ?_⟩
    rw [if_pos rfl]
    exact countIs_countP _ _ fun i j hij hj hf => fr_anti (fr_ok h) hij (by have := tk_bd n; omega) hf
theorem left_facts {s r a n p l : Int} {N : Nat} (h : LeftOf s r a n p l N) :
    ((N : Int) = 0 ∧ frA s r a (tk n) p l = false) ∨ ((0 : Int) < (N : Int) ∧ ¬ 1099511627776 < tk n + (N : Int) ∧ frA s r a (tk n + (N : Int) - 1) p l = true ∧ frA s r a (tk n + (N : Int)) p l = false) ∨
    ((0 : Int) < (N : Int) ∧ 1099511627776 < tk n + (N : Int) ∧ frA s r a (tk n + (N : Int) - 1) p l = true) := by
  have b := tk_bd n
  unfold LeftOf at h
  split at h
  · next q =>
    obtain ⟨h1, h2, h3⟩ := h
    by_cases hz : N = 0
    · left
      refine ⟨by omega, ?_⟩
      have := h3 0 (by omega) (by omega)
      simpa using this
    · right
      have g := h2 (N - 1) (by omega)
      have e : tk n + ((N - 1 : Nat) : Int) = tk n + (N : Int) - 1 := by omega
      simp only [e] at g
      by_cases q2 : 1099511627776 < tk n + (N : Int)
      · exact .inr ⟨by omega, q2, g⟩
      · exact .inl ⟨by omega, q2, g, h3 N (Nat.le_refl _) (by omega)⟩
  · next q =>
    left
    refine ⟨by omega, ?_⟩
    rw [fr_tk]; simpa using q
section
variable {N : Nat} {w w1 : World} {s r a n p l m : Int} {K : Nat} {z : Int}
theorem left_in (hK : LeftOf s r a n p l K) (hz : (K : Int) = z) (h : SB N w s r a n p w1) : Calls Try.prog 34 #[tmV s r a, .int .i64 n, .int .i64 p, .int .i64 l] w1 fun e w2 => e = .returned (.int .i64 z) ∧ SB N w s r a n p w2 := by
  refine (left_any s r a n p l w1).mono ?_
  rintro e w2 ⟨K2, rfl, h2, hG⟩
  exact ⟨by rw [h2.uniq hK, hz], sb_keep h hG⟩
theorem refLeft_in (hK : LeftOf s r a n p l K) (hz : (K : Int) = z) (h : SB N w s r a n p w1) : Calls Try.prog 35 #[tmV s r a, .int .i64 n, .int .i64 p, .int .i64 l] w1 fun e w2 => e = .returned (.int .i64 z) ∧ SB N w s r a n p w2 := by
  refine (refLeft_any s r a n p l w1).mono ?_
  rintro e w2 ⟨K2, rfl, h2, hG⟩
  exact ⟨by rw [h2.uniq hK, hz], sb_keep h hG⟩
theorem fresh2_in {b : Bool} (hv : frA s r a m p l = b) (h : SB N w s r a n p w1) : Calls Try.prog 32 #[tmV s r a, .int .i64 m, .int .i64 p, .int .i64 l] w1 fun e w2 => e = .returned (.bool b) ∧ SB N w s r a n p w2 := by
  refine (fresh_any s r a m p l w1).mono ?_
  rintro e w2 ⟨rfl, hG⟩
  exact ⟨by rw [hv], sb_keep h hG⟩
end
namespace agleft
set_option maxHeartbeats 4000000 in
theorem walk (s r a n p l : Int) (w : World) :
    Calls Try.prog 11 #[tmV s r a, moV n p, .int .i64 l] w fun e w' => e = .returned (.bool true) ∧ Below w.heap.size w w' := by
  have b3 := tk_bd n
  have HT := Lib.hid (fun W => refTime_any n W)
  obtain ⟨N, hN⟩ := leftOf_ex s r a n p l
  have hf := left_facts hN
  have hz3 := hN.le
  have HL := Lib.hid hN
  clear hN
  obtain ⟨m, hm⟩ : ∃ m, tk n = m := ⟨_, rfl⟩
  rw [hm] at b3 HT hf hz3
  clear hm
  obtain ⟨z, hz⟩ : ∃ z : Int, (N : Int) = z := ⟨_, rfl⟩
  rw [hz] at hf hz3
  have HZ := Lib.hid hz
  clear hz
  rcases hf with ⟨rfl, h0⟩ | ⟨h1, h2, h3, h4⟩ | ⟨h1, h2, h3⟩
  · have HF2 := Lib.hid h0
    clear h0
    have hw1 : IntKind.i64.wrap m = m := IntWalk.i64_in _ (by omega)
    have hg2 : decide (1099511627776 < m) = false := decide_eq_false (by omega)
    go_enter Try.func11, Try.ntmps11
    go_wp2_with fail
    have F0 := Lib.hid (sb_new w s r a n p 52 54)
    generalize (w.alloc (.cells #[.int .i64 s, .int .i64 r, .int .i64 a] 52)).alloc (.cells #[.int .i64 n, .int .i64 p] 54) = w0 at *
    refine (awake13_any _).mono ?_
    rintro e w1 ⟨rfl, hG⟩
    have hS := sb_keep F0.out hG
    clear hG F0
    have hSd := sb_keep hS (gr_drew w1)
    obtain ⟨d0, d1, d2, d3, d4, d5, d6⟩ := hS
    go_wp2_with fail
    go_region_held3 (fun w' => w'.cell? ⟨w.heap.size, 0, none⟩ = some (.int .i64 s) ∧ w'.cell? ⟨w.heap.size, 1, none⟩ = some (.int .i64 r) ∧ w'.cell? ⟨w.heap.size, 2, none⟩ = some (.int .i64 a) ∧ w'.cell? ⟨w.heap.size + 1, 0, none⟩ = some (.int .i64 n) ∧ w'.cell? ⟨w.heap.size + 1, 1, none⟩ = some (.int .i64 p) ∧ w.heap.size + 1 < w'.heap.size ∧ Gr w w')
        (first | (with_reducible exact h5) | (with_reducible exact hSd))
        (first | (go_at_call 28; refine (times_in (by assumption)).mono ?_; rintro e w' ⟨rfl, h5⟩) | (go_at_call 34; refine (left_in HL.out HZ.out (by assumption)).mono ?_; rintro e w' ⟨rfl, h5⟩))
    rename World => w2
    have hS := h5
    clear h5 hSd d0 d1 d2 d3 d4 d5 d6
    have HX := Lib.hid hS
    obtain ⟨d0, d1, d2, d3, d4, d5, d6⟩ := hS
    go_wp2_with fail
    refine (refLeft_in HL.out HZ.out HX.out).mono ?_
    rintro e w3 ⟨rfl, hS⟩
    clear HX d0 d1 d2 d3 d4 d5 d6
    have HX := Lib.hid hS
    obtain ⟨d0, d1, d2, d3, d4, d5, d6⟩ := hS
    go_wp2_with fail
    refine (HT.out _).mono ?_
    rintro e w' ⟨rfl, rfl⟩
    have hS := HX.out
    clear HX d0 d1 d2 d3 d4 d5 d6
    have HX := Lib.hid hS
    obtain ⟨d0, d1, d2, d3, d4, d5, d6⟩ := hS
    go_wp2_with fail
    go_quiet (fail)
    have hSk := fun k => sb_keep HX.out ((Gr.refl _).drewN k)
    clear HX d0 d1 d2 d3 d4 d5 d6
    rename Nat => nq
    have hS := hSk nq
    clear hSk
    generalize w3.drewN nq = w4 at *
    have hSd := sb_keep hS (gr_drew w4)
    obtain ⟨d0, d1, d2, d3, d4, d5, d6⟩ := hS
    go_wp2_with fail
    go_region_held3 (fun w' => w'.cell? ⟨w.heap.size, 0, none⟩ = some (.int .i64 s) ∧ w'.cell? ⟨w.heap.size, 1, none⟩ = some (.int .i64 r) ∧ w'.cell? ⟨w.heap.size, 2, none⟩ = some (.int .i64 a) ∧ w'.cell? ⟨w.heap.size + 1, 0, none⟩ = some (.int .i64 n) ∧ w'.cell? ⟨w.heap.size + 1, 1, none⟩ = some (.int .i64 p) ∧ w.heap.size + 1 < w'.heap.size ∧ Gr w w')
        (first | (with_reducible exact h5) | (with_reducible exact hSd))
        (first | (go_at_call 28; refine (times_in (by assumption)).mono ?_; rintro e w' ⟨rfl, h5⟩) | (go_at_call 32; refine (fresh2_in HF2.out (by assumption)).mono ?_; rintro e w' ⟨rfl, h5⟩))
    rename World => w5
    have hS := h5
    clear h5 hSd d0 d1 d2 d3 d4 d5 d6
    have HG := Lib.hid hS.2.2.2.2.2.2
    clear hS
    go_wp2_with fail
    go_ret
    exact ⟨rfl, HG.out.below⟩
  · have HF1 := Lib.hid h3
    have HF2 := Lib.hid h4
    clear h3 h4
    have hw1 : IntKind.i64.wrap (m + z) = m + z := IntWalk.i64_in _ (by omega)
    have hw2 : IntKind.i64.wrap (m + z - 1) = m + z - 1 := IntWalk.i64_in _ (by omega)
    have hg1 : decide (0 < z) = true := decide_eq_true h1
    have hg2 : decide (1099511627776 < m + z) = false := decide_eq_false h2
    go_enter Try.func11, Try.ntmps11
    go_wp2_with fail
    have F0 := Lib.hid (sb_new w s r a n p 52 54)
    generalize (w.alloc (.cells #[.int .i64 s, .int .i64 r, .int .i64 a] 52)).alloc (.cells #[.int .i64 n, .int .i64 p] 54) = w0 at *
    refine (awake13_any _).mono ?_
    rintro e w1 ⟨rfl, hG⟩
    have hS := sb_keep F0.out hG
    clear hG F0
    have hSd := sb_keep hS (gr_drew w1)
    obtain ⟨d0, d1, d2, d3, d4, d5, d6⟩ := hS
    go_wp2_with fail
    go_region_held3 (fun w' => w'.cell? ⟨w.heap.size, 0, none⟩ = some (.int .i64 s) ∧ w'.cell? ⟨w.heap.size, 1, none⟩ = some (.int .i64 r) ∧ w'.cell? ⟨w.heap.size, 2, none⟩ = some (.int .i64 a) ∧ w'.cell? ⟨w.heap.size + 1, 0, none⟩ = some (.int .i64 n) ∧ w'.cell? ⟨w.heap.size + 1, 1, none⟩ = some (.int .i64 p) ∧ w.heap.size + 1 < w'.heap.size ∧ Gr w w')
        (first | (with_reducible exact h5) | (with_reducible exact hSd))
        (first | (go_at_call 28; refine (times_in (by assumption)).mono ?_; rintro e w' ⟨rfl, h5⟩) | (go_at_call 34; refine (left_in HL.out HZ.out (by assumption)).mono ?_; rintro e w' ⟨rfl, h5⟩))
    rename World => w2
    have hS := h5
    clear h5 hSd d0 d1 d2 d3 d4 d5 d6
    have HX := Lib.hid hS
    obtain ⟨d0, d1, d2, d3, d4, d5, d6⟩ := hS
    go_wp2_with fail
    refine (refLeft_in HL.out HZ.out HX.out).mono ?_
    rintro e w3 ⟨rfl, hS⟩
    clear HX d0 d1 d2 d3 d4 d5 d6
    have HX := Lib.hid hS
    obtain ⟨d0, d1, d2, d3, d4, d5, d6⟩ := hS
    go_wp2_with fail
    refine (HT.out _).mono ?_
    rintro e w' ⟨rfl, rfl⟩
    have hS := HX.out
    clear HX d0 d1 d2 d3 d4 d5 d6
    have hSd := sb_keep hS (gr_drew w3)
    obtain ⟨d0, d1, d2, d3, d4, d5, d6⟩ := hS
    go_wp2_with fail
    go_region_held3 (fun w' => w'.cell? ⟨w.heap.size, 0, none⟩ = some (.int .i64 s) ∧ w'.cell? ⟨w.heap.size, 1, none⟩ = some (.int .i64 r) ∧ w'.cell? ⟨w.heap.size, 2, none⟩ = some (.int .i64 a) ∧ w'.cell? ⟨w.heap.size + 1, 0, none⟩ = some (.int .i64 n) ∧ w'.cell? ⟨w.heap.size + 1, 1, none⟩ = some (.int .i64 p) ∧ w.heap.size + 1 < w'.heap.size ∧ Gr w w')
        (first | (with_reducible exact h5) | (with_reducible exact hSd))
        (first | (go_at_call 28; refine (times_in (by assumption)).mono ?_; rintro e w' ⟨rfl, h5⟩) | (go_at_call 32; refine (fresh2_in HF1.out (by assumption)).mono ?_; rintro e w' ⟨rfl, h5⟩))
    rename World => w4
    have hS := h5
    clear h5 hSd d0 d1 d2 d3 d4 d5 d6
    have hSd := sb_keep hS (gr_drew w4)
    obtain ⟨d0, d1, d2, d3, d4, d5, d6⟩ := hS
    go_wp2_with fail
    go_region_held3 (fun w' => w'.cell? ⟨w.heap.size, 0, none⟩ = some (.int .i64 s) ∧ w'.cell? ⟨w.heap.size, 1, none⟩ = some (.int .i64 r) ∧ w'.cell? ⟨w.heap.size, 2, none⟩ = some (.int .i64 a) ∧ w'.cell? ⟨w.heap.size + 1, 0, none⟩ = some (.int .i64 n) ∧ w'.cell? ⟨w.heap.size + 1, 1, none⟩ = some (.int .i64 p) ∧ w.heap.size + 1 < w'.heap.size ∧ Gr w w')
        (first | (with_reducible exact h5) | (with_reducible exact hSd))
        (first | (go_at_call 28; refine (times_in (by assumption)).mono ?_; rintro e w' ⟨rfl, h5⟩) | (go_at_call 32; refine (fresh2_in HF2.out (by assumption)).mono ?_; rintro e w' ⟨rfl, h5⟩))
    rename World => w5
    have hS := h5
    clear h5 hSd d0 d1 d2 d3 d4 d5 d6
    have HG := Lib.hid hS.2.2.2.2.2.2
    clear hS
    go_wp2_with fail
    go_ret
    exact ⟨rfl, HG.out.below⟩
  · have HF1 := Lib.hid h3
    clear h3
    have hw1 : IntKind.i64.wrap (m + z) = m + z := IntWalk.i64_in _ (by omega)
    have hw2 : IntKind.i64.wrap (m + z - 1) = m + z - 1 := IntWalk.i64_in _ (by omega)
    have hg1 : decide (0 < z) = true := decide_eq_true h1
    have hg2 : decide (1099511627776 < m + z) = true := decide_eq_true h2
    go_enter Try.func11, Try.ntmps11
    go_wp2_with fail
    have F0 := Lib.hid (sb_new w s r a n p 52 54)
    generalize (w.alloc (.cells #[.int .i64 s, .int .i64 r, .int .i64 a] 52)).alloc (.cells #[.int .i64 n, .int .i64 p] 54) = w0 at *
    refine (awake13_any _).mono ?_
    rintro e w1 ⟨rfl, hG⟩
    have hS := sb_keep F0.out hG
    clear hG F0
    have hSd := sb_keep hS (gr_drew w1)
    obtain ⟨d0, d1, d2, d3, d4, d5, d6⟩ := hS
    go_wp2_with fail
    go_region_held3 (fun w' => w'.cell? ⟨w.heap.size, 0, none⟩ = some (.int .i64 s) ∧ w'.cell? ⟨w.heap.size, 1, none⟩ = some (.int .i64 r) ∧ w'.cell? ⟨w.heap.size, 2, none⟩ = some (.int .i64 a) ∧ w'.cell? ⟨w.heap.size + 1, 0, none⟩ = some (.int .i64 n) ∧ w'.cell? ⟨w.heap.size + 1, 1, none⟩ = some (.int .i64 p) ∧ w.heap.size + 1 < w'.heap.size ∧ Gr w w')
        (first | (with_reducible exact h5) | (with_reducible exact hSd))
        (first | (go_at_call 28; refine (times_in (by assumption)).mono ?_; rintro e w' ⟨rfl, h5⟩) | (go_at_call 34; refine (left_in HL.out HZ.out (by assumption)).mono ?_; rintro e w' ⟨rfl, h5⟩))
    rename World => w2
    have hS := h5
    clear h5 hSd d0 d1 d2 d3 d4 d5 d6
    have HX := Lib.hid hS
    obtain ⟨d0, d1, d2, d3, d4, d5, d6⟩ := hS
    go_wp2_with fail
    refine (refLeft_in HL.out HZ.out HX.out).mono ?_
    rintro e w3 ⟨rfl, hS⟩
    clear HX d0 d1 d2 d3 d4 d5 d6
    have HX := Lib.hid hS
    obtain ⟨d0, d1, d2, d3, d4, d5, d6⟩ := hS
    go_wp2_with fail
    refine (HT.out _).mono ?_
    rintro e w' ⟨rfl, rfl⟩
    have hS := HX.out
    clear HX d0 d1 d2 d3 d4 d5 d6
    have hSd := sb_keep hS (gr_drew w3)
    obtain ⟨d0, d1, d2, d3, d4, d5, d6⟩ := hS
    go_wp2_with fail
    go_region_held3 (fun w' => w'.cell? ⟨w.heap.size, 0, none⟩ = some (.int .i64 s) ∧ w'.cell? ⟨w.heap.size, 1, none⟩ = some (.int .i64 r) ∧ w'.cell? ⟨w.heap.size, 2, none⟩ = some (.int .i64 a) ∧ w'.cell? ⟨w.heap.size + 1, 0, none⟩ = some (.int .i64 n) ∧ w'.cell? ⟨w.heap.size + 1, 1, none⟩ = some (.int .i64 p) ∧ w.heap.size + 1 < w'.heap.size ∧ Gr w w')
        (first | (with_reducible exact h5) | (with_reducible exact hSd))
        (first | (go_at_call 28; refine (times_in (by assumption)).mono ?_; rintro e w' ⟨rfl, h5⟩) | (go_at_call 32; refine (fresh2_in HF1.out (by assumption)).mono ?_; rintro e w' ⟨rfl, h5⟩))
    rename World => w4
    have hS := h5
    clear h5 hSd d0 d1 d2 d3 d4 d5 d6
    have HX := Lib.hid hS
    obtain ⟨d0, d1, d2, d3, d4, d5, d6⟩ := hS
    go_wp2_with fail
    go_quiet (fail)
    have hSk := fun k => sb_keep HX.out ((Gr.refl _).drewN k)
    clear HX d0 d1 d2 d3 d4 d5 d6
    rename Nat => nq
    have hS := hSk nq
    clear hSk
    generalize w4.drewN nq = w5 at *
    have HG := Lib.hid hS.2.2.2.2.2.2
    clear hS
    go_wp2_with fail
    go_ret
    exact ⟨rfl, HG.out.below⟩
end agleft
end Go.Proofs.Ytnbjkgkkefjaoaa
