/- AgeErrors: for every input the statement's function returns true: the walk. -/
import Derived.Test.YtnbjkgkkefjaoaaZLaw2
namespace Go.Proofs.Ytnbjkgkkefjaoaa
open Go.RowKit Go.Sort

set_option maxHeartbeats 400000 in
theorem is_order (w : World) : Calls Try.prog 37 #[.iface 76 (.int .i64 7), .int .i64 7] w fun e w' => e = .returned (.bool true) ∧ w = w' := by
  go_enter Try.func37, Try.ntmps37
  go_wp2_with fail
  refine (num_errno _ _).mono ?_
  rintro e w' ⟨rfl, rfl⟩
  go_wp2_with fail
  go_ret
  exact ⟨rfl, rfl⟩
namespace agerrors
set_option maxHeartbeats 4000000 in
theorem walk (s r a n p l : Int) (w : World) :
    Calls Try.prog 14 #[tmV s r a, moV n p, .int .i64 l] w fun e w' => e = .returned (.bool true) ∧ Below w.heap.size w w' := by
  cases ok : okA s r n with
  | true =>
    have HR := Lib.hid (atR_yes (a := a) (p := p) ok)
    clear ok
    obtain ⟨L, hL⟩ : ∃ L, lowA r n p = L := ⟨_, rfl⟩
    obtain ⟨U, hU⟩ : ∃ U, topA s a n p = U := ⟨_, rfl⟩
    rw [hL, hU] at HR
    clear hL hU
    go_enter Try.func14, Try.ntmps14
    go_wp2_with fail
    have F0 := Lib.hid (sb_new w s r a n p 52 54)
    generalize (w.alloc (.cells #[.int .i64 s, .int .i64 r, .int .i64 a] 52)).alloc (.cells #[.int .i64 n, .int .i64 p] 54) = w0 at *
    refine (awake13_any _).mono ?_
    rintro e w1 ⟨rfl, hG⟩
    have hS := sb_keep F0.out hG
    clear hG F0
    have HX := Lib.hid hS
    obtain ⟨d0, d1, d2, d3, d4, d5, d6⟩ := hS
    go_wp2_with fail
    refine (refAt_in HR.out HX.out).mono ?_
    rintro e w2 ⟨rfl, hS⟩
    clear HX d0 d1 d2 d3 d4 d5 d6
    have HG := Lib.hid hS.2.2.2.2.2.2
    clear hS
    go_wp2_with fail
    go_ret
    exact ⟨rfl, HG.out.below⟩
  | false =>
    have HR := Lib.hid (atR_no (a := a) (p := p) ok)
    have HA := Lib.hid (atV_no (a := a) (p := p) ok)
    have HD := Lib.hid (fldV_no (a := a) (p := p) ok)
    have HF := Lib.hid (show frA s r a n p l = false by unfold frA; rw [ok]; rfl)
    have HS := Lib.hid (show stA s r n p l = false by unfold stA; rw [ok]; rfl)
    have HL := Lib.hid (show LeftOf s r a n p l 0 by unfold LeftOf; rw [if_neg (by rw [HF.out]; simp)])
    have HZ := Lib.hid (show ((0 : Nat) : Int) = 0 from rfl)
    clear ok
    go_enter Try.func14, Try.ntmps14
    go_wp2_with fail
    have F0 := Lib.hid (sb_new w s r a n p 52 54)
    generalize (w.alloc (.cells #[.int .i64 s, .int .i64 r, .int .i64 a] 52)).alloc (.cells #[.int .i64 n, .int .i64 p] 54) = w0 at *
    refine (awake13_any _).mono ?_
    rintro e w1 ⟨rfl, hG⟩
    have hS := sb_keep F0.out hG
    clear hG F0
    have HX := Lib.hid hS
    obtain ⟨d0, d1, d2, d3, d4, d5, d6⟩ := hS
    go_wp2_with fail
    refine (refAt_in HR.out HX.out).mono ?_
    rintro e w2 ⟨rfl, hS⟩
    clear HX d0 d1 d2 d3 d4 d5 d6
    have hSd := sb_keep hS (gr_drew w2)
    obtain ⟨d0, d1, d2, d3, d4, d5, d6⟩ := hS
    go_wp2_with fail
    go_region_held3 (fun w' => w'.cell? ⟨w.heap.size, 0, none⟩ = some (.int .i64 s) ∧ w'.cell? ⟨w.heap.size, 1, none⟩ = some (.int .i64 r) ∧ w'.cell? ⟨w.heap.size, 2, none⟩ = some (.int .i64 a) ∧ w'.cell? ⟨w.heap.size + 1, 0, none⟩ = some (.int .i64 n) ∧ w'.cell? ⟨w.heap.size + 1, 1, none⟩ = some (.int .i64 p) ∧ w.heap.size + 1 < w'.heap.size ∧ Gr w w')
        (first | (with_reducible exact h5) | (with_reducible exact hSd))
        (first | (go_at_call 28; refine (times_in (by assumption)).mono ?_; rintro e w' ⟨rfl, h5⟩) | (go_at_call 27; refine (at_in HA.out (by assumption)).mono ?_; rintro e w' ⟨rfl, h5⟩))
    rename World => w3
    have hS := h5
    clear h5 hSd d0 d1 d2 d3 d4 d5 d6
    have hSd := sb_keep hS (gr_drew w3)
    obtain ⟨d0, d1, d2, d3, d4, d5, d6⟩ := hS
    go_wp2_with fail
    go_region_held3 (fun w' => w'.cell? ⟨w.heap.size, 0, none⟩ = some (.int .i64 s) ∧ w'.cell? ⟨w.heap.size, 1, none⟩ = some (.int .i64 r) ∧ w'.cell? ⟨w.heap.size, 2, none⟩ = some (.int .i64 a) ∧ w'.cell? ⟨w.heap.size + 1, 0, none⟩ = some (.int .i64 n) ∧ w'.cell? ⟨w.heap.size + 1, 1, none⟩ = some (.int .i64 p) ∧ w.heap.size + 1 < w'.heap.size ∧ Gr w w')
        (first | (with_reducible exact h5) | (with_reducible exact hSd))
        (first | (go_at_call 28; refine (times_in (by assumption)).mono ?_; rintro e w' ⟨rfl, h5⟩) | (go_at_call 31; refine (field_in HD.out (by assumption)).mono ?_; rintro e w' ⟨rfl, h5⟩))
    rename World => w4
    have hS := h5
    clear h5 hSd d0 d1 d2 d3 d4 d5 d6
    go_wp2_with fail
    refine (is_order _).mono ?_
    rintro e w' ⟨rfl, rfl⟩
    go_wp2_with fail
    refine (is_order _).mono ?_
    rintro e w' ⟨rfl, rfl⟩
    have hSd := sb_keep hS (gr_drew w4)
    obtain ⟨d0, d1, d2, d3, d4, d5, d6⟩ := hS
    go_wp2_with fail
    go_region_held3 (fun w' => w'.cell? ⟨w.heap.size, 0, none⟩ = some (.int .i64 s) ∧ w'.cell? ⟨w.heap.size, 1, none⟩ = some (.int .i64 r) ∧ w'.cell? ⟨w.heap.size, 2, none⟩ = some (.int .i64 a) ∧ w'.cell? ⟨w.heap.size + 1, 0, none⟩ = some (.int .i64 n) ∧ w'.cell? ⟨w.heap.size + 1, 1, none⟩ = some (.int .i64 p) ∧ w.heap.size + 1 < w'.heap.size ∧ Gr w w')
        (first | (with_reducible exact h5) | (with_reducible exact hSd))
        (first | (go_at_call 28; refine (times_in (by assumption)).mono ?_; rintro e w' ⟨rfl, h5⟩) | (go_at_call 32; refine (fresh_in HF.out (by assumption)).mono ?_; rintro e w' ⟨rfl, h5⟩) | (go_at_call 33; refine (stale_in HS.out (by assumption)).mono ?_; rintro e w' ⟨rfl, h5⟩) | (go_at_call 34; refine (left_in HL.out HZ.out (by assumption)).mono ?_; rintro e w' ⟨rfl, h5⟩))
    rename World => w5
    have hS := h5
    clear h5 hSd d0 d1 d2 d3 d4 d5 d6
    have HG := Lib.hid hS.2.2.2.2.2.2
    clear hS
    go_wp2_with fail
    go_ret
    exact ⟨rfl, HG.out.below⟩
end agerrors
end Go.Proofs.Ytnbjkgkkefjaoaa
