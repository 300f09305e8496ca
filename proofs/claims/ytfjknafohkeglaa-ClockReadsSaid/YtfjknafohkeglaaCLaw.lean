/- The statements of layer 12 that take ints alone, and ClockReads and ClockWithin: for every input the statement's function returns true: the walks. -/
import Derived.Test.YtfjknafohkeglaaCRef
namespace Go.Proofs.Ytfjknafohkeglaa
open Go.RowKit

set_option maxHeartbeats 400000 in
theorem awake_any (w : World) : Calls Try.prog 6 #[] w fun e w' => e = .returned (.bool true) ∧ w = w' := by
  have H := Lib.hid (show ∀ W, Calls Try.prog 14 #[.int .i64 10, .int .i64 100000] W fun e w' => e = .returned (.tuple #[.int .i64 9, .int .i64 12]) ∧ W = w' from fun W => elapsed_any 10 100000 W)
  go_enter Try.func6, Try.ntmps6
  go_wp2_with fail
  refine (H.out _).mono ?_
  rintro e w' ⟨rfl, rfl⟩
  go_wp2_with fail
  go_ret
  exact ⟨rfl, rfl⟩
theorem below_same {a b : World} {B : Nat} (h : Below B a b) : Below B a b := h
namespace clreads
set_option maxHeartbeats 2000000 in
theorem walk (o n d t : Int) (w : World) :
    Calls Try.prog 3 #[ckV o n d, .int .i64 t] w fun e w' => e = .returned (.bool true) ∧ Below w.heap.size w w' := by
  have H0 := Lib.hid (fun W => clock_any o n d W)
  have H1 := Lib.hid (fun W => read_any o n d t W)
  have H2 := Lib.hid (fun W => refRead_any o n d t W)
  cases h : okB o n d t with
  | true =>
    rw [readV_yes h] at H1
    rw [readR_yes h] at H2
    obtain ⟨X, hX⟩ : ∃ X, o + t * n / d = X := ⟨_, rfl⟩
    rw [hX] at H1 H2
    clear hX h
    go_enter Try.func3, Try.ntmps3
    go_wp2_with fail
    refine (awake_any _).mono ?_
    rintro e w' ⟨rfl, rfl⟩
    go_wp2_with fail
    refine (H0.out _).mono ?_
    rintro e w1 ⟨rfl, hB1⟩
    obtain ⟨e0, e1, e2, hN⟩ := (threeI_new w o n d 23).below hB1
    have HB1 := Lib.hid ((below_new w (.cells #[.int .i64 o, .int .i64 n, .int .i64 d] 23)).trans (hB1.mono (by simp)))
    clear hB1
    go_wp2_with fail
    refine (H1.out _).mono ?_
    rintro e w2 ⟨rfl, hB2⟩
    obtain ⟨f0, f1, f2, hN2⟩ := ThreeI.below ⟨e0, e1, e2, hN⟩ hB2
    have HB2 := Lib.hid (HB1.out.trans (hB2.mono HB1.out.size))
    clear hB2 e0 e1 e2
    go_wp2_with fail
    refine (H2.out _).mono ?_
    rintro e w3 ⟨rfl, hB3⟩
    have HB3 := Lib.hid (HB2.out.trans (hB3.mono HB2.out.size))
    clear hB3
    go_wp2_with fail
    refine (num_nil _).mono ?_
    rintro e w' ⟨rfl, rfl⟩
    go_wp2_with fail
    go_ret
    exact ⟨rfl, HB3.out⟩
  | false =>
    rw [readV_no h] at H1
    rw [readR_no h] at H2
    clear h
    go_enter Try.func3, Try.ntmps3
    go_wp2_with fail
    refine (awake_any _).mono ?_
    rintro e w' ⟨rfl, rfl⟩
    go_wp2_with fail
    refine (H0.out _).mono ?_
    rintro e w1 ⟨rfl, hB1⟩
    obtain ⟨e0, e1, e2, hN⟩ := (threeI_new w o n d 23).below hB1
    have HB1 := Lib.hid ((below_new w (.cells #[.int .i64 o, .int .i64 n, .int .i64 d] 23)).trans (hB1.mono (by simp)))
    clear hB1
    go_wp2_with fail
    refine (H1.out _).mono ?_
    rintro e w2 ⟨rfl, hB2⟩
    obtain ⟨f0, f1, f2, hN2⟩ := ThreeI.below ⟨e0, e1, e2, hN⟩ hB2
    have HB2 := Lib.hid (HB1.out.trans (hB2.mono HB1.out.size))
    clear hB2 e0 e1 e2
    go_wp2_with fail
    refine (H2.out _).mono ?_
    rintro e w3 ⟨rfl, hB3⟩
    have HB3 := Lib.hid (HB2.out.trans (hB3.mono HB2.out.size))
    clear hB3
    go_wp2_with fail
    refine (num_errno _ _).mono ?_
    rintro e w' ⟨rfl, rfl⟩
    go_wp2_with fail
    go_ret
    exact ⟨rfl, HB3.out⟩
end clreads
namespace clwithin
theorem clock_in {N : Nat} {w w1 : World} {o n d : Int} (h : w1.cell? ⟨N, 0, none⟩ = some (.int .i64 o) ∧ w1.cell? ⟨N, 1, none⟩ = some (.int .i64 n) ∧ w1.cell? ⟨N, 2, none⟩ = some (.int .i64 d) ∧ N < w1.heap.size ∧ Below w.heap.size w w1) :
    Calls Try.prog 8 #[ckV o n d] w1 fun e w2 => e = .returned (ckV o n d) ∧ (w2.cell? ⟨N, 0, none⟩ = some (.int .i64 o) ∧ w2.cell? ⟨N, 1, none⟩ = some (.int .i64 n) ∧ w2.cell? ⟨N, 2, none⟩ = some (.int .i64 d) ∧ N < w2.heap.size ∧ Below w.heap.size w w2) := by
  refine (clock_any o n d w1).mono ?_
  rintro e w2 ⟨rfl, hB⟩
  exact ⟨rfl, box_keep h hB⟩
theorem within_in {N : Nat} {w w1 : World} {o n d q : Int} {b : Bool} (hb : withinB n d (pm q) = b) (h : w1.cell? ⟨N, 0, none⟩ = some (.int .i64 o) ∧ w1.cell? ⟨N, 1, none⟩ = some (.int .i64 n) ∧ w1.cell? ⟨N, 2, none⟩ = some (.int .i64 d) ∧ N < w1.heap.size ∧ Below w.heap.size w w1) :
    Calls Try.prog 11 #[ckV o n d, .int .i64 q] w1 fun e w2 => e = .returned (.bool b) ∧ (w2.cell? ⟨N, 0, none⟩ = some (.int .i64 o) ∧ w2.cell? ⟨N, 1, none⟩ = some (.int .i64 n) ∧ w2.cell? ⟨N, 2, none⟩ = some (.int .i64 d) ∧ N < w2.heap.size ∧ Below w.heap.size w w2) := by
  refine (within_any o n d q w1).mono ?_
  rintro e w2 ⟨rfl, hB⟩
  exact ⟨by rw [hb], box_keep h hB⟩
theorem refWithin_in {N : Nat} {w w1 : World} {o n d q : Int} {b : Bool} (hb : withinB n d (pm q) = b) (h : w1.cell? ⟨N, 0, none⟩ = some (.int .i64 o) ∧ w1.cell? ⟨N, 1, none⟩ = some (.int .i64 n) ∧ w1.cell? ⟨N, 2, none⟩ = some (.int .i64 d) ∧ N < w1.heap.size ∧ Below w.heap.size w w1) :
    Calls Try.prog 12 #[ckV o n d, .int .i64 q] w1 fun e w2 => e = .returned (.bool b) ∧ (w2.cell? ⟨N, 0, none⟩ = some (.int .i64 o) ∧ w2.cell? ⟨N, 1, none⟩ = some (.int .i64 n) ∧ w2.cell? ⟨N, 2, none⟩ = some (.int .i64 d) ∧ N < w2.heap.size ∧ Below w.heap.size w w2) := by
  refine (refWithin_any o n d q w1).mono ?_
  rintro e w2 ⟨rfl, hB⟩
  exact ⟨by rw [hb], box_keep h hB⟩
set_option maxHeartbeats 4000000 in
theorem walk (o n d q : Int) (w : World) :
    Calls Try.prog 4 #[ckV o n d, .int .i64 q] w fun e w' => e = .returned (.bool true) ∧ Below w.heap.size w w' := by
  cases hb : withinB n d (pm q) with
  | _ =>
    have HX := Lib.hid hb
    clear hb
    go_enter Try.func4, Try.ntmps4
    go_wp2_with fail
    have F0 := Lib.hid (box_new w o n d 23)
    generalize w.alloc (.cells #[.int .i64 o, .int .i64 n, .int .i64 d] 23) = w0 at *
    refine (awake_any _).mono ?_
    rintro e w' ⟨rfl, rfl⟩
    have hSd := box_keep F0.out ((Below.refl w0.heap.size w0).drew)
    go_wp2_with fail
    go_region_held3 (fun w' => w'.cell? ⟨w.heap.size, 0, none⟩ = some (.int .i64 o) ∧ w'.cell? ⟨w.heap.size, 1, none⟩ = some (.int .i64 n) ∧ w'.cell? ⟨w.heap.size, 2, none⟩ = some (.int .i64 d) ∧ w.heap.size < w'.heap.size ∧ Below w.heap.size w w')
        (first | (with_reducible exact h5) | (with_reducible exact hSd))
        (first | (go_at_call 8; refine (clock_in (by assumption)).mono ?_; rintro e w' ⟨rfl, h5⟩) | (go_at_call 11; refine (within_in HX.out (by assumption)).mono ?_; rintro e w' ⟨rfl, h5⟩) | (go_at_call 12; refine (refWithin_in HX.out (by assumption)).mono ?_; rintro e w' ⟨rfl, h5⟩))
    go_wp2_with fail
    go_ret
    exact ⟨rfl, h5.2.2.2.2⟩
end clwithin
namespace clelapsed
end clelapsed
namespace clholds
end clholds
end Go.Proofs.Ytfjknafohkeglaa
