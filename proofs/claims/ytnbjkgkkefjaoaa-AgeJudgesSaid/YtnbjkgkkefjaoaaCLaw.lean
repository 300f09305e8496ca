/- The statements of layer 12 that take ints alone, and ClockReads and ClockWithin: for every input the statement's function returns true: the walks. -/
import Derived.Test.YtnbjkgkkefjaoaaCRef
namespace Go.Proofs.Ytnbjkgkkefjaoaa
open Go.RowKit

set_option maxHeartbeats 400000 in
theorem awake_any (w : World) : Calls Try.prog 15 #[] w fun e w' => e = .returned (.bool true) ∧ w = w' := by
  have H := Lib.hid (show ∀ W, Calls Try.prog 17 #[.int .i64 10, .int .i64 100000] W fun e w' => e = .returned (.tuple #[.int .i64 9, .int .i64 12]) ∧ W = w' from fun W => elapsed_any 10 100000 W)
  go_enter Try.func15, Try.ntmps15
  go_wp2_with fail
  refine (H.out _).mono ?_
  rintro e w' ⟨rfl, rfl⟩
  go_wp2_with fail
  go_ret
  exact ⟨rfl, rfl⟩
theorem below_same {a b : World} {B : Nat} (h : Below B a b) : Below B a b := h
namespace clreads
end clreads
namespace clwithin
theorem clock_in {N : Nat} {w w1 : World} {o n d : Int} (h : w1.cell? ⟨N, 0, none⟩ = some (.int .i64 o) ∧ w1.cell? ⟨N, 1, none⟩ = some (.int .i64 n) ∧ w1.cell? ⟨N, 2, none⟩ = some (.int .i64 d) ∧ N < w1.heap.size ∧ Below w.heap.size w w1) :
    Calls Try.prog 19 #[ckV o n d] w1 fun e w2 => e = .returned (ckV o n d) ∧ (w2.cell? ⟨N, 0, none⟩ = some (.int .i64 o) ∧ w2.cell? ⟨N, 1, none⟩ = some (.int .i64 n) ∧ w2.cell? ⟨N, 2, none⟩ = some (.int .i64 d) ∧ N < w2.heap.size ∧ Below w.heap.size w w2) := by
  refine (clock_any o n d w1).mono ?_
  rintro e w2 ⟨rfl, hB⟩
  exact ⟨rfl, box_keep h hB⟩
theorem within_in {N : Nat} {w w1 : World} {o n d q : Int} {b : Bool} (hb : withinB n d (pm q) = b) (h : w1.cell? ⟨N, 0, none⟩ = some (.int .i64 o) ∧ w1.cell? ⟨N, 1, none⟩ = some (.int .i64 n) ∧ w1.cell? ⟨N, 2, none⟩ = some (.int .i64 d) ∧ N < w1.heap.size ∧ Below w.heap.size w w1) :
    Calls Try.prog 23 #[ckV o n d, .int .i64 q] w1 fun e w2 => e = .returned (.bool b) ∧ (w2.cell? ⟨N, 0, none⟩ = some (.int .i64 o) ∧ w2.cell? ⟨N, 1, none⟩ = some (.int .i64 n) ∧ w2.cell? ⟨N, 2, none⟩ = some (.int .i64 d) ∧ N < w2.heap.size ∧ Below w.heap.size w w2) := by
  refine (within_any o n d q w1).mono ?_
  rintro e w2 ⟨rfl, hB⟩
  exact ⟨by rw [hb], box_keep h hB⟩
end clwithin
namespace clelapsed
set_option maxHeartbeats 2000000 in
theorem walk (d q : Int) (w : World) :
    Calls Try.prog 3 #[.int .i64 d, .int .i64 q] w fun e w' => e = .returned (.bool true) ∧ Below w.heap.size w w' := by
  have b1 := tk_bd d
  have b2 := pm_bd q
  have HT := Lib.hid (fun W => refTime_any d W)
  have HE := Lib.hid (fun W => elapsed_any d q W)
  obtain ⟨n, hn⟩ : ∃ n, tk d = n := ⟨_, rfl⟩
  rw [hn] at b1 HT HE
  have bl := lo_bd n (pm q) b1.1 b2.1 b2.2
  have bh := hi_bd n (pm q) b1.1 b2.1 b2.2
  have pl := pos_lo n (pm q) b1.1 b2.1 b2.2
  have ph := pos_hi n (pm q) b1.1 b2.1 b2.2
  obtain ⟨L, hL⟩ : ∃ L, loE n (pm q) = L := ⟨_, rfl⟩
  obtain ⟨U, hU⟩ : ∃ U, hiE n (pm q) = U := ⟨_, rfl⟩
  rw [hL] at bl pl HE
  rw [hU] at bh ph HE
  have P1 := Lib.hid (fun W => possible_any n L q (by omega) (by omega) (by omega) W)
  have P2 := Lib.hid (fun W => possible_any n (L - 1) q (by omega) (by omega) (by omega) W)
  have P3 := Lib.hid (fun W => possible_any n U q (by omega) (by omega) (by omega) W)
  have P4 := Lib.hid (fun W => possible_any n (U + 1) q (by omega) (by omega) (by omega) W)
  rw [pl.1] at P1
  rw [pl.2] at P2
  rw [ph.1] at P3
  rw [ph.2] at P4
  have c1 : ¬ L < 0 := by omega
  have c2 : ¬ U < L := by omega
  have c3 : ¬ 2199023255552 < U := by omega
  clear hn hL hU pl ph bh
  go_enter Try.func3, Try.ntmps3
  go_wp2_with fail
  refine (awake_any _).mono ?_
  rintro e w' ⟨rfl, rfl⟩
  go_wp2_with fail
  refine (HT.out _).mono ?_
  rintro e w' ⟨rfl, rfl⟩
  go_wp2_with fail
  refine (HE.out _).mono ?_
  rintro e w' ⟨rfl, rfl⟩
  go_wp2_with fail
  refine (P1.out _).mono ?_
  rintro e w' ⟨rfl, rfl⟩
  go_wp2_with fail
  refine (P2.out _).mono ?_
  rintro e w' ⟨rfl, rfl⟩
  go_wp2_with fail
  refine (P3.out _).mono ?_
  rintro e w' ⟨rfl, rfl⟩
  go_wp2_with fail
  refine (P4.out _).mono ?_
  rintro e w' ⟨rfl, rfl⟩
  go_wp2_with fail
  go_ret
  exact ⟨rfl, Below.refl _ _⟩
end clelapsed
namespace clholds
set_option maxHeartbeats 4000000 in
theorem walk (d q : Int) (w : World) :
    Calls Try.prog 5 #[.int .i64 d, .int .i64 q] w fun e w' => e = .returned (.bool true) ∧ Below w.heap.size w w' := by
  have b1 := tk_bd d
  have b2 := pm_bd q
  have HT := Lib.hid (fun W => refTime_any d W)
  have HH := Lib.hid (fun W => hold_any d q W)
  have HW := Lib.hid (fun W => wait_any d q W)
  obtain ⟨n, hn⟩ : ∃ n, tk d = n := ⟨_, rfl⟩
  rw [hn] at b1 HT HH HW
  have bh := ho_bd n (pm q) b1.1 b2.1 b2.2
  have bw := wa_bd n (pm q) b1.1 b2.1 b2.2
  by_cases h0 : n = 0
  · obtain rfl : n = 0 := h0
    have e1 : hoE 0 (pm q) = 0 := by omega
    rw [e1] at HH
    rw [wa_zero] at HW
    have P1 := Lib.hid (fun W => possible_any 0 0 q (by omega) (by omega) (by omega) W)
    obtain ⟨x, hx⟩ : ∃ x, posB 0 0 (pm q) = x := ⟨_, rfl⟩
    rw [hx] at P1
    clear hn bh bw e1 hx
    cases x
    all_goals
      go_enter Try.func5, Try.ntmps5
      go_wp2_with fail
      refine (awake_any _).mono ?_
      rintro e w' ⟨rfl, rfl⟩
      go_wp2_with fail
      refine (HT.out _).mono ?_
      rintro e w' ⟨rfl, rfl⟩
      go_wp2_with fail
      refine (HH.out _).mono ?_
      rintro e w' ⟨rfl, rfl⟩
      go_wp2_with fail
      refine (HW.out _).mono ?_
      rintro e w' ⟨rfl, rfl⟩
      go_wp2_with fail
      refine (P1.out _).mono ?_
      rintro e w' ⟨rfl, rfl⟩
      go_wp2_with fail
      go_ret
      exact ⟨rfl, Below.refl _ _⟩
  · have ph := pos_ho n (pm q) (by omega) b2.1 b2.2
    have pw := pos_wa n (pm q) (by omega) b2.1 b2.2
    obtain ⟨h, hh⟩ : ∃ h, hoE n (pm q) = h := ⟨_, rfl⟩
    obtain ⟨z, hz⟩ : ∃ z, waE n (pm q) = z := ⟨_, rfl⟩
    rw [hh] at bh ph HH
    rw [hz] at bw pw HW
    have P1 := Lib.hid (fun W => possible_any (h - 1) n q (by omega) (by omega) (by omega) W)
    have P2 := Lib.hid (fun W => possible_any h n q (by omega) (by omega) (by omega) W)
    have P3 := Lib.hid (fun W => possible_any z (n - 1) q (by omega) (by omega) (by omega) W)
    have P4 := Lib.hid (fun W => possible_any (z - 1) (n - 1) q (by omega) (by omega) (by omega) W)
    rw [ph.1] at P1
    rw [ph.2] at P2
    rw [pw.1] at P3
    rw [pw.2] at P4
    have hn0 : 0 < n := by omega
    have c1 : ¬ h < 0 := by omega
    have c2 : ¬ n < h := by omega
    have c3 : ¬ z < n := by omega
    have c4 : ¬ 2199023255552 < z := by omega
    have c5 : ((z : Int) == 0) = false := by simp; omega
    have c6 : 0 < z := by omega
    clear hn hh hz ph pw bw h0
    by_cases hp : 0 < h
    · go_enter Try.func5, Try.ntmps5
      go_wp2_with fail
      refine (awake_any _).mono ?_
      rintro e w' ⟨rfl, rfl⟩
      go_wp2_with fail
      refine (HT.out _).mono ?_
      rintro e w' ⟨rfl, rfl⟩
      go_wp2_with fail
      refine (HH.out _).mono ?_
      rintro e w' ⟨rfl, rfl⟩
      go_wp2_with fail
      refine (HW.out _).mono ?_
      rintro e w' ⟨rfl, rfl⟩
      go_wp2_with fail
      refine (P1.out _).mono ?_
      rintro e w' ⟨rfl, rfl⟩
      go_wp2_with fail
      refine (P2.out _).mono ?_
      rintro e w' ⟨rfl, rfl⟩
      go_wp2_with fail
      refine (P3.out _).mono ?_
      rintro e w' ⟨rfl, rfl⟩
      go_wp2_with fail
      refine (P4.out _).mono ?_
      rintro e w' ⟨rfl, rfl⟩
      go_wp2_with fail
      go_ret
      exact ⟨rfl, Below.refl _ _⟩
    · go_enter Try.func5, Try.ntmps5
      go_wp2_with fail
      refine (awake_any _).mono ?_
      rintro e w' ⟨rfl, rfl⟩
      go_wp2_with fail
      refine (HT.out _).mono ?_
      rintro e w' ⟨rfl, rfl⟩
      go_wp2_with fail
      refine (HH.out _).mono ?_
      rintro e w' ⟨rfl, rfl⟩
      go_wp2_with fail
      refine (HW.out _).mono ?_
      rintro e w' ⟨rfl, rfl⟩
      go_wp2_with fail
      refine (P2.out _).mono ?_
      rintro e w' ⟨rfl, rfl⟩
      go_wp2_with fail
      refine (P3.out _).mono ?_
      rintro e w' ⟨rfl, rfl⟩
      go_wp2_with fail
      refine (P4.out _).mono ?_
      rintro e w' ⟨rfl, rfl⟩
      go_wp2_with fail
      go_ret
      exact ⟨rfl, Below.refl _ _⟩
end clholds
end Go.Proofs.Ytnbjkgkkefjaoaa
