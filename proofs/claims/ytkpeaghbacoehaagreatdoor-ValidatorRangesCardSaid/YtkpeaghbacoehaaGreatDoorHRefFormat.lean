/- What the reference's Format returns: the date text. -/
import Derived.Test.YtkpeaghbacoehaaGreatDoorHRefNum
import Derived.Test.YtkpeaghbacoehaaGreatDoorHRefDay
import Derived.Deep.RegionHeld3
import Derived.IntWalk
namespace Go.Proofs.YtkpeaghbacoehaaGreatDoor
open Go.RowKit

theorem slice_wd (k : Nat) (h : k < 7) (w : World) : (Instr.slice 9 (.string ⟨#[83, 117, 110, 77, 111, 110, 84, 117, 101, 87, 101, 100, 84, 104, 117, 70, 114, 105, 83, 97, 116]⟩) (some (.int .i64 (3 * (k : Int)))) (some (.int .i64 (3 * (k : Int) + 3))) none).run Tryz.prog w = .ok (.string (strB (wdS k))) w := by
  rw [run_slice_string _ _ _ _ _ _ _ Tryz.underlying9 (by omega) (by omega) (by show _ ≤ ((21 : Nat) : Int); omega)]
  congr 2
  apply strB_ext
  rw [seg_list, show (3 * (k : Int)).toNat = 3 * k by omega, show (3 * (k : Int) + 3).toNat - 3 * k = 3 by omega]; rfl
theorem slice_mo (k : Nat) (h1 : 1 ≤ k) (h2 : k ≤ 12) (w : World) : (Instr.slice 9 (.string ⟨#[74, 97, 110, 70, 101, 98, 77, 97, 114, 65, 112, 114, 77, 97, 121, 74, 117, 110, 74, 117, 108, 65, 117, 103, 83, 101, 112, 79, 99, 116, 78, 111, 118, 68, 101, 99]⟩) (some (.int .i64 (3 * (k : Int) - 3))) (some (.int .i64 (3 * (k : Int)))) none).run Tryz.prog w = .ok (.string (strB (moS k))) w := by
  rw [run_slice_string _ _ _ _ _ _ _ Tryz.underlying9 (by omega) (by omega) (by show _ ≤ ((36 : Nat) : Int); omega)]
  congr 2
  apply strB_ext
  rw [seg_list, show (3 * (k : Int) - 3).toNat = 3 * k - 3 by omega, show (3 * (k : Int)).toNat - (3 * k - 3) = 3 by omega]; rfl
theorem dig2_in {w wr : World} (n : Nat) (h : n < 100) (hS : Below w.heap.size w wr) :
    Calls Tryz.prog 90 #[.int .i64 (n : Int), .int .i64 2] wr fun e w' => e = .returned (.string (strB (dd n))) ∧ Below w.heap.size w w' := by
  refine (digits_any n 2 wr (by omega) (by omega)).mono ?_
  rintro e w' ⟨rfl, hB⟩
  exact ⟨by rw [dgs_2], hS.trans (hB.mono hS.size)⟩
theorem dig4_in {w wr : World} (n : Nat) (h : n < 10000) (hS : Below w.heap.size w wr) :
    Calls Tryz.prog 90 #[.int .i64 (n : Int), .int .i64 4] wr fun e w' => e = .returned (.string (strB (d4 n))) ∧ Below w.heap.size w w' := by
  refine (digits_any n 4 wr (by omega) (by omega)).mono ?_
  rintro e w' ⟨rfl, hB⟩
  exact ⟨by rw [dgs_4], hS.trans (hB.mono hS.size)⟩
theorem refTxt_eq (w y m d r : Nat) : strB (wdS w) ++ (⟨#[44, 32]⟩ : ByteArray) ++ strB (dd d) ++ (⟨#[32]⟩ : ByteArray) ++ strB (moS m) ++ (⟨#[32]⟩ : ByteArray) ++ strB (d4 y) ++ (⟨#[32]⟩ : ByteArray) ++ strB (clockS r) ++ (⟨#[32, 71, 77, 84]⟩ : ByteArray) = strB (txt w y m d r) := by
  apply strB_ext
  unfold txt dateS strB
  simp
set_option maxHeartbeats 4000000 in
theorem refFormat_yes (n : Nat) (l : List UInt8) (w : World) (hT : isT n l) :
    Calls Tryz.prog 66 #[.int .i64 (n : Int)] w fun e w' => e = .returned (.string (strB l)) ∧ Below w.heap.size w w' := by
  obtain ⟨hn, y, m, d, hD, rfl⟩ := hT
  have b := isD_bd hD
  have HDD := Lib.hid (fun W => refDate_yes _ _ _ _ W hD)
  rw [Int.natCast_ediv] at HDD
  have HWD := Lib.hid (fun W => refWeekday_any ((n : Int) / 86400) W)
  obtain ⟨wd, hwd⟩ : ∃ wd : Nat, wd = (n / 86400 + 4) % 7 := ⟨_, rfl⟩
  have ewd : wdI ((n : Int) / 86400) = (wd : Int) := by unfold wdI; omega
  rw [ewd] at HWD
  have hw7 : wd < 7 := by omega
  rw [← hwd]
  obtain ⟨r, hr⟩ : ∃ r : Nat, n % 86400 = r := ⟨_, rfl⟩
  have hr1 : r < 86400 := by omega
  have er : (n : Int) % 86400 = (r : Int) := by omega
  rw [hr]
  have HC := Lib.hid (clock_eq r)
  have e60 : r % 3600 / 60 = r / 60 % 60 := by omega
  rw [e60] at HC
  have H1 := Lib.hid (fun W => digits_any (r / 3600) 2 W (by omega) (by omega))
  have H2 := Lib.hid (fun W => digits_any (r / 60 % 60) 2 W (by omega) (by omega))
  have H3 := Lib.hid (fun W => digits_any (r % 60) 2 W (by omega) (by omega))
  rw [dgs_2, Int.natCast_ediv] at H1
  rw [dgs_2, Int.natCast_emod, Int.natCast_ediv] at H2
  rw [dgs_2, Int.natCast_emod] at H3
  have ER := Lib.hid er
  have z1 : (strB (dd (r / 3600))).size = 2 := by rw [strB_size]; rfl
  have z2 : (strB (dd (r / 60 % 60))).size = 2 := by rw [strB_size]; rfl
  have z3 : (strB (dd (r % 60))).size = 2 := by rw [strB_size]; rfl
  obtain ⟨hy1, hy2, hm1, hm2, hd1, hd2⟩ : 1000 ≤ y ∧ y ≤ 9999 ∧ 1 ≤ m ∧ m ≤ 12 ∧ 1 ≤ d ∧ d < 100 := by omega
  clear hD b hwd ewd hr er e60
  go_enter Tryz.func66, Tryz.ntmps66
  go_wp2_with fail
  refine (HDD.out _).mono ?_
  rintro e w' ⟨rfl, rfl⟩
  go_wp2_with fail
  refine (HWD.out _).mono ?_
  rintro e w' ⟨rfl, rfl⟩
  clear HDD HWD
  have er := ER.out
  go_wp2_with fail
  refine (H1.out _).mono ?_
  rintro e w1 ⟨rfl, hB1⟩
  have HB1 := Lib.hid hB1
  clear hB1
  go_wp2_with fail
  refine (H2.out _).mono ?_
  rintro e w2 ⟨rfl, hB2⟩
  have HB2 := Lib.hid (HB1.out.trans (hB2.mono HB1.out.size))
  clear hB2 HB1
  go_wp2_with fail
  refine (H3.out _).mono ?_
  rintro e w3 ⟨rfl, hB3⟩
  have HB3 := Lib.hid (HB2.out.trans (hB3.mono HB2.out.size))
  clear hB3 HB2 H1 H2 H3
  go_wp2_with fail
  have hS := HB3.out.drew
  have z4 : (strB (dd d)).size = 2 := by rw [strB_size]; rfl
  have z5 : (strB (d4 y)).size = 4 := by rw [strB_size]; rfl
  have a1 : IntKind.i64.wrap (3 * (wd : Int)) = 3 * (wd : Int) := IntWalk.i64_in _ (by omega)
  have a2 : IntKind.i64.wrap (3 * (wd : Int) + 3) = 3 * (wd : Int) + 3 := IntWalk.i64_in _ (by omega)
  have a3 : IntKind.i64.wrap (3 * (m : Int)) = 3 * (m : Int) := IntWalk.i64_in _ (by omega)
  have a4 : IntKind.i64.wrap (3 * (m : Int) - 3) = 3 * (m : Int) - 3 := IntWalk.i64_in _ (by omega)
  have s1 : ∀ w : World, (Instr.slice 9 (.string ⟨#[83, 117, 110, 77, 111, 110, 84, 117, 101, 87, 101, 100, 84, 104, 117, 70, 114, 105, 83, 97, 116]⟩) (some (.int .i64 (3 * (wd : Int)))) (some (.int .i64 (3 * (wd : Int) + 3))) none).run Tryz.prog w = .ok (.string (strB (wdS wd))) w := fun w => slice_wd wd hw7 w
  have s2 : ∀ w : World, (Instr.slice 9 (.string ⟨#[74, 97, 110, 70, 101, 98, 77, 97, 114, 65, 112, 114, 77, 97, 121, 74, 117, 110, 74, 117, 108, 65, 117, 103, 83, 101, 112, 79, 99, 116, 78, 111, 118, 68, 101, 99]⟩) (some (.int .i64 (3 * (m : Int) - 3))) (some (.int .i64 (3 * (m : Int)))) none).run Tryz.prog w = .ok (.string (strB (moS m))) w := fun w => slice_mo m hm1 hm2 w
  have z6 : (strB (wdS wd)).size = 3 := by rw [strB_size]; exact wdS_len _ hw7
  have z7 : (strB (moS m)).size = 3 := by rw [strB_size]; exact moS_len _ hm1 hm2
  clear er hw7 hm1 hm2
  go_region_held3 (fun w' => Below w.heap.size w w')
    (first | (with_reducible exact h5) | (with_reducible exact hS))
    (first
      | (go_at_call_of 90 (Value.int IntKind.i64 (d : Int)); refine (dig2_in d hd2 (by assumption)).mono ?_; rintro e w' ⟨rfl, h5⟩)
      | (go_at_call_of 90 (Value.int IntKind.i64 (y : Int)); refine (dig4_in y (by omega) (by assumption)).mono ?_; rintro e w' ⟨rfl, h5⟩))
  go_wp2_with fail
  go_ret
  exact ⟨congrArg (fun b => Ending.returned (.string b)) (by rw [HC.out]; exact refTxt_eq _ _ _ _ _), h5⟩
end Go.Proofs.YtkpeaghbacoehaaGreatDoor
