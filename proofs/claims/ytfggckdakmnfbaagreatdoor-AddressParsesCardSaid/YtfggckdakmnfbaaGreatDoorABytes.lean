/- What package address says of a byte: letters and digits, unreserved bytes, bytes of a path, bytes of a query. -/
import Derived.Test.YtfggckdakmnfbaaGreatDoorASpec
namespace Go.Proofs.YtfggckdakmnfbaaGreatDoor
open Go.RowKit

set_option maxHeartbeats 400000 in
theorem alnum_any (c : UInt8) (w : World) :
    Calls Tryz.prog 39 #[.int .u8 (c.toNat : Int)] w fun e w' => e = .returned (.bool (alnB c)) ∧ w = w' := by
  go_enter Tryz.func39, Tryz.ntmps39
  go_wp2
  all_goals
    go_ret
    refine ⟨ret_bool ?_, rfl⟩
    rw [Bool.eq_iff_iff]
    simp [alnB] at *
    try omega
set_option maxHeartbeats 4000000 in
theorem isUnreserved_any (c : UInt8) (w : World) :
    Calls Tryz.prog 42 #[.int .u8 (c.toNat : Int)] w fun e w' => e = .returned (.bool (unrB c)) ∧ w = w' := by
  go_enter Tryz.func42, Tryz.ntmps42
  go_wp2_with (go_at_call 39; refine (alnum_any _ _).mono ?_; rintro e w' ⟨rfl, rfl⟩)
  all_goals
    go_ret
    refine ⟨ret_bool ?_, rfl⟩
    rw [Bool.eq_iff_iff]
    simp [unrB, alnB] at *
    try omega
set_option maxHeartbeats 4000000 in
theorem isPathByte_any (c : UInt8) (w : World) :
    Calls Tryz.prog 26 #[.int .u8 (c.toNat : Int)] w fun e w' => e = .returned (.bool (pathB c)) ∧ w = w' := by
  go_enter Tryz.func26, Tryz.ntmps26
  go_wp2_with (go_at_call 42; refine (isUnreserved_any _ _).mono ?_; rintro e w' ⟨rfl, rfl⟩)
  all_goals
    go_ret
    refine ⟨ret_bool ?_, rfl⟩
    rw [Bool.eq_iff_iff]
    simp [pathB, unrB, alnB] at *
    try omega
set_option maxHeartbeats 4000000 in
theorem isQueryByte_any (c : UInt8) (w : World) :
    Calls Tryz.prog 14 #[.int .u8 (c.toNat : Int)] w fun e w' => e = .returned (.bool (plnB true c)) ∧ w = w' := by
  by_cases h : c.toNat = 63
  · have h1 : ((c.toNat : Int) == 63) = true := by rw [h]; rfl
    have H := Lib.hid h
    clear h
    go_enter Tryz.func14, Tryz.ntmps14
    go_wp2_with (go_at_call 26; refine (isPathByte_any _ _).mono ?_; rintro e w' ⟨rfl, rfl⟩)
    go_ret
    exact ⟨ret_bool (by simp [plnB, H.out]), rfl⟩
  · have h1 : ((c.toNat : Int) == 63) = false := by simp; omega
    go_enter Tryz.func14, Tryz.ntmps14
    go_wp2_with (go_at_call 26; refine (isPathByte_any _ _).mono ?_; rintro e w' ⟨rfl, rfl⟩)
    go_ret
    exact ⟨ret_bool (by simp [plnB, h]), rfl⟩
end Go.Proofs.YtfggckdakmnfbaaGreatDoor
