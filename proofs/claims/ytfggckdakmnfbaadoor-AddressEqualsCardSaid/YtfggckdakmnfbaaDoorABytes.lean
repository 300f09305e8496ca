/- What package address says of a byte: letters and digits, unreserved bytes, bytes of a path, bytes of a query. -/
import Derived.Test.YtfggckdakmnfbaaDoorASpec
namespace Go.Proofs.YtfggckdakmnfbaaDoor
open Go.RowKit

set_option maxHeartbeats 400000 in
theorem alnum_any (c : UInt8) (w : World) :
    Calls Tryd.prog 68 #[.int .u8 (c.toNat : Int)] w fun e w' => e = .returned (.bool (alnB c)) ∧ w = w' := by
  go_enter Tryd.func68, Tryd.ntmps68
  go_wp2
  all_goals
    go_ret
    refine ⟨ret_bool ?_, rfl⟩
    rw [Bool.eq_iff_iff]
    simp [alnB] at *
    try omega
set_option maxHeartbeats 4000000 in
theorem isUnreserved_any (c : UInt8) (w : World) :
    Calls Tryd.prog 71 #[.int .u8 (c.toNat : Int)] w fun e w' => e = .returned (.bool (unrB c)) ∧ w = w' := by
  go_enter Tryd.func71, Tryd.ntmps71
  go_wp2_with (go_at_call 68; refine (alnum_any _ _).mono ?_; rintro e w' ⟨rfl, rfl⟩)
  all_goals
    go_ret
    refine ⟨ret_bool ?_, rfl⟩
    rw [Bool.eq_iff_iff]
    simp [unrB, alnB] at *
    try omega
set_option maxHeartbeats 4000000 in
theorem isPathByte_any (c : UInt8) (w : World) :
    Calls Tryd.prog 56 #[.int .u8 (c.toNat : Int)] w fun e w' => e = .returned (.bool (pathB c)) ∧ w = w' := by
  go_enter Tryd.func56, Tryd.ntmps56
  go_wp2_with (go_at_call 71; refine (isUnreserved_any _ _).mono ?_; rintro e w' ⟨rfl, rfl⟩)
  all_goals
    go_ret
    refine ⟨ret_bool ?_, rfl⟩
    rw [Bool.eq_iff_iff]
    simp [pathB, unrB, alnB] at *
    try omega
set_option maxHeartbeats 4000000 in
theorem isQueryByte_any (c : UInt8) (w : World) :
    Calls Tryd.prog 36 #[.int .u8 (c.toNat : Int)] w fun e w' => e = .returned (.bool (plnB true c)) ∧ w = w' := by
  by_cases h : c.toNat = 63
  · have h1 : ((c.toNat : Int) == 63) = true := by rw [h]; rfl
    have H := Lib.hid h
    clear h
    go_enter Tryd.func36, Tryd.ntmps36
    go_wp2_with (go_at_call 56; refine (isPathByte_any _ _).mono ?_; rintro e w' ⟨rfl, rfl⟩)
    go_ret
    exact ⟨ret_bool (by simp [plnB, H.out]), rfl⟩
  · have h1 : ((c.toNat : Int) == 63) = false := by simp; omega
    go_enter Tryd.func36, Tryd.ntmps36
    go_wp2_with (go_at_call 56; refine (isPathByte_any _ _).mono ?_; rintro e w' ⟨rfl, rfl⟩)
    go_ret
    exact ⟨ret_bool (by simp [plnB, h]), rfl⟩
end Go.Proofs.YtfggckdakmnfbaaDoor
