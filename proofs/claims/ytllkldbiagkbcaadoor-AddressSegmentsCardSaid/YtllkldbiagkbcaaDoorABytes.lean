/- What package address says of a byte: letters and digits, unreserved bytes, bytes of a path, bytes of a query. -/
import Derived.Test.YtllkldbiagkbcaaDoorASpec
namespace Go.Proofs.YtllkldbiagkbcaaDoor
open Go.RowKit

set_option maxHeartbeats 400000 in
theorem alnum_any (c : UInt8) (w : World) :
    Calls Tryd.prog 44 #[.int .u8 (c.toNat : Int)] w fun e w' => e = .returned (.bool (alnB c)) ∧ w = w' := by
  go_enter Tryd.func44, Tryd.ntmps44
  go_wp2
  all_goals
    go_ret
    refine ⟨ret_bool ?_, rfl⟩
    rw [Bool.eq_iff_iff]
    simp [alnB] at *
    try omega
set_option maxHeartbeats 4000000 in
theorem isUnreserved_any (c : UInt8) (w : World) :
    Calls Tryd.prog 64 #[.int .u8 (c.toNat : Int)] w fun e w' => e = .returned (.bool (unrB c)) ∧ w = w' := by
  go_enter Tryd.func64, Tryd.ntmps64
  go_wp2_with (go_at_call 44; refine (alnum_any _ _).mono ?_; rintro e w' ⟨rfl, rfl⟩)
  all_goals
    go_ret
    refine ⟨ret_bool ?_, rfl⟩
    rw [Bool.eq_iff_iff]
    simp [unrB, alnB] at *
    try omega
set_option maxHeartbeats 4000000 in
theorem isPathByte_any (c : UInt8) (w : World) :
    Calls Tryd.prog 47 #[.int .u8 (c.toNat : Int)] w fun e w' => e = .returned (.bool (pathB c)) ∧ w = w' := by
  go_enter Tryd.func47, Tryd.ntmps47
  go_wp2_with (go_at_call 64; refine (isUnreserved_any _ _).mono ?_; rintro e w' ⟨rfl, rfl⟩)
  all_goals
    go_ret
    refine ⟨ret_bool ?_, rfl⟩
    rw [Bool.eq_iff_iff]
    simp [pathB, unrB, alnB] at *
    try omega
set_option maxHeartbeats 4000000 in
theorem isQueryByte_any (c : UInt8) (w : World) :
    Calls Tryd.prog 36 #[.int .u8 (c.toNat : Int)] w fun e w' => e = .returned (.bool (plnB true c)) ∧ w = w' := by
  by_cases h : c.toNat = 63
  · have h1 : ((c.toNat : Int) == 63) = true := by rw [h]; rfl
    have H := Lib.hid h
    clear h
    go_enter Tryd.func36, Tryd.ntmps36
    go_wp2_with (go_at_call 47; refine (isPathByte_any _ _).mono ?_; rintro e w' ⟨rfl, rfl⟩)
    go_ret
    exact ⟨ret_bool (by simp [plnB, H.out]), rfl⟩
  · have h1 : ((c.toNat : Int) == 63) = false := by simp; omega
    go_enter Tryd.func36, Tryd.ntmps36
    go_wp2_with (go_at_call 47; refine (isPathByte_any _ _).mono ?_; rintro e w' ⟨rfl, rfl⟩)
    go_ret
    exact ⟨ret_bool (by simp [plnB, h]), rfl⟩
end Go.Proofs.YtllkldbiagkbcaaDoor
