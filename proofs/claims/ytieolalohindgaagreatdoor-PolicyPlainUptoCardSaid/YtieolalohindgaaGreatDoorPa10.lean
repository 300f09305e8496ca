import Derived.Test.YtieolalohindgaaGreatDoorPa9
import Derived.Test.YtieolalohindgaaGreatDoorPa40
import Derived.Test.YtieolalohindgaaGreatDoorPa37
import Derived.Lib.AppendIntMem
import Derived.Lib.SmallJoins
import Derived.Stop.LaidErr
/- What the walks of package httpdate ask of a world: the table of powers of ten, the names of the months and of the weekdays. -/
namespace Go.Proofs.YtieolalohindgaaGreatDoor
open Go.RowKit

def monA : Array Value := #[.string (strB (moS 1)), .string (strB (moS 2)), .string (strB (moS 3)), .string (strB (moS 4)), .string (strB (moS 5)), .string (strB (moS 6)), .string (strB (moS 7)), .string (strB (moS 8)), .string (strB (moS 9)), .string (strB (moS 10)), .string (strB (moS 11)), .string (strB (moS 12))]
def dayA : Array Value := #[.string (strB (wdS 0)), .string (strB (wdS 1)), .string (strB (wdS 2)), .string (strB (wdS 3)), .string (strB (wdS 4)), .string (strB (wdS 5)), .string (strB (wdS 6))]
structure EnvH (w : World) : Prop where
  tab : Lib.TabIs Tryz.prog w "internal/strconv.uint64pow10" .u64 Lib.pow10Tab
  mons : w.var? Tryz.prog "quayside/httpdate.monthNames" = some monA
  days : w.var? Tryz.prog "quayside/httpdate.weekdayNames" = some dayA
theorem gMon : Tryz.prog.globalNamed "quayside/httpdate.monthNames" = some 1 := by kernel_rfl
theorem gDay : Tryz.prog.globalNamed "quayside/httpdate.weekdayNames" = some 2 := by kernel_rfl
theorem EnvH.below {w w' : World} (h : EnvH w) (hb : Below w.heap.size w w') : EnvH w' :=
  ⟨Joins.tab_stays gTab h.tab hb (Nat.le_refl _), Joins.var_stays gMon h.mons hb (Nat.le_refl _), Joins.var_stays gDay h.days hb (Nat.le_refl _)⟩
theorem twelve {k : Nat} (h : k < 12) : k = 0 ∨ k = 1 ∨ k = 2 ∨ k = 3 ∨ k = 4 ∨ k = 5 ∨ k = 6 ∨ k = 7 ∨ k = 8 ∨ k = 9 ∨ k = 10 ∨ k = 11 := by omega
theorem EnvH.mon {w : World} (h : EnvH w) (k : Nat) (hk : k < 12) : w.cell? ⟨1, k, none⟩ = some (.string (strB (moS (k + 1)))) := by
  rw [World.var?_cell gMon h.mons k]
  rcases twelve hk with rfl | rfl | rfl | rfl | rfl | rfl | rfl | rfl | rfl | rfl | rfl | rfl <;> rfl
theorem EnvH.day {w : World} (h : EnvH w) (k : Nat) (hk : k < 7) : w.cell? ⟨2, k, none⟩ = some (.string (strB (wdS k))) := by
  rw [World.var?_cell gDay h.days k]
  have : k = 0 ∨ k = 1 ∨ k = 2 ∨ k = 3 ∨ k = 4 ∨ k = 5 ∨ k = 6 := by omega
  rcases this with rfl | rfl | rfl | rfl | rfl | rfl | rfl <;> rfl
theorem EnvH.row {w : World} (h : EnvH w) : ∃ t fr, w.heap[(1 : Nat)]? = some (.cells monA t fr) := by
  have h1 := h.mons
  unfold World.var? at h1
  rw [gMon] at h1
  simp only [Option.bind_some] at h1
  split at h1
  · rename_i cs t fr hx
    obtain rfl := Option.some.inj h1
    exact ⟨t, fr, hx⟩
  · cases h1
theorem strB_mk (l : List UInt8) : (⟨l.toArray⟩ : ByteArray) = strB l := rfl
/-- Itoa of a year. -/
theorem itoa_year (y : Nat) (h1 : 1000 ≤ y) (h2 : y ≤ 9999) (w : World) (hE : EnvH w) :
    Calls Tryz.prog 148 #[.int .i64 (y : Int)] w fun e w' => e = .returned (.string (strB (d4 y))) ∧ Below w.heap.size w w' := by
  refine (Tryz.strconv_Itoa (y : Int) (by omega) (by omega) w hE.tab).mono ?_
  rintro e w' ⟨rfl, k, os, rfl⟩
  refine ⟨?_, Lib.below_grow _ _ (Nat.le_refl _) _ _⟩
  rw [Lib.itoa_nonneg, decDigits_4 y h1 (by omega)]; rfl
/-- Itoa of a number below 100. -/
theorem itoa_small (i : Nat) (h : i < 100) (w : World) :
    Calls Tryz.prog 148 #[.int .i64 (i : Int)] w fun e w' => e = .returned (.string (strB (Lib.decDigits i))) ∧ w = w' := by
  refine (Tryz.strconv_Itoa_small i h w).mono ?_
  rintro e w' ⟨rfl, rfl⟩
  exact ⟨rfl, rfl⟩
theorem strB_app2 (a b : List UInt8) : strB a ++ strB b = strB (a ++ b) := by apply ByteArray.ext; simp [strB]
set_option maxHeartbeats 400000 in
theorem twoDigits_any (i : Nat) (h : i < 100) (w : World) :
    Calls Tryz.prog 147 #[.int .i64 (i : Int)] w fun e w' => e = .returned (.string (strB (dd i))) ∧ w = w' := by
  by_cases h10 : i < 10
  · have e := Lib.hid (show (⟨#[48]⟩ : ByteArray) ++ strB (Lib.decDigits i) = strB (dd i) by rw [← dd_small i h10, ← strB_app2]; rfl)
    have hsz : (strB (Lib.decDigits i)).size ≤ 2 := by rw [strB_size, Lib.decDigits_one h10]; simp
    go_enter Tryz.func147, Tryz.ntmps147
    go_wp2_with (go_at_call 148; refine (itoa_small _ h _).mono ?_; rintro e w' ⟨rfl, rfl⟩)
    go_ret
    exact ⟨congrArg (fun b => Ending.returned (.string b)) e.out, rfl⟩
  · have e := Lib.hid (dd_big i h10 h)
    have h11 : 10 ≤ i := by omega
    clear h10
    go_enter Tryz.func147, Tryz.ntmps147
    go_wp2_with (go_at_call 148; refine (itoa_small _ h _).mono ?_; rintro e w' ⟨rfl, rfl⟩)
    go_ret
    exact ⟨congrArg (fun b => Ending.returned (.string (strB b))) e.out, rfl⟩
theorem sz_dd (i : Nat) : (strB (dd i)).size ≤ 2 := by rw [strB_size]; simp [dd]
theorem sz_d4 (i : Nat) : (strB (d4 i)).size ≤ 4 := by rw [strB_size]; simp [d4]
theorem sz_mo (m : Nat) : (strB (moS m)).size ≤ 3 := by rw [strB_size]; unfold moS; simp; omega
theorem sz_wd (m : Nat) : (strB (wdS m)).size ≤ 3 := by rw [strB_size]; unfold wdS; simp; omega
theorem clock_eq (r : Nat) : strB (dd (r / 3600)) ++ (⟨#[58]⟩ : ByteArray) ++ strB (dd (r % 3600 / 60)) ++ (⟨#[58]⟩ : ByteArray) ++ strB (dd (r % 60)) = strB (clockS r) := by
  unfold clockS
  rw [← strB_app2, ← strB_app2, ← strB_app2, ← strB_app2]; rfl
set_option maxHeartbeats 1000000 in
theorem timeText_any (r : Nat) (h : r < 86400) (w : World) :
    Calls Tryz.prog 150 #[.int .i64 (r : Int)] w fun e w' => e = .returned (.string (strB (clockS r))) ∧ w = w' := by
  have e := Lib.hid (clock_eq r)
  have z1 := sz_dd (r / 3600)
  have z2 := sz_dd (r % 3600 / 60)
  have z3 := sz_dd (r % 60)
  have H1 := fun W => twoDigits_any (r / 3600) (by omega) W
  have H2 := fun W => twoDigits_any (r % 3600 / 60) (by omega) W
  have H3 := fun W => twoDigits_any (r % 60) (by omega) W
  rw [Int.natCast_ediv] at H1
  rw [Int.natCast_ediv, Int.natCast_emod] at H2
  rw [Int.natCast_emod] at H3
  go_enter Tryz.func150, Tryz.ntmps150
  go_wp2_with fail
  refine (H1 _).mono ?_
  rintro e w' ⟨rfl, rfl⟩
  go_wp2_with fail
  refine (H2 _).mono ?_
  rintro e w' ⟨rfl, rfl⟩
  go_wp2_with fail
  refine (H3 _).mono ?_
  rintro e w' ⟨rfl, rfl⟩
  clear H1 H2 H3
  go_wp2_with fail
  go_ret
  exact ⟨congrArg (fun b => Ending.returned (.string b)) e.out, rfl⟩
end Go.Proofs.YtieolalohindgaaGreatDoor
