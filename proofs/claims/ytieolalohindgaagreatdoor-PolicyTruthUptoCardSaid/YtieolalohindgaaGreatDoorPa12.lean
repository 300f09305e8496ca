import Derived.Test.YtieolalohindgaaGreatDoorPa10
import Derived.Test.YtieolalohindgaaGreatDoorPa11
import Derived.Deep.RegionHeld3
import Derived.Deep.QuietTactic
import Derived.BigQuiet
import Derived.IntWalk
/- What Format returns: the date text of a second, or ErrRange. -/
namespace Go.Proofs.YtieolalohindgaaGreatDoor
open Go.RowKit

theorem Calls.quietly {P : Program} {f : FuncId} {args : Array Value} {v : Value} (h : ∀ w : World, Calls P f args w fun e w' => e = .returned v ∧ w = w') (w : World) (n : Nat) :
    Calls P f args (w.drewN n) fun e w'' => e = .returned v ∧ ∃ m, w'' = w.drewN m :=
  Calls.quiet_of_same ((h (w.drewN n)).mono fun _ _ ⟨he, hw⟩ => ⟨he, hw.symm⟩)
theorem ret2_str {a b : ByteArray} {v : Value} (h : a = b) : Ending.returned (.tuple #[.string a, v]) = .returned (.tuple #[.string b, v]) := by rw [h]
theorem itoa_in {k : Nat} {w wr : World} (y : Nat) (h1 : 1000 ≤ y) (h2 : y ≤ 9999) (hk : k < 12)
    (hS : wr.cell? ⟨1, k, none⟩ = some (.string (strB (moS (k + 1)))) ∧ EnvH wr ∧ Below w.heap.size w wr) :
    Calls Tryz.prog 148 #[.int .i64 (y : Int)] wr fun e w' => e = .returned (.string (strB (d4 y))) ∧ (w'.cell? ⟨1, k, none⟩ = some (.string (strB (moS (k + 1)))) ∧ EnvH w' ∧ Below w.heap.size w w') := by
  refine (itoa_year y h1 h2 wr hS.2.1).mono ?_
  rintro e w' ⟨rfl, hB⟩
  have hE := hS.2.1.below hB
  exact ⟨rfl, hE.mon k hk, hE, hS.2.2.trans (hB.mono hS.2.2.size)⟩
theorem date_eq (y m d : Nat) : strB (dd d) ++ (⟨#[32]⟩ : ByteArray) ++ strB (moS m) ++ (⟨#[32]⟩ : ByteArray) ++ strB (d4 y) = strB (dateS y m d) := by
  unfold dateS
  rw [← strB_app2, ← strB_app2, ← strB_app2, ← strB_app2]; rfl
theorem txt_eq (w y m d r : Nat) : strB (wdS w) ++ (⟨#[44, 32]⟩ : ByteArray) ++ strB (dateS y m d) ++ (⟨#[32]⟩ : ByteArray) ++ strB (clockS r) ++ (⟨#[32, 71, 77, 84]⟩ : ByteArray) = strB (txt w y m d r) := by
  unfold txt
  rw [← strB_app2, ← strB_app2, ← strB_app2, ← strB_app2, ← strB_app2]; rfl
theorem sz_date (y m d : Nat) : (strB (dateS y m d)).size ≤ 12 := by
  rw [strB_size]; unfold dateS; have := sz_mo m; rw [strB_size] at this; simp [dd, d4]; omega
theorem sz_clock (r : Nat) : (strB (clockS r)).size ≤ 8 := by rw [strB_size]; simp [clockS, dd]
set_option maxHeartbeats 400000 in
theorem format_no (n : Int) (w : World) (h : n < 0 ∨ 253402300799 < n) (hn : n ≤ 9223372036854775807) :
    Calls Tryz.prog 128 #[.int .i64 n] w fun e w' => e = .returned (.tuple #[.string ⟨#[]⟩, .iface 92 (.int .i64 1)]) ∧ w = w' := by
  rcases h with h | h
  · go_enter Tryz.func128, Tryz.ntmps128
    go_wp2_with fail
    go_ret2
    exact ⟨rfl, rfl⟩
  · have h0 : 0 ≤ n := by omega
    have HN := fun W => date_no (n / 86400) W (by omega)
    have HH := Lib.hid h
    clear h
    go_enter Tryz.func128, Tryz.ntmps128
    go_wp2_with fail
    refine (HN _).mono ?_
    rintro e w' ⟨rfl, rfl⟩
    clear HN
    go_wp2_with fail
    go_ret2
    exact ⟨rfl, rfl⟩
set_option maxHeartbeats 4000000 in
theorem format_yes (n : Nat) (l : List UInt8) (w : World) (hE : EnvH w) (hT : isT n l) :
    Calls Tryz.prog 128 #[.int .i64 (n : Int)] w fun e w' => e = .returned (.tuple #[.string (strB l), .nilIface]) ∧ Below w.heap.size w w' := by
  obtain ⟨hn, y, m, d, hD, rfl⟩ := hT
  have b := isD_bd hD
  obtain ⟨k, rfl⟩ : ∃ k, m = k + 1 := ⟨m - 1, by omega⟩
  have HDD := fun W => date_yes _ _ _ _ W hD
  rw [Int.natCast_ediv, Int.natCast_add] at HDD
  obtain ⟨hy1, hy2, hk, hd⟩ : 1000 ≤ y ∧ y ≤ 9999 ∧ k < 12 ∧ d < 100 := by omega
  have HDT := Lib.hid (date_eq y (k + 1) d)
  have HTT := Lib.hid (txt_eq ((n / 86400 + 4) % 7) y (k + 1) d (n % 86400))
  have HTD := Lib.hid (fun W => twoDigits_any d hd W)
  have HCL := Lib.hid (fun W => timeText_any (n % 86400) (by omega) W)
  rw [Int.natCast_emod] at HCL
  have HWD := Lib.hid (fun W => weekday_any ((n : Int) / 86400) W)
  obtain ⟨wd, hwd⟩ : ∃ wd : Nat, wd = (n / 86400 + 4) % 7 := ⟨_, rfl⟩
  have ewd : wdI ((n : Int) / 86400) = (wd : Int) := by unfold wdI; omega
  rw [ewd] at HWD
  have hw7 : wd < 7 := by omega
  rw [← hwd] at HTT ⊢
  have z1 : (strB (dd d)).size = 2 := by rw [strB_size]; rfl
  have z2 : (strB (moS (k + 1))).size = 3 := by rw [strB_size]; exact moS_len _ (by omega) (by omega)
  have z3 : (strB (d4 y)).size = 4 := by rw [strB_size]; rfl
  have z4 : (strB (dateS y (k + 1) d)).size = 11 := by rw [strB_size]; unfold dateS; have := moS_len (k + 1) (by omega) (by omega); simp [dd, d4, this]
  have z5 : (strB (clockS (n % 86400))).size = 8 := by rw [strB_size]; simp [clockS, dd]
  have z6 : (strB (wdS wd)).size = 3 := by rw [strB_size]; exact wdS_len _ hw7
  have k0 : (0 : Int) ≤ (k : Int) := by omega
  have k1 : (k : Int) < 12 := by omega
  clear hD b hwd ewd
  have hS : w.drew.cell? ⟨1, k, none⟩ = some (.string (strB (moS (k + 1)))) ∧ EnvH w.drew ∧ Below w.heap.size w w.drew := ⟨hE.mon k hk, hE.below (Below.refl _ _).drew, (Below.refl _ _).drew⟩
  go_enter Tryz.func128, Tryz.ntmps128
  go_wp2_with fail
  refine (HDD _).mono ?_
  rintro e w' ⟨rfl, rfl⟩
  clear HDD
  go_wp2_with fail
  have i1 : IntKind.i64.wrap (k : Int) = (k : Int) := IntWalk.i64_in _ (by omega)
  go_region_held3 (fun w' => w'.cell? ⟨1, k, none⟩ = some (.string (strB (moS (k + 1)))) ∧ EnvH w' ∧ Below w.heap.size w w')
    (first | (with_reducible exact h5) | (with_reducible exact hS))
    (first
      | (go_at_call 147; refine (HTD.out _).mono ?_; rintro e w' ⟨rfl, rfl⟩)
      | (go_at_call 148; refine (itoa_in y hy1 hy2 hk (by assumption)).mono ?_; rintro e w' ⟨rfl, h5⟩))
  obtain ⟨-, hE5, hB5⟩ := h5
  have hc := hE5.day wd hw7
  have HB := Lib.hid hB5
  have j0 : (0 : Int) ≤ (wd : Int) := by omega
  have j1 : (wd : Int) < 7 := by omega
  clear hE5 hB5 hS hE z4 k0 k1 i1 HTD
  go_wp2_with fail
  go_quiet ((first | (go_at_call 149; exact Calls.quietly HWD.out _ _) | (go_at_call 150; exact Calls.quietly HCL.out _ _)))
  go_wp2_with fail
  go_ret2
  exact ⟨ret2_str (by rw [HDT.out]; exact HTT.out), below_drewN HB.out _⟩
end Go.Proofs.YtieolalohindgaaGreatDoor
