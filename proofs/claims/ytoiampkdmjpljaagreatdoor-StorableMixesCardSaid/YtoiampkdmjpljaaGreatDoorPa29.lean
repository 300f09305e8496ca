import Derived.Test.YtoiampkdmjpljaaGreatDoorPa28
import Derived.Deep.RegionHeld3
import Derived.IntWalk
import Derived.Test.YtoiampkdmjpljaaGreatDoorPa17
import Derived.Test.YtoiampkdmjpljaaGreatDoorPa5
/- What the reference's Format returns: the date text. -/
namespace Go.Proofs.YtoiampkdmjpljaaGreatDoor
open Go.RowKit

theorem slice_wd (k : Nat) (h : k < 7) (w : World) : (Instr.slice 9 (.string ⟨#[83, 117, 110, 77, 111, 110, 84, 117, 101, 87, 101, 100, 84, 104, 117, 70, 114, 105, 83, 97, 116]⟩) (some (.int .i64 (3 * (k : Int)))) (some (.int .i64 (3 * (k : Int) + 3))) none).run Tryz.prog w = .ok (.string (strB (wdS k))) w := by
  rw [run_slice_string _ _ _ _ _ _ _ Tryz.underlying9 (by omega) (by omega) (by show _ ≤ ((21 : Nat) : Int); omega)]
  congr 2
  apply strB_ext
  rw [seg_list, show (3 * (k : Int)).toNat = 3 * k by omega, show (3 * (k : Int) + 3).toNat - 3 * k = 3 by omega]; rfl
theorem slice_mo (k : Nat) (h1 : 1 ≤ k) (h2 : k ≤ 12) (w : World) : (Instr.slice 9 (.string ⟨#[74, 97, 110, 70, 101, 98, 77, 97, 114, 65, 112, 114, 77, 97, 121, 74, 117, 110, 74, 117, 108, 65, 117, 103, 83, 101, 112, 79, 99, 116, 78, 111, 118, 68, 101, 99]⟩) (some (.int .i64 (3 * (k : Int) - 3))) (some (.int .i64 (3 * (k : Int)))) none).run Tryz.prog w = .ok (.string (strB (moS k))) w := by
  rw [run_slice_string _ _ _ _ _ _ _ Tryz.underlying9 (by omega) (by omega) (by show _ ≤ ((36 : Nat) : Int); omega)]
  congr 2
  apply strB_ext
  rw [seg_list, show (3 * (k : Int) - 3).toNat = 3 * k - 3 by omega, show (3 * (k : Int)).toNat - (3 * k - 3) = 3 by omega]; rfl
theorem dig2_in {w wr : World} (n : Nat) (h : n < 100) (hS : Below w.heap.size w wr) :
    Calls Tryz.prog 138 #[.int .i64 (n : Int), .int .i64 2] wr fun e w' => e = .returned (.string (strB (dd n))) ∧ Below w.heap.size w w' := by
  refine (digits_any n 2 wr (by omega) (by omega)).mono ?_
  rintro e w' ⟨rfl, hB⟩
  exact ⟨by rw [dgs_2], hS.trans (hB.mono hS.size)⟩
theorem dig4_in {w wr : World} (n : Nat) (h : n < 10000) (hS : Below w.heap.size w wr) :
    Calls Tryz.prog 138 #[.int .i64 (n : Int), .int .i64 4] wr fun e w' => e = .returned (.string (strB (d4 n))) ∧ Below w.heap.size w w' := by
  refine (digits_any n 4 wr (by omega) (by omega)).mono ?_
  rintro e w' ⟨rfl, hB⟩
  exact ⟨by rw [dgs_4], hS.trans (hB.mono hS.size)⟩
theorem refTxt_eq (w y m d r : Nat) : strB (wdS w) ++ (⟨#[44, 32]⟩ : ByteArray) ++ strB (dd d) ++ (⟨#[32]⟩ : ByteArray) ++ strB (moS m) ++ (⟨#[32]⟩ : ByteArray) ++ strB (d4 y) ++ (⟨#[32]⟩ : ByteArray) ++ strB (clockS r) ++ (⟨#[32, 71, 77, 84]⟩ : ByteArray) = strB (txt w y m d r) := by
  apply strB_ext
  unfold txt dateS strB
  simp
set_option maxHeartbeats 4000000 in
theorem refFormat_yes (n : Nat) (l : List UInt8) (w : World) (hT : isT n l) :
    Calls Tryz.prog 113 #[.int .i64 (n : Int)] w fun e w' => e = .returned (.string (strB l)) ∧ Below w.heap.size w w' := by
  obtain ⟨hn, y, m, d, hD, rfl⟩ := hT
  have b := isD_bd hD
  have HDD := Lib.hid (fun W => refDate_yes _ _ _ _ W hD)
  rw [Int.natCast_ediv] at HDD
  have HWD := Lib.hid (fun W => refWeekday_any ((n : Int) / 86400) W)
  obtain ⟨wd, hwd⟩ : ∃ wd : Nat, wd = (n / 86400 + 4) % 7 := ⟨_, rfl⟩
  have ewd : wdI ((n : Int) / 86400) = (wd : Int) := by unfold wdI; omega
  rw [ewd] at HWD
  have hw7 : wd < 7 := by omega
  rw [← hwd]
  obtain ⟨r, hr⟩ : ∃ r : Nat, n % 86400 = r := ⟨_, rfl⟩
  have hr1 : r < 86400 := by omega
  have er : (n : Int) % 86400 = (r : Int) := by omega
  rw [hr]
  have HC := Lib.hid (clock_eq r)
  have e60 : r % 3600 / 60 = r / 60 % 60 := by omega
  rw [e60] at HC
  have H1 := Lib.hid (fun W => digits_any (r / 3600) 2 W (by omega) (by omega))
  have H2 := Lib.hid (fun W => digits_any (r / 60 % 60) 2 W (by omega) (by omega))
  have H3 := Lib.hid (fun W => digits_any (r % 60) 2 W (by omega) (by omega))
  rw [dgs_2, Int.natCast_ediv] at H1
  rw [dgs_2, Int.natCast_emod, Int.natCast_ediv] at H2
  rw [dgs_2, Int.natCast_emod] at H3
  have ER := Lib.hid er
  have z1 : (strB (dd (r / 3600))).size = 2 := by rw [strB_size]; rfl
  have z2 : (strB (dd (r / 60 % 60))).size = 2 := by rw [strB_size]; rfl
  have z3 : (strB (dd (r % 60))).size = 2 := by rw [strB_size]; rfl
  obtain ⟨hy1, hy2, hm1, hm2, hd1, hd2⟩ : 1000 ≤ y ∧ y ≤ 9999 ∧ 1 ≤ m ∧ m ≤ 12 ∧ 1 ≤ d ∧ d < 100 := by omega
  clear hD b hwd ewd hr er e60
  go_enter Tryz.func113, Tryz.ntmps113
  go_wp2_with fail
  refine (HDD.out _).mono ?_
  rintro e w' ⟨rfl, rfl⟩
  go_wp2_with fail
  refine (HWD.out _).mono ?_
  rintro e w' ⟨rfl, rfl⟩
  clear HDD HWD
  have er := ER.out
  go_wp2_with fail
  refine (H1.out _).mono ?_
  rintro e w1 ⟨rfl, hB1⟩
  have HB1 := Lib.hid hB1
  clear hB1
  go_wp2_with fail
  refine (H2.out _).mono ?_
  rintro e w2 ⟨rfl, hB2⟩
  have HB2 := Lib.hid (HB1.out.trans (hB2.mono HB1.out.size))
  clear hB2 HB1
  go_wp2_with fail
  refine (H3.out _).mono ?_
  rintro e w3 ⟨rfl, hB3⟩
  have HB3 := Lib.hid (HB2.out.trans (hB3.mono HB2.out.size))
  clear hB3 HB2 H1 H2 H3
  go_wp2_with fail
  have hS := HB3.out.drew
  have z4 : (strB (dd d)).size = 2 := by rw [strB_size]; rfl
  have z5 : (strB (d4 y)).size = 4 := by rw [strB_size]; rfl
  have a1 : IntKind.i64.wrap (3 * (wd : Int)) = 3 * (wd : Int) := IntWalk.i64_in _ (by omega)
  have a2 : IntKind.i64.wrap (3 * (wd : Int) + 3) = 3 * (wd : Int) + 3 := IntWalk.i64_in _ (by omega)
  have a3 : IntKind.i64.wrap (3 * (m : Int)) = 3 * (m : Int) := IntWalk.i64_in _ (by omega)
  have a4 : IntKind.i64.wrap (3 * (m : Int) - 3) = 3 * (m : Int) - 3 := IntWalk.i64_in _ (by omega)
  have s1 : ∀ w : World, (Instr.slice 9 (.string ⟨#[83, 117, 110, 77, 111, 110, 84, 117, 101, 87, 101, 100, 84, 104, 117, 70, 114, 105, 83, 97, 116]⟩) (some (.int .i64 (3 * (wd : Int)))) (some (.int .i64 (3 * (wd : Int) + 3))) none).run Tryz.prog w = .ok (.string (strB (wdS wd))) w := fun w => slice_wd wd hw7 w
  have s2 : ∀ w : World, (Instr.slice 9 (.string ⟨#[74, 97, 110, 70, 101, 98, 77, 97, 114, 65, 112, 114, 77, 97, 121, 74, 117, 110, 74, 117, 108, 65, 117, 103, 83, 101, 112, 79, 99, 116, 78, 111, 118, 68, 101, 99]⟩) (some (.int .i64 (3 * (m : Int) - 3))) (some (.int .i64 (3 * (m : Int)))) none).run Tryz.prog w = .ok (.string (strB (moS m))) w := fun w => slice_mo m hm1 hm2 w
  have z6 : (strB (wdS wd)).size = 3 := by rw [strB_size]; exact wdS_len _ hw7
  have z7 : (strB (moS m)).size = 3 := by rw [strB_size]; exact moS_len _ hm1 hm2
  clear er hw7 hm1 hm2
  go_region_held3 (fun w' => Below w.heap.size w w')
    (first | (with_reducible exact h5) | (with_reducible exact hS))
    (first
      | (go_at_call_of 138 (Value.int IntKind.i64 (d : Int)); refine (dig2_in d hd2 (by assumption)).mono ?_; rintro e w' ⟨rfl, h5⟩)
      | (go_at_call_of 138 (Value.int IntKind.i64 (y : Int)); refine (dig4_in y (by omega) (by assumption)).mono ?_; rintro e w' ⟨rfl, h5⟩))
  go_wp2_with fail
  go_ret
  exact ⟨congrArg (fun b => Ending.returned (.string b)) (by rw [HC.out]; exact refTxt_eq _ _ _ _ _), h5⟩
end Go.Proofs.YtoiampkdmjpljaaGreatDoor

/- What the reference's Parse returns. -/
namespace Go.Proofs.YtoiampkdmjpljaaGreatDoor
open Go.RowKit

/-- What the parts of a date text make, as the reference reads them. -/
theorem isT_rn {n k : Nat} {l : List UInt8} (h : isT n l) (hk : isMo (part l 8 11) k) :
    isD (rn (part l 12 16)) (k : Int) (rn (part l 5 7)) ((n / 86400 : Nat) : Int) ∧ rn (part l 17 19) = ((n % 86400 / 3600 : Nat) : Int) ∧ rn (part l 20 22) = ((n % 86400 % 3600 / 60 : Nat) : Int) ∧ rn (part l 23 25) = ((n % 86400 % 60 : Nat) : Int) := by
  obtain ⟨_, y, m, d, hD, p1, p2, p3, p4, p5, p6⟩ := isT_parts h
  have b := isD_bd hD
  obtain rfl := isMo_of hk (by omega) (by omega) p2
  rw [p1, p3, p4, p5, p6, rn_d4 y (by omega), rn_dd d (by omega), rn_dd _ (by omega), rn_dd _ (by omega), rn_dd _ (by omega)]
  exact ⟨hD, rfl, rfl, rfl⟩
/-- What the reference's Parse returns of a text: the second of which it is the date text, or false. -/
def ParseR (l : List UInt8) (e : Ending) : Prop := (∃ n : Nat, isT n l ∧ e = .returned (.tuple #[.int .i64 (n : Int), .bool true])) ∨ ((∀ n, ¬ isT n l) ∧ ∃ v, e = .returned (.tuple #[v, .bool false]))
theorem refNum_part (s : ByteArray) (l : List UInt8) (i j : Nat) (hl : s.data.toList = l) (hz : (s.extract i j).size ≤ 4) (w : World) :
    Calls Tryz.prog 112 #[.string (s.extract i j)] w fun e w' => e = .returned (.int .i64 (rn (part l i j))) ∧ w = w' := by
  refine (refNumber_any (s.extract i j) w hz).mono ?_
  rintro e w' ⟨rfl, rfl⟩
  exact ⟨by rw [seg_list, hl]; rfl, rfl⟩
theorem drewN_ex {w wr : World} (h : ∃ n, wr = w.drewN n) (k : Nat) : ∃ n, wr.drewN k = w.drewN n := by
  obtain ⟨n, rfl⟩ := h
  exact ⟨n + k, World.drewN_drewN ..⟩
theorem below_of_drewN {w wr : World} (h : ∃ n, wr = w.drewN n) : Below w.heap.size w wr := by
  obtain ⟨n, rfl⟩ := h
  exact below_drewN (Below.refl _ _) n
set_option maxHeartbeats 400000 in
theorem refParse_short (s : ByteArray) (w : World) (hs : s.size ≠ 29) (_hm : s.size ≤ maxLen) :
    Calls Tryz.prog 88 #[.string s] w fun e w' => ParseR s.data.toList e ∧ w = w' := by
  have HN := Lib.hid (show ∀ n, ¬ isT n s.data.toList from fun n h => hs (by have := (isT_parts h).1; simpa using this))
  have hb : ((s.size : Int) != 29) = true := by simp; omega
  unfold maxLen at _hm
  clear hs
  go_enter Tryz.func88, Tryz.ntmps88
  go_wp2_with fail
  go_ret2
  exact ⟨.inr ⟨HN.out, _, rfl⟩, rfl⟩
set_option maxHeartbeats 4000000 in
theorem refParse_13 (s : ByteArray) (w : World) (l : List UInt8) (hl : s.data.toList = l) (hs : s.size = 29) (hk : isMo (part l 8 11) 0) :
    Calls Tryz.prog 88 #[.string s] w fun e w' => ParseR l e ∧ Below w.heap.size w w' := by
  have HL := Lib.hid hl
  have hne : ∀ j, 1 ≤ j → j ≤ 12 → moS j ≠ part l 8 11 := by
    rcases hk with ⟨a, _, _⟩ | ⟨_, c⟩
    · omega
    · exact c
  have HN := Lib.hid (show ∀ n, ¬ isT n l from fun n h => by have := (isT_rn h hk).1; have := this.2.2.1; omega)
  have HNE := Lib.hid hne
  have hz : ∀ i j, (s.extract i j).size ≤ j - i := fun i j => by rw [ByteArray.size_extract]; omega
  have Q1 := Lib.hid (fun w => refNum_part s l 12 16 hl (by have := hz 12 16; omega) w)
  have Q3 := Lib.hid (fun w => refNum_part s l 5 7 hl (by have := hz 5 7; omega) w)
  have Q4 := Lib.hid (fun w => refNum_part s l 17 19 hl (by have := hz 17 19; omega) w)
  have Q5 := Lib.hid (fun w => refNum_part s l 20 22 hl (by have := hz 20 22; omega) w)
  have Q6 := Lib.hid (fun w => refNum_part s l 23 25 hl (by have := hz 23 25; omega) w)
  have QD := Lib.hid (fun w => refDay_no (rn (part l 12 16)) 13 (rn (part l 5 7)) w (vld_no (by omega)))
  have HP := Lib.hid (show (s.extract 8 11) = strB (part l 8 11) from strB_ext (by rw [seg_list, hl]; rfl))
  clear hk hne hl hz
  go_enter Tryz.func88, Tryz.ntmps88
  go_wp2_with fail
  go_loopw [4] (fun m wr => ∃ k : Nat, 1 ≤ k ∧ k ≤ 13 ∧ m = .int .i64 (k : Int) ∧ ∃ n, wr = w.drewN n) (fun m _ => 13 - (intOf m).toNat)
  case atStart => exact ⟨1, by omega, by omega, rfl, 0, rfl⟩
  case round =>
    obtain ⟨k, hk1, hk2, rfl, hW⟩ := hrel
    have HW := Lib.hid hW
    clear hW
    by_cases hlt : k < 13
    · have s2 : ∀ w : World, (Instr.slice 9 (.string ⟨#[74, 97, 110, 70, 101, 98, 77, 97, 114, 65, 112, 114, 77, 97, 121, 74, 117, 110, 74, 117, 108, 65, 117, 103, 83, 101, 112, 79, 99, 116, 78, 111, 118, 68, 101, 99]⟩) (some (.int .i64 (3 * (k : Int) - 3))) (some (.int .i64 (3 * (k : Int)))) none).run Tryz.prog w = .ok (.string (strB (moS k))) w := fun w => slice_mo k hk1 (by omega) w
      have a3 : IntKind.i64.wrap (3 * (k : Int)) = 3 * (k : Int) := IntWalk.i64_in _ (by omega)
      have a4 : IntKind.i64.wrap (3 * (k : Int) - 3) = 3 * (k : Int) - 3 := IntWalk.i64_in _ (by omega)
      have hd : ((strB (moS k)).toList == (s.extract 8 11).toList) = false := by
        rw [beq_eq_false_iff_ne]
        intro h
        rw [HP.out] at h
        exact HNE.out k hk1 (by omega) ((strB_eq h).trans (strB_list _))
      have hd1 : decide ((k : Int) < 13) = true := by simp; omega
      go_wp2_with fail
      go_quiet (fail)
      go_wp2_with fail
      go_roundw
      case rel => exact ⟨k + 1, by omega, by omega, by go_num, drewN_ex HW.out _⟩
      case measure => simp [intOf]; omega
    · obtain rfl : k = 13 := by omega
      have hd1 : decide ((13 : Int) < 13) = false := by decide
      go_wp2_with fail
      go_quiet (fail)
      have HW2 := Lib.hid (drewN_ex HW.out nq)
      clear HW
      generalize wr.drewN nq = W2 at HW2 ⊢
      go_wp2_with fail
      go_quiet ((first | (go_at_call_of 112 (Value.string (s.extract 12 16)); exact Calls.quietly Q1.out _ _) | (go_at_call_of 112 (Value.string (s.extract 5 7)); exact Calls.quietly Q3.out _ _) | (go_at_call 111; exact Calls.quietly QD.out _ _)))
      have HW3 := Lib.hid (drewN_ex HW2.out nq)
      clear HW2
      generalize W2.drewN nq = W3 at HW3 ⊢
      go_wp2_with fail
      go_quiet ((first | (go_at_call_of 112 (Value.string (s.extract 17 19)); exact Calls.quietly Q4.out _ _) | (go_at_call_of 112 (Value.string (s.extract 20 22)); exact Calls.quietly Q5.out _ _) | (go_at_call_of 112 (Value.string (s.extract 23 25)); exact Calls.quietly Q6.out _ _)))
      have HW4 := Lib.hid (drewN_ex HW3.out nq)
      clear HW3
      generalize W3.drewN nq = W4 at HW4 ⊢
      go_wp2_with fail
      go_ret2
      exact ⟨.inr ⟨HN.out, _, rfl⟩, below_of_drewN HW4.out⟩
set_option maxHeartbeats 4000000 in
theorem refParse_no (s : ByteArray) (w : World) (l : List UInt8) (k : Nat) (hl : s.data.toList = l) (hs : s.size = 29) (hk1 : 1 ≤ k) (hk2 : k ≤ 12) (hke : moS k = part l 8 11) (hv : vldB (rn (part l 12 16)) (k : Int) (rn (part l 5 7)) = false) :
    Calls Tryz.prog 88 #[.string s] w fun e w' => ParseR l e ∧ Below w.heap.size w w' := by
  have hk : isMo (part l 8 11) k := .inl ⟨hk1, hk2, hke⟩
  have HR := Lib.hid (fun n (h : isT n l) => isT_rn h hk)
  have HK := Lib.hid hke
  have hz : ∀ i j, (s.extract i j).size ≤ j - i := fun i j => by rw [ByteArray.size_extract]; omega
  have hll : l.length = 29 := by rw [← hl]; simpa using hs
  have Q1 := Lib.hid (fun w => refNum_part s l 12 16 hl (by have := hz 12 16; omega) w)
  have Q3 := Lib.hid (fun w => refNum_part s l 5 7 hl (by have := hz 5 7; omega) w)
  have Q4 := Lib.hid (fun w => refNum_part s l 17 19 hl (by have := hz 17 19; omega) w)
  have Q5 := Lib.hid (fun w => refNum_part s l 20 22 hl (by have := hz 20 22; omega) w)
  have Q6 := Lib.hid (fun w => refNum_part s l 23 25 hl (by have := hz 23 25; omega) w)
  have HP := Lib.hid (show (s.extract 8 11) = strB (part l 8 11) from strB_ext (by rw [seg_list, hl]; rfl))
  have HN := Lib.hid (show ∀ n, ¬ isT n l from fun n h => by have := vld_of (isT_rn h hk).1; rw [hv] at this; cases this)
  have QD := Lib.hid (fun w => refDay_no (rn (part l 12 16)) (k : Int) (rn (part l 5 7)) w hv)
  clear hk hl hz hll hke hv HR
  go_enter Tryz.func88, Tryz.ntmps88
  go_wp2_with fail
  go_loopw [4] (fun m wr => ∃ j : Nat, 1 ≤ j ∧ j ≤ k ∧ m = .int .i64 (j : Int) ∧ ∃ n, wr = w.drewN n) (fun m _ => 13 - (intOf m).toNat)
  case atStart => exact ⟨1, by omega, hk1, rfl, 0, rfl⟩
  case round =>
    obtain ⟨j, hj1, hj2, rfl, hW⟩ := hrel
    have HW := Lib.hid hW
    clear hW
    have s2 : ∀ w : World, (Instr.slice 9 (.string ⟨#[74, 97, 110, 70, 101, 98, 77, 97, 114, 65, 112, 114, 77, 97, 121, 74, 117, 110, 74, 117, 108, 65, 117, 103, 83, 101, 112, 79, 99, 116, 78, 111, 118, 68, 101, 99]⟩) (some (.int .i64 (3 * (j : Int) - 3))) (some (.int .i64 (3 * (j : Int)))) none).run Tryz.prog w = .ok (.string (strB (moS j))) w := fun w => slice_mo j hj1 (by omega) w
    have a3 : IntKind.i64.wrap (3 * (j : Int)) = 3 * (j : Int) := IntWalk.i64_in _ (by omega)
    have a4 : IntKind.i64.wrap (3 * (j : Int) - 3) = 3 * (j : Int) - 3 := IntWalk.i64_in _ (by omega)
    have hd1 : decide ((j : Int) < 13) = true := by simp; omega
    by_cases hlt : j < k
    · have hd : ((strB (moS j)).toList == (s.extract 8 11).toList) = false := by
        rw [beq_eq_false_iff_ne]
        intro h
        rw [HP.out] at h
        have e := (strB_eq h).trans (strB_list _)
        rw [← HK.out] at e
        have := moS_inj j k hj1 (by omega) hk1 hk2 e
        omega
      go_wp2_with fail
      go_quiet (fail)
      go_wp2_with fail
      go_roundw
      case rel => exact ⟨j + 1, by omega, by omega, by go_num, drewN_ex HW.out _⟩
      case measure => simp [intOf]; omega
    · obtain rfl : j = k := by omega
      have hd : ((strB (moS j)).toList == (s.extract 8 11).toList) = true := by rw [HP.out, HK.out]; simp
      go_wp2_with fail
      go_quiet (fail)
      have HW2 := Lib.hid (drewN_ex HW.out nq)
      clear HW s2 a3 a4 hd hd1
      generalize wr.drewN nq = W2 at HW2 ⊢
      go_wp2_with fail
      go_quiet ((first | (go_at_call_of 112 (Value.string (s.extract 12 16)); exact Calls.quietly Q1.out _ _) | (go_at_call_of 112 (Value.string (s.extract 5 7)); exact Calls.quietly Q3.out _ _) | (go_at_call 111; exact Calls.quietly QD.out _ _)))
      have HW3 := Lib.hid (drewN_ex HW2.out nq)
      clear HW2
      generalize W2.drewN nq = W3 at HW3 ⊢
      go_wp2_with fail
      go_quiet ((first | (go_at_call_of 112 (Value.string (s.extract 17 19)); exact Calls.quietly Q4.out _ _) | (go_at_call_of 112 (Value.string (s.extract 20 22)); exact Calls.quietly Q5.out _ _) | (go_at_call_of 112 (Value.string (s.extract 23 25)); exact Calls.quietly Q6.out _ _)))
      have HW4 := Lib.hid (drewN_ex HW3.out nq)
      clear HW3
      generalize W3.drewN nq = W4 at HW4 ⊢
      go_wp2_with fail
      go_ret2
      exact ⟨.inr ⟨HN.out, _, rfl⟩, below_of_drewN HW4.out⟩
set_option maxHeartbeats 8000000 in
theorem refParse_yes (s : ByteArray) (w : World) (l : List UInt8) (k : Nat) (hl : s.data.toList = l) (hs : s.size = 29) (hk1 : 1 ≤ k) (hk2 : k ≤ 12) (hke : moS k = part l 8 11) (N : Int) (hD : isD (rn (part l 12 16)) (k : Int) (rn (part l 5 7)) N) :
    Calls Tryz.prog 88 #[.string s] w fun e w' => ParseR l e ∧ Below w.heap.size w w' := by
  have hk : isMo (part l 8 11) k := .inl ⟨hk1, hk2, hke⟩
  have HR := Lib.hid (fun n (h : isT n l) => isT_rn h hk)
  have HK := Lib.hid hke
  have hz : ∀ i j, (s.extract i j).size ≤ j - i := fun i j => by rw [ByteArray.size_extract]; omega
  have hll : l.length = 29 := by rw [← hl]; simpa using hs
  have Q1 := Lib.hid (fun w => refNum_part s l 12 16 hl (by have := hz 12 16; omega) w)
  have Q3 := Lib.hid (fun w => refNum_part s l 5 7 hl (by have := hz 5 7; omega) w)
  have Q4 := Lib.hid (fun w => refNum_part s l 17 19 hl (by have := hz 17 19; omega) w)
  have Q5 := Lib.hid (fun w => refNum_part s l 20 22 hl (by have := hz 20 22; omega) w)
  have Q6 := Lib.hid (fun w => refNum_part s l 23 25 hl (by have := hz 23 25; omega) w)
  have HP := Lib.hid (show (s.extract 8 11) = strB (part l 8 11) from strB_ext (by rw [seg_list, hl]; rfl))
  have QD := Lib.hid (fun w => refDay_yes _ _ _ _ w hD)
  have bh := rn_2 (part l 17 19) (part_len l 17 19 (by omega) (by omega))
  have bm := rn_2 (part l 20 22) (part_len l 20 22 (by omega) (by omega))
  have bs := rn_2 (part l 23 25) (part_len l 23 25 (by omega) (by omega))
  have bN := isD_bd hD
  have HX : Hid (∀ n : Nat, isT n l → ((n / 86400 : Nat) : Int) = N ∧ rn (part l 17 19) = ((n % 86400 / 3600 : Nat) : Int) ∧ rn (part l 20 22) = ((n % 86400 % 3600 / 60 : Nat) : Int) ∧ rn (part l 23 25) = ((n % 86400 % 60 : Nat) : Int)) := fun n h => by
    obtain ⟨g1, g2⟩ := HR.out n h
    exact ⟨by rw [g1.2.2.2.2.2.2, hD.2.2.2.2.2.2], g2⟩
  obtain ⟨b0, b1⟩ : 0 ≤ N ∧ N ≤ 2932896 := by omega
  have HL := Lib.hid hl
  obtain ⟨H, hH⟩ : ∃ H, rn (part l 17 19) = H := ⟨_, rfl⟩
  obtain ⟨M, hM⟩ : ∃ M, rn (part l 20 22) = M := ⟨_, rfl⟩
  obtain ⟨C, hC⟩ : ∃ C, rn (part l 23 25) = C := ⟨_, rfl⟩
  rw [hH] at HX Q4 bh
  rw [hM] at HX Q5 bm
  rw [hC] at HX Q6 bs
  clear hk hl hz hll hke hD bN HR hH hM hC
  go_enter Tryz.func88, Tryz.ntmps88
  go_wp2_with fail
  go_loopw [4] (fun m wr => ∃ j : Nat, 1 ≤ j ∧ j ≤ k ∧ m = .int .i64 (j : Int) ∧ ∃ n, wr = w.drewN n) (fun m _ => 13 - (intOf m).toNat)
  case atStart => exact ⟨1, by omega, hk1, rfl, 0, rfl⟩
  case round =>
    obtain ⟨j, hj1, hj2, rfl, hW⟩ := hrel
    have HW := Lib.hid hW
    clear hW
    have s2 : ∀ w : World, (Instr.slice 9 (.string ⟨#[74, 97, 110, 70, 101, 98, 77, 97, 114, 65, 112, 114, 77, 97, 121, 74, 117, 110, 74, 117, 108, 65, 117, 103, 83, 101, 112, 79, 99, 116, 78, 111, 118, 68, 101, 99]⟩) (some (.int .i64 (3 * (j : Int) - 3))) (some (.int .i64 (3 * (j : Int)))) none).run Tryz.prog w = .ok (.string (strB (moS j))) w := fun w => slice_mo j hj1 (by omega) w
    have a3 : IntKind.i64.wrap (3 * (j : Int)) = 3 * (j : Int) := IntWalk.i64_in _ (by omega)
    have a4 : IntKind.i64.wrap (3 * (j : Int) - 3) = 3 * (j : Int) - 3 := IntWalk.i64_in _ (by omega)
    have hd1 : decide ((j : Int) < 13) = true := by simp; omega
    by_cases hlt : j < k
    · have hd : ((strB (moS j)).toList == (s.extract 8 11).toList) = false := by
        rw [beq_eq_false_iff_ne]
        intro h
        rw [HP.out] at h
        have e := (strB_eq h).trans (strB_list _)
        rw [← HK.out] at e
        have := moS_inj j k hj1 (by omega) hk1 hk2 e
        omega
      go_wp2_with fail
      go_quiet (fail)
      go_wp2_with fail
      go_roundw
      case rel => exact ⟨j + 1, by omega, by omega, by go_num, drewN_ex HW.out _⟩
      case measure => simp [intOf]; omega
    · obtain rfl : j = k := by omega
      have hd : ((strB (moS j)).toList == (s.extract 8 11).toList) = true := by rw [HP.out, HK.out]; simp
      go_wp2_with fail
      go_quiet (fail)
      have HW2 := Lib.hid (drewN_ex HW.out nq)
      clear HW s2 a3 a4 hd hd1
      generalize wr.drewN nq = W2 at HW2 ⊢
      go_wp2_with fail
      go_quiet ((first | (go_at_call_of 112 (Value.string (s.extract 12 16)); exact Calls.quietly Q1.out _ _) | (go_at_call_of 112 (Value.string (s.extract 5 7)); exact Calls.quietly Q3.out _ _) | (go_at_call 111; exact Calls.quietly QD.out _ _)))
      have HW3 := Lib.hid (drewN_ex HW2.out nq)
      clear HW2
      generalize W2.drewN nq = W3 at HW3 ⊢
      go_wp2_with fail
      go_quiet ((first | (go_at_call_of 112 (Value.string (s.extract 17 19)); exact Calls.quietly Q4.out _ _) | (go_at_call_of 112 (Value.string (s.extract 20 22)); exact Calls.quietly Q5.out _ _) | (go_at_call_of 112 (Value.string (s.extract 23 25)); exact Calls.quietly Q6.out _ _)))
      have HW4 := Lib.hid (drewN_ex HW3.out nq)
      clear HW3
      generalize W3.drewN nq = W4 at HW4 ⊢
      clear Q1 Q3 Q4 Q5 Q6 QD HP
      by_cases c1 : H < 0
      · have HN := Lib.hid (show ∀ n, ¬ isT n l from fun n h => by have := HX.out n h; omega)
        go_wp2_with fail
        go_ret2
        exact ⟨.inr ⟨HN.out, _, rfl⟩, below_of_drewN HW4.out⟩
      by_cases c2 : 23 < H
      · have HN := Lib.hid (show ∀ n, ¬ isT n l from fun n h => by have := HX.out n h; omega)
        go_wp2_with fail
        go_ret2
        exact ⟨.inr ⟨HN.out, _, rfl⟩, below_of_drewN HW4.out⟩
      by_cases c3 : M < 0
      · have HN := Lib.hid (show ∀ n, ¬ isT n l from fun n h => by have := HX.out n h; omega)
        go_wp2_with fail
        go_ret2
        exact ⟨.inr ⟨HN.out, _, rfl⟩, below_of_drewN HW4.out⟩
      by_cases c4 : 59 < M
      · have HN := Lib.hid (show ∀ n, ¬ isT n l from fun n h => by have := HX.out n h; omega)
        go_wp2_with fail
        go_ret2
        exact ⟨.inr ⟨HN.out, _, rfl⟩, below_of_drewN HW4.out⟩
      by_cases c5 : C < 0
      · have HN := Lib.hid (show ∀ n, ¬ isT n l from fun n h => by have := HX.out n h; omega)
        go_wp2_with fail
        go_ret2
        exact ⟨.inr ⟨HN.out, _, rfl⟩, below_of_drewN HW4.out⟩
      by_cases c6 : 59 < C
      · have HN := Lib.hid (show ∀ n, ¬ isT n l from fun n h => by have := HX.out n h; omega)
        go_wp2_with fail
        go_ret2
        exact ⟨.inr ⟨HN.out, _, rfl⟩, below_of_drewN HW4.out⟩
      obtain ⟨x, hx⟩ : ∃ x : Nat, 86400 * N + 3600 * H + 60 * M + C = x := ⟨(86400 * N + 3600 * H + 60 * M + C).toNat, by omega⟩
      obtain ⟨t, ht⟩ := isT_ex x (by omega)
      have HF := Lib.hid (fun W => refFormat_yes x t W ht)
      have HX2 := Lib.hid (show ∀ n, isT n l → n = x from fun n h => by have := HX.out n h; omega)
      rw [← hx] at HF
      have HXX := Lib.hid hx
      clear hx
      by_cases he : t = l
      · subst he
        have HT := Lib.hid ht
        have hd : ((strB t).toList == s.toList) = true := by
          have : strB t = s := by rw [← HL.out, strB_of]
          rw [this]; simp
        clear ht
        go_wp2_with fail
        refine (HF.out _).mono ?_
        rintro e w' ⟨rfl, hB⟩
        have HB := Lib.hid hB
        clear hB
        go_wp2_with fail
        go_ret2
        exact ⟨.inl ⟨x, HT.out, ret2_int HXX.out⟩, (below_of_drewN HW4.out).trans (HB.out.mono (below_of_drewN HW4.out).size)⟩
      · have HT := Lib.hid ht
        have HN := Lib.hid (show ∀ n, ¬ isT n l from fun n h => by
          have e := HX2.out n h
          subst e
          exact he (isT_uniq ht h))
        have hd : ((strB t).toList == s.toList) = false := by
          rw [beq_eq_false_iff_ne]
          intro h
          exact he ((strB_eq h).trans HL.out)
        clear ht he
        go_wp2_with fail
        refine (HF.out _).mono ?_
        rintro e w' ⟨rfl, hB⟩
        have HB := Lib.hid hB
        clear hB
        go_wp2_with fail
        go_ret2
        exact ⟨.inr ⟨HN.out, _, rfl⟩, (below_of_drewN HW4.out).trans (HB.out.mono (below_of_drewN HW4.out).size)⟩
theorem refParse_any (s : ByteArray) (w : World) (hs : s.size = 29) :
    Calls Tryz.prog 88 #[.string s] w fun e w' => ParseR s.data.toList e ∧ Below w.heap.size w w' := by
  obtain ⟨k, hk⟩ := isMo_ex (part s.data.toList 8 11)
  rcases hk with ⟨h1, h2, h3⟩ | ⟨rfl, h2⟩
  · cases hv : vldB (rn (part s.data.toList 12 16)) (k : Int) (rn (part s.data.toList 5 7)) with
    | false => exact refParse_no s w _ k rfl hs h1 h2 h3 hv
    | true => exact refParse_yes s w _ k rfl hs h1 h2 h3 _ (isD_of hv)
  · exact refParse_13 s w _ rfl hs (.inr ⟨rfl, h2⟩)
end Go.Proofs.YtoiampkdmjpljaaGreatDoor

/- What the reference's Parse returns, said by the date that a text is. -/
namespace Go.Proofs.YtoiampkdmjpljaaGreatDoor
open Go.RowKit

theorem hRefParse_any (l : List UInt8) (d : Option Nat) (hd : DateIs l d) (w : World) (hl : l.length ≤ 1000000) :
    Calls Tryz.prog 88 #[.string (strB l)] w fun e w' => ∃ x, e = .returned (.tuple #[x, .bool d.isSome]) ∧ (∀ n, d = some n → x = .int .i64 (n : Int)) ∧ Below w.heap.size w w' := by
  have hv : ∀ e, ParseR (strB l).data.toList e → ∃ x, e = .returned (.tuple #[x, .bool d.isSome]) ∧ (∀ n, d = some n → x = .int .i64 (n : Int)) := by
    intro e h
    rw [strB_list] at h
    rcases h with ⟨n, hn, rfl⟩ | ⟨hn, v, rfl⟩
    · have : d = some n := hd.uniq (e := some n) hn
      subst this; exact ⟨_, rfl, fun k hk => by cases hk; rfl⟩
    · have : d = none := hd.uniq (e := none) hn
      subst this; exact ⟨v, rfl, fun k hk => by cases hk⟩
  by_cases hs : (strB l).size = 29
  · refine (refParse_any (strB l) w hs).mono ?_
    rintro e w' ⟨h, hB⟩
    obtain ⟨x, hx, hy⟩ := hv e h
    exact ⟨x, hx, hy, hB⟩
  · refine (refParse_short (strB l) w hs (by rw [strB_size]; unfold maxLen; omega)).mono ?_
    rintro e w' ⟨h, rfl⟩
    obtain ⟨x, hx, hy⟩ := hv e h
    exact ⟨x, hx, hy, Below.refl _ _⟩
end Go.Proofs.YtoiampkdmjpljaaGreatDoor
