/- The statements of layer 4: for every input the statement's function returns true: the walks. -/
import Derived.Test.YtfggckdakmnfbaaDoorHRefParse
import Derived.Test.YtfggckdakmnfbaaDoorAIsErr
namespace Go.Proofs.YtfggckdakmnfbaaDoor
open Go.RowKit

def exF : List UInt8 := [83, 117, 110, 44, 32, 48, 54, 32, 78, 111, 118, 32, 49, 57, 57, 52, 32, 48, 56, 58, 52, 57, 58, 51, 55, 32, 71, 77, 84]
theorem ex_isT : isT 784111777 exF := ⟨by omega, 1994, 11, 6, by unfold isD; decide, by decide⟩
theorem ex_day : isD 2000 3 1 11017 := by unfold isD; decide
set_option maxHeartbeats 1000000 in
theorem awakeH_any (w : World) (hE : EnvH w) : Calls Tryd.prog 15 #[] w fun e w' => e = .returned (.bool true) ∧ Below w.heap.size w w' := by
  have HF := Lib.hid (format_yes 784111777 exF w hE ex_isT)
  have HD := Lib.hid (fun W => day_yes 2000 3 1 11017 W ex_day)
  have hd : (strB exF).toList = [83, 117, 110, 44, 32, 48, 54, 32, 78, 111, 118, 32, 49, 57, 57, 52, 32, 48, 56, 58, 52, 57, 58, 51, 55, 32, 71, 77, 84] := by rw [ByteArray.toList_eq]; rfl
  clear hE
  go_enter Tryd.func15, Tryd.ntmps15
  go_wp2_with fail
  refine HF.out.mono ?_
  rintro e w' ⟨rfl, hB⟩
  have HB := Lib.hid hB
  clear hB HF
  go_wp2_with fail
  refine (HD.out _).mono ?_
  rintro e w' ⟨rfl, rfl⟩
  go_wp2_with fail
  go_ret
  exact ⟨rfl, HB.out⟩
set_option maxHeartbeats 400000 in
theorem isNil_any (a : Int) (ha : (a == 0) = false) (w : World) : Calls Tryd.prog 17 #[.nilIface, .int .i64 a] w fun e w' => e = .returned (.bool false) ∧ w = w' := by
  have hb : ((0 : Int) == a) = false := by simp at ha ⊢; omega
  clear ha
  go_enter Tryd.func17, Tryd.ntmps17
  go_wp2_with (go_at_call 14; refine (num_nil _).mono ?_; rintro e w' ⟨rfl, rfl⟩)
  go_ret
  exact ⟨rfl, rfl⟩
namespace formats
set_option maxHeartbeats 2000000 in
theorem walk (n : Int) (w : World) (hE : EnvH w) (hn : -9223372036854775808 ≤ n ∧ n ≤ 9223372036854775807) :
    Calls Tryd.prog 4 #[.int .i64 n] w fun e w' => e = .returned (.bool true) ∧ Below w.heap.size w w' := by
  have HE := Lib.hid hE
  clear hE
  by_cases hr : n < 0 ∨ 253402300799 < n
  · have HF := Lib.hid (fun W => format_no n W hr hn.2)
    rcases hr with hr | hr
    all_goals
      go_enter Tryd.func4, Tryd.ntmps4
      go_wp2_with fail
      refine (awakeH_any _ HE.out).mono ?_
      rintro e w' ⟨rfl, hB⟩
      have HB := Lib.hid hB
      clear hB
      go_wp2_with fail
      refine (HF.out _).mono ?_
      rintro e w' ⟨rfl, rfl⟩
      go_wp2_with fail
      refine (isErr_any 1 (by decide) _).mono ?_
      rintro e w' ⟨rfl, rfl⟩
      go_wp2_with fail
      go_ret
      exact ⟨rfl, HB.out⟩
  · obtain ⟨x, rfl⟩ : ∃ x : Nat, n = x := ⟨n.toNat, by omega⟩
    obtain ⟨t, ht⟩ := isT_ex x (by omega)
    have HT := Lib.hid ht
    have hx : x ≤ 253402300799 := by omega
    clear hr ht
    go_enter Tryd.func4, Tryd.ntmps4
    go_wp2_with fail
    refine (awakeH_any _ HE.out).mono ?_
    rintro e w' ⟨rfl, hB⟩
    have HB := Lib.hid hB
    clear hB
    go_wp2_with fail
    refine (format_yes x t _ (HE.out.below HB.out) HT.out).mono ?_
    rintro e w2 ⟨rfl, hB2⟩
    have HB2 := Lib.hid (HB.out.trans (hB2.mono HB.out.size))
    clear hB2
    go_wp2_with fail
    refine (refFormat_yes x t _ HT.out).mono ?_
    rintro e w3 ⟨rfl, hB3⟩
    have HB3 := Lib.hid (HB2.out.trans (hB3.mono HB2.out.size))
    clear hB3
    go_wp2_with fail
    go_ret
    exact ⟨rfl, HB3.out⟩
end formats
namespace days
set_option maxHeartbeats 2000000 in
theorem walk (y m d : Int) (w : World) (hE : EnvH w) :
    Calls Tryd.prog 7 #[.int .i64 y, .int .i64 m, .int .i64 d] w fun e w' => e = .returned (.bool true) ∧ Below w.heap.size w w' := by
  have HE := Lib.hid hE
  clear hE
  cases hv : vldB y m d with
  | false =>
    have H1 := Lib.hid (fun W => day_no y m d W hv)
    have H2 := Lib.hid (fun W => refDay_no y m d W hv)
    clear hv
    go_enter Tryd.func7, Tryd.ntmps7
    go_wp2_with fail
    refine (awakeH_any _ HE.out).mono ?_
    rintro e w' ⟨rfl, hB⟩
    have HB := Lib.hid hB
    clear hB
    go_wp2_with fail
    refine (H1.out _).mono ?_
    rintro e w' ⟨rfl, rfl⟩
    go_wp2_with fail
    refine (H2.out _).mono ?_
    rintro e w' ⟨rfl, rfl⟩
    go_wp2_with fail
    refine (isErr_any 1 (by decide) _).mono ?_
    rintro e w' ⟨rfl, rfl⟩
    go_wp2_with fail
    go_ret
    exact ⟨rfl, HB.out⟩
  | true =>
    have hD := isD_of hv
    obtain ⟨N, hN⟩ : ∃ N, num y m d = N := ⟨_, rfl⟩
    rw [hN] at hD
    have H1 := Lib.hid (fun W => day_yes y m d N W hD)
    have H2 := Lib.hid (fun W => refDay_yes y m d N W hD)
    clear hv hD hN
    go_enter Tryd.func7, Tryd.ntmps7
    go_wp2_with fail
    refine (awakeH_any _ HE.out).mono ?_
    rintro e w' ⟨rfl, hB⟩
    have HB := Lib.hid hB
    clear hB
    go_wp2_with fail
    refine (H1.out _).mono ?_
    rintro e w' ⟨rfl, rfl⟩
    go_wp2_with fail
    refine (H2.out _).mono ?_
    rintro e w' ⟨rfl, rfl⟩
    go_wp2_with fail
    go_ret
    exact ⟨rfl, HB.out⟩
end days
namespace dates
set_option maxHeartbeats 2000000 in
theorem walk (n : Int) (w : World) (hE : EnvH w) :
    Calls Tryd.prog 8 #[.int .i64 n] w fun e w' => e = .returned (.bool true) ∧ Below w.heap.size w w' := by
  have HE := Lib.hid hE
  clear hE
  by_cases hr : n < 0 ∨ 2932896 < n
  · have HF := Lib.hid (fun W => date_no n W hr)
    rcases hr with hr | hr
    all_goals
      go_enter Tryd.func8, Tryd.ntmps8
      go_wp2_with fail
      refine (awakeH_any _ HE.out).mono ?_
      rintro e w' ⟨rfl, hB⟩
      have HB := Lib.hid hB
      clear hB
      go_wp2_with fail
      refine (HF.out _).mono ?_
      rintro e w' ⟨rfl, rfl⟩
      go_wp2_with fail
      refine (isErr_any 1 (by decide) _).mono ?_
      rintro e w' ⟨rfl, rfl⟩
      go_wp2_with fail
      go_ret
      exact ⟨rfl, HB.out⟩
  · obtain ⟨y, m, d, hD⟩ := isD_exI n (by omega) (by omega)
    have H1 := Lib.hid (fun W => date_yes y m d n W hD)
    have H2 := Lib.hid (fun W => refDate_yes y m d n W hD)
    have H3 := Lib.hid (fun W => day_yes y m d n W hD)
    obtain ⟨n0, n1⟩ : 0 ≤ n ∧ n ≤ 2932896 := by omega
    clear hr hD
    go_enter Tryd.func8, Tryd.ntmps8
    go_wp2_with fail
    refine (awakeH_any _ HE.out).mono ?_
    rintro e w' ⟨rfl, hB⟩
    have HB := Lib.hid hB
    clear hB
    go_wp2_with fail
    refine (H1.out _).mono ?_
    rintro e w' ⟨rfl, rfl⟩
    go_wp2_with fail
    refine (H2.out _).mono ?_
    rintro e w' ⟨rfl, rfl⟩
    go_wp2_with fail
    refine (H3.out _).mono ?_
    rintro e w' ⟨rfl, rfl⟩
    go_wp2_with fail
    go_ret
    exact ⟨rfl, HB.out⟩
end dates
namespace weekdays
set_option maxHeartbeats 2000000 in
theorem walk (n : Int) (w : World) (hE : EnvH w) (hn : -9223372036854775808 ≤ n ∧ n ≤ 9223372036854775807) :
    Calls Tryd.prog 10 #[.int .i64 n] w fun e w' => e = .returned (.bool true) ∧ Below w.heap.size w w' := by
  have HE := Lib.hid hE
  have b1 := wd_bd n
  have b2 := tck_bd n
  have hs : Hid (wdI (n + 7) = wdI n) := by show _ = _; unfold wdI; omega
  clear hE
  have d1 : 1000 * (tck n / 1000) ≤ tck n ∧ tck n < 1000 * (tck n / 1000) + 1000 ∧ 0 ≤ tck n / 1000 ∧ tck n / 1000 ≤ 1099511627776 := by omega
  obtain ⟨v, hv⟩ : ∃ v, wdI n = v := ⟨_, rfl⟩
  obtain ⟨T, hT⟩ : ∃ T, tck n = T := ⟨_, rfl⟩
  obtain ⟨F, hF⟩ : ∃ F, T / 1000 = F := ⟨_, rfl⟩
  have H1 := Lib.hid (fun W => time_any n W)
  have H2 := Lib.hid (fun W => floor_any n W)
  have H3 := Lib.hid (fun W => weekday_any n W)
  have H4 := Lib.hid (fun W => refWeekday_any n W)
  have H5 := Lib.hid (fun W => weekday_any (n + 7) W)
  rw [hs.out] at H5
  rw [hv] at H3 H4 H5 b1
  rw [hT] at H1 H2 d1 b2
  rw [hF] at H2 d1
  clear hs hv hT hF
  go_enter Tryd.func10, Tryd.ntmps10
  go_wp2_with fail
  refine (awakeH_any _ HE.out).mono ?_
  rintro e w' ⟨rfl, hB⟩
  have HB := Lib.hid hB
  clear hB
  go_wp2_with fail
  refine (H1.out _).mono ?_
  rintro e w' ⟨rfl, rfl⟩
  go_wp2_with fail
  refine (H2.out _).mono ?_
  rintro e w' ⟨rfl, rfl⟩
  go_wp2_with fail
  refine (H3.out _).mono ?_
  rintro e w' ⟨rfl, rfl⟩
  go_wp2_with fail
  refine (H4.out _).mono ?_
  rintro e w' ⟨rfl, rfl⟩
  by_cases c1 : 1099511627776 < n
  · go_wp2_with fail
    go_ret
    exact ⟨rfl, HB.out⟩
  · by_cases c2 : n < -1099511627776
    · go_wp2_with fail
      go_ret
      exact ⟨rfl, HB.out⟩
    · go_wp2_with fail
      refine (H5.out _).mono ?_
      rintro e w' ⟨rfl, rfl⟩
      go_wp2_with fail
      go_ret
      exact ⟨rfl, HB.out⟩
end weekdays
end Go.Proofs.YtfggckdakmnfbaaDoor
