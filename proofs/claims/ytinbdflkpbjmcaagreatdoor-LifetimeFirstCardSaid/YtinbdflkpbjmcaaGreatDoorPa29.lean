import Derived.Test.YtinbdflkpbjmcaaGreatDoorPa28
import Derived.Lib.SliceRun
import Derived.Test.YtinbdflkpbjmcaaGreatDoorPa23
import Derived.Test.YtinbdflkpbjmcaaGreatDoorPa20
import Derived.Test.YtinbdflkpbjmcaaGreatDoorPa26
import Derived.Test.YtinbdflkpbjmcaaGreatDoorTie
import Derived.Test.YtinbdflkpbjmcaaGreatDoorCards
import Derived.WalkKit
import Derived.ProofKit
import Derived.OpenShut
import Derived.LaidMore
import Derived.Lay
import Derived.SevenTiedAt
import Derived.Stop.Joined
import Derived.Below
import Derived.Stop.LaidErr
import Derived.Shelf.Vars
import Derived.Deep.DeepHandedRow
/- What the code's Add and the reference's Add return. -/
namespace Go.Proofs.YtinbdflkpbjmcaaGreatDoor
open Go.RowKit

set_option maxHeartbeats 1000000 in
set_option maxRecDepth 100000 in
theorem clone_any (fv : Value) (ps : Flds) (w : World) (hr : ReadsQ w fv ps) (hl : ps.length ≤ 10000) :
    Calls Tryz.prog 42 #[fv] w fun e w' => ∃ v, e = .returned v ∧ OwnsP 59 w.heap.size w' v ps ∧ Below w.heap.size w w' := by
  obtain ⟨i0, hi, hz0, hz1, hz2⟩ := info_parts Tryz.infoF
  have q22 : ∀ (w : World) (a : Option Addr) (n c n' c' : Nat), (binOp .eql 26 (.slice a n c) (.slice none n' c')).run Tryz.prog w = .ok (.bool a.isNone) w := fun w a n c n' c' => Lib.run_eql_slice_nil w _ _ a n c n' c' Tryz.underlying26
  obtain ⟨ao, cap, rfl, hc⟩ := id hr
  clear hc
  cases ao with
  | none =>
    obtain ⟨rfl, _⟩ := hr.none
    clear hr
    go_enter Tryz.func42, Tryz.ntmps42
    go_wp2
    go_ret
    exact ⟨_, rfl, OwnsP.nil _ _ _, Below.refl _ _⟩
  | some ad =>
    have hs := hr.src.2
    have HS := Lib.hid hs
    clear hr hs
    go_enter Tryz.func42, Tryz.ntmps42
    go_wp2_with (at_builtin; refine wpList_append_own _ rfl _ _ 26 rfl w.heap.size 59 i0 (.agg #[.string ByteArray.empty, .string ByteArray.empty]) 2 32 Tryz.underlying26 hi hz0 hz1 hz2 rfl (by decide) _ _ _ rfl (own_made w _) ad ps.length cap (flatP ps) rfl (flatP_len ps) (fun j u hj => Lib.cell?_alloc_some _ (HS.out j u hj)) (flatP_one ps) (by unfold maxLen; simp; omega) (by simp; omega) (by simp) ?_; intro v' w1 hown hgrow _)
    go_wp2
    go_ret
    refine ⟨v', rfl, own_app (ps := []) (by simpa [flatP] using hown) (by simp), ?_⟩
    exact ((Below.refl _ w).alloc (Nat.le_refl _) _).grown hgrow (by simp) (fun k hk => (World.ownsRow.lt (own_made w 59) k hk).1)

set_option maxHeartbeats 1000000 in
set_option maxRecDepth 100000 in
theorem add_any (fv : Value) (ps : Flds) (n val : List UInt8) (w : World) (hr : ReadsQ w fv ps) (hn : n.length ≤ 1000000000) (_ : val.length ≤ 1000000000) (hl : ps.length ≤ 10000) :
    Calls Tryz.prog 24 #[fv, .string (strB n), .string (strB val)] w fun e w' => ∃ v, e = .returned v ∧ OwnsP 59 w.heap.size w' v (addL ps n val) ∧ Below w.heap.size w w' := by
  obtain ⟨i0, hi, hz0, hz1, hz2⟩ := info_parts Tryz.infoF
  have zn : (strB n).size ≤ 1000000000 := by rw [strB_size]; exact hn
  have HCl := clone_any fv ps w hr hl
  obtain ⟨ao, cap, rfl, hc⟩ := hr
  clear hc
  go_enter Tryz.func24, Tryz.ntmps24
  go_wp2_with fail
  refine HCl.mono ?_
  rintro e w1 ⟨v, rfl, hO, hB⟩
  have hs1 := hB.size
  go_wp2_with fail
  refine (lower_any (strB n) _ zn).mono ?_
  rintro e w2 ⟨rfl, hB2⟩
  rw [strB_list]
  have hs2 := hB2.size
  have hO2 := OwnsP.below hO hB2
  go_wp2_with (at_builtin; refine wpList_append_own _ rfl _ _ 26 rfl w.heap.size 59 i0 (.agg #[.string ByteArray.empty, .string ByteArray.empty]) 2 32 Tryz.underlying26 hi hz0 hz1 hz2 rfl (by decide) _ _ _ rfl (World.ownsRow.alloc hO2 _) ⟨w2.heap.size, 0, none⟩ 1 1 [strV (lowS n), strV val] rfl rfl (two_new w2 (lowS n) val _) (fun u hu => by simp at hu; rcases hu with rfl | rfl <;> rfl) (by unfold maxLen; omega) (by omega) (by simp; omega) ?_; intro v' w4 hown' hgrow _)
  go_ret
  exact ⟨v', rfl, OwnsP.snoc (p := (lowS n, val)) hown', below_appendP hB hs1 hB2 hO hgrow⟩

end Go.Proofs.YtinbdflkpbjmcaaGreatDoor

/- LifetimeRules, LifetimeAllowances, LifetimeBounds, LifetimeStrict: the walks. -/
namespace Go.Proofs.YtinbdflkpbjmcaaGreatDoor
open Go.RowKit

theorem lf_bounds {s : Int} {D : Dv} {x : Bool} {dd de dl : Option Nat} (hn : Nor D) (be : ∀ k, de = some k → k ≤ 253402300799) :
    0 ≤ (ofV s D x dd de dl).1 ∧ (((ofV s D x dd de dl).2 = 1 ∧ (ofV s D x dd de dl).1 ≤ 2147483647000) ∨ ((ofV s D x dd de dl).2 = 2 ∧ (ofV s D x dd de dl).1 ≤ 2147483647000) ∨ ((ofV s D x dd de dl).2 = 3 ∧ (ofV s D x dd de dl).1 ≤ 253402300799000) ∨
      ((ofV s D x dd de dl).2 = 4 ∧ (ofV s D x dd de dl).1 ≤ 86400000 ∧ cacB s = true) ∨ ((ofV s D x dd de dl).2 = 5 ∧ (ofV s D x dd de dl).1 = 0)) := by
  have h1 := hn.sa
  have h2 := hn.ma
  by_cases c1 : 0 ≤ D.sa
  · rw [of_sa c1]; exact ⟨by show 0 ≤ 1000 * D.sa; omega, .inl ⟨rfl, by show 1000 * D.sa ≤ _; omega⟩⟩
  · by_cases c2 : 0 ≤ D.ma
    · rw [of_ma c1 c2]; exact ⟨by show 0 ≤ 1000 * D.ma; omega, .inr (.inl ⟨rfl, by show 1000 * D.ma ≤ _; omega⟩)⟩
    · cases x with
      | true =>
        rw [of_exp c1 c2]
        have h3 := bet_nn dd de
        have h4 := bet_le (a := dd) be
        exact ⟨h3, .inr (.inr (.inl ⟨rfl, by show betV dd de ≤ _; omega⟩))⟩
      | false =>
        cases c3 : cacB s with
        | false => rw [of_non c1 c2 c3]; exact ⟨Int.le_refl _, .inr (.inr (.inr (.inr ⟨rfl, rfl⟩)))⟩
        | true =>
          rw [of_heu c1 c2 c3]
          unfold heuV
          have h3 := bet_nn dl dd
          split
          · exact ⟨Int.le_refl _, .inr (.inr (.inr (.inr ⟨rfl, rfl⟩)))⟩
          · refine ⟨?_, .inr (.inr (.inr (.inl ⟨rfl, ?_, rfl⟩)))⟩
            · show 0 ≤ min _ _; split <;> omega
            · show min _ _ ≤ _; split <;> omega
theorem allow_bounds {D : Dv} (hn : Nor D) : 0 ≤ (allowV D).1 ∧ (allowV D).1 ≤ 2147483647000 ∧ 0 ≤ (allowV D).2 ∧ (allowV D).2 ≤ 2147483647000 := by
  have h1 := hn.ws
  have h2 := hn.oe
  unfold allowV
  split
  · exact ⟨by decide, by decide, by decide, by decide⟩
  · exact ⟨by show 0 ≤ 1000 * max D.ws 0; omega, by show 1000 * max D.ws 0 ≤ _; omega, by show 0 ≤ 1000 * max D.oe 0; omega, by show 1000 * max D.oe 0 ≤ _; omega⟩
set_option maxHeartbeats 8000000 in
set_option maxRecDepth 100000 in
theorem lf_rules_walk (s : Int) (fv : Value) (ps : Flds) (w : World) (hE : EnvL w) (hr : ReadsQ w fv ps) (hb : 2 * ps.length + totL ps ≤ 3000000) :
    Calls Tryz.prog 3 #[.int .i64 s, fv] w fun e w' => e = .returned (.bool true) ∧ Below w.heap.size w w' := by
  have HR := Lib.hid hr
  have HE := Lib.hid hE
  have HLg := Lib.hid (fun (w : World) (hr : ReadsQ w fv ps) => lfLarge_any fv ps w hr (by omega))
  have HAw := Lib.hid (fun (w : World) (hE : EnvL w) => lfAwake_any w hE)
  clear hr hE hb
  cases hl : lfLargeB ps with
  | true =>
    rw [hl] at HLg
    go_enter Tryz.func3, Tryz.ntmps3
    go_wp2_with fail
    refine (HLg.out _ HR.out).mono ?_
    rintro e w1 ⟨rfl, hB1⟩
    go_wp2_with fail
    refine (HLg.out _ (HR.out.below hB1)).mono ?_
    rintro e w2 ⟨rfl, hB2⟩
    go_wp2_with fail
    go_ret
    exact ⟨rfl, hB1.trans (hB2.mono hB1.size)⟩
  | false =>
    rw [hl] at HLg
    have hfit := lfFitL hl
    have hlen := (lfFit hl).1
    clear hl
    obtain ⟨dd, hdd⟩ := oneIs_ex (allL ps nDA)
    obtain ⟨de, hde⟩ := oneIs_ex (allL ps nEX)
    obtain ⟨dl, hdl⟩ := oneIs_ex (allL ps nLM)
    have HF := Lib.hid (fun (w : World) (hr : ReadsQ w fv ps) => fields_any fv ps w hr (by omega) hfit.each6)
    have HO1 := Lib.hid (fun (v : Value) (w : World) (hr : ReadsQ w v ps) (hE : EnvL w) => lfOf_any s v ps dd de dl w hr hfit hdd hde hdl hE)
    have HO2 := Lib.hid (fun (w : World) (hr : ReadsQ w fv ps) => lfRefOf_any s fv ps dd de dl w hr hfit hdd hde hdl)
    have HE1 := Lib.hid (fun (v : Value) (w : World) (hr : ReadsQ w v ps) (hE : EnvL w) => lfExplicit_any v ps dd de w hr hfit hdd hde hE)
    have HE2 := Lib.hid (fun (w : World) (hr : ReadsQ w fv ps) => lfRefExplicit_any fv ps dd de dl w hr hfit hdd hde hdl)
    have HC1 := Lib.hid (fun (w : World) => cacheable_any s w)
    have HC2 := Lib.hid (fun (w : World) => refCacheable_any s w)
    generalize ofV s (parseD (allL ps nCC)) (hasF ps nEX) dd de dl = Y at *
    generalize decide ((expV (parseD (allL ps nCC)) (hasF ps nEX) dd de).2 ≠ 5) = X at *
    generalize cacB s = C at *
    obtain ⟨a, k⟩ := Y
    clear hfit hdd hde hdl hlen
    go_enter Tryz.func3, Tryz.ntmps3
    go_wp2_with fail
    refine (HLg.out _ HR.out).mono ?_
    rintro e w1 ⟨rfl, hB1⟩
    have HB1 := Lib.hid hB1
    clear hB1
    go_wp2_with fail
    refine (HAw.out _ (HE.out.below HB1.out)).mono ?_
    rintro e w2 ⟨rfl, hB2⟩
    have HB2 := Lib.hid (HB1.out.trans (hB2.mono HB1.out.size))
    clear hB2
    go_wp2_with fail
    refine (HF.out _ (HR.out.below HB2.out)).mono ?_
    rintro e w3 ⟨v, rfl, hO, hB3⟩
    have HB3 := Lib.hid (HB2.out.trans (hB3.mono HB2.out.size))
    have HQ := Lib.hid hO.q
    clear hB3 hO
    go_wp2_with fail
    refine (HO1.out _ _ (HQ.out) (HE.out.below HB3.out)).mono ?_
    rintro e w4 ⟨rfl, hB4⟩
    have HB4 := Lib.hid (HB3.out.trans (hB4.mono HB3.out.size))
    have hB4x := hB4
    clear hB4
    go_wp2_with fail
    refine (HO2.out _ (HR.out.below HB4.out)).mono ?_
    rintro e w5 ⟨rfl, hB5⟩
    have HB5 := Lib.hid (HB4.out.trans (hB5.mono HB4.out.size))
    have hB5x := hB5
    clear hB5
    have HQ5 := Lib.hid ((HQ.out.below hB4x).below hB5x)
    clear hB4x hB5x
    go_wp2_with fail
    refine (HE1.out _ _ HQ5.out (HE.out.below HB5.out)).mono ?_
    rintro e w6 ⟨rfl, hB6⟩
    have HB6 := Lib.hid (HB5.out.trans (hB6.mono HB5.out.size))
    clear hB6
    go_wp2_with fail
    refine (HE2.out _ (HR.out.below HB6.out)).mono ?_
    rintro e w7 ⟨rfl, hB7⟩
    have HB7 := Lib.hid (HB6.out.trans (hB7.mono HB6.out.size))
    clear hB7
    go_wp2_with fail
    refine (HC1.out _).mono ?_
    rintro e w8 ⟨rfl, rfl⟩
    go_wp2_with fail
    refine (HC2.out _).mono ?_
    rintro e w9 ⟨rfl, hB9⟩
    have HB9 := Lib.hid (HB7.out.trans (hB9.mono HB7.out.size))
    clear hB9
    go_wp2_with fail
    go_ret
    exact ⟨retB (by simp), HB9.out⟩
set_option maxHeartbeats 8000000 in
set_option maxRecDepth 100000 in
theorem lf_allow_walk (fv : Value) (ps : Flds) (w : World) (hE : EnvL w) (hr : ReadsQ w fv ps) (hb : 2 * ps.length + totL ps ≤ 3000000) :
    Calls Tryz.prog 4 #[fv] w fun e w' => e = .returned (.bool true) ∧ Below w.heap.size w w' := by
  have HR := Lib.hid hr
  have HE := Lib.hid hE
  have HLg := Lib.hid (fun (w : World) (hr : ReadsQ w fv ps) => lfLarge_any fv ps w hr (by omega))
  have HAw := Lib.hid (fun (w : World) (hE : EnvL w) => lfAwake_any w hE)
  clear hr hE hb
  cases hl : lfLargeB ps with
  | true =>
    rw [hl] at HLg
    go_enter Tryz.func4, Tryz.ntmps4
    go_wp2_with fail
    refine (HLg.out _ HR.out).mono ?_
    rintro e w1 ⟨rfl, hB1⟩
    go_wp2_with fail
    refine (HLg.out _ (HR.out.below hB1)).mono ?_
    rintro e w2 ⟨rfl, hB2⟩
    go_wp2_with fail
    go_ret
    exact ⟨rfl, hB1.trans (hB2.mono hB1.size)⟩
  | false =>
    rw [hl] at HLg
    have hfit := lfFitL hl
    have hlen := (lfFit hl).1
    clear hl
    have HF := Lib.hid (fun (w : World) (hr : ReadsQ w fv ps) => fields_any fv ps w hr (by omega) hfit.each6)
    have HO1 := Lib.hid (fun (v : Value) (w : World) (hr : ReadsQ w v ps) (hE : EnvL w) => allowance_any v ps w hr hfit hE)
    have HO2 := Lib.hid (fun (w : World) (hr : ReadsQ w fv ps) => lfRefAllowance_any fv ps w hr hfit)
    generalize allowV (parseD (allL ps nCC)) = Y at *
    obtain ⟨a, k⟩ := Y
    clear hfit hlen
    go_enter Tryz.func4, Tryz.ntmps4
    go_wp2_with fail
    refine (HLg.out _ HR.out).mono ?_
    rintro e w1 ⟨rfl, hB1⟩
    have HB1 := Lib.hid hB1
    clear hB1
    go_wp2_with fail
    refine (HAw.out _ (HE.out.below HB1.out)).mono ?_
    rintro e w2 ⟨rfl, hB2⟩
    have HB2 := Lib.hid (HB1.out.trans (hB2.mono HB1.out.size))
    clear hB2
    go_wp2_with fail
    refine (HF.out _ (HR.out.below HB2.out)).mono ?_
    rintro e w3 ⟨v, rfl, hO, hB3⟩
    have HB3 := Lib.hid (HB2.out.trans (hB3.mono HB2.out.size))
    have HQ := Lib.hid hO.q
    clear hB3 hO
    go_wp2_with fail
    refine (HO1.out _ _ (HQ.out) (HE.out.below HB3.out)).mono ?_
    rintro e w4 ⟨rfl, hB4⟩
    have HB4 := Lib.hid (HB3.out.trans (hB4.mono HB3.out.size))
    clear hB4
    go_wp2_with fail
    refine (HO2.out _ (HR.out.below HB4.out)).mono ?_
    rintro e w5 ⟨rfl, hB5⟩
    have HB5 := Lib.hid (HB4.out.trans (hB5.mono HB4.out.size))
    clear hB5
    go_wp2_with fail
    go_ret
    exact ⟨retB (by simp), HB5.out⟩
set_option maxHeartbeats 8000000 in
set_option maxRecDepth 100000 in
theorem lf_bounds_walk (s : Int) (fv : Value) (ps : Flds) (w : World) (hE : EnvL w) (hr : ReadsQ w fv ps) (hb : 2 * ps.length + totL ps ≤ 3000000) :
    Calls Tryz.prog 5 #[.int .i64 s, fv] w fun e w' => e = .returned (.bool true) ∧ Below w.heap.size w w' := by
  have HR := Lib.hid hr
  have HE := Lib.hid hE
  have HLg := Lib.hid (fun (w : World) (hr : ReadsQ w fv ps) => lfLarge_any fv ps w hr (by omega))
  have HAw := Lib.hid (fun (w : World) (hE : EnvL w) => lfAwake_any w hE)
  clear hr hE hb
  cases hl : lfLargeB ps with
  | true =>
    rw [hl] at HLg
    go_enter Tryz.func5, Tryz.ntmps5
    go_wp2_with fail
    refine (HLg.out _ HR.out).mono ?_
    rintro e w1 ⟨rfl, hB1⟩
    go_wp2_with fail
    refine (HLg.out _ (HR.out.below hB1)).mono ?_
    rintro e w2 ⟨rfl, hB2⟩
    go_wp2_with fail
    go_ret
    exact ⟨rfl, hB1.trans (hB2.mono hB1.size)⟩
  | false =>
    rw [hl] at HLg
    have hfit := lfFitL hl
    have hlen := (lfFit hl).1
    clear hl
    obtain ⟨dd, hdd⟩ := oneIs_ex (allL ps nDA)
    obtain ⟨de, hde⟩ := oneIs_ex (allL ps nEX)
    obtain ⟨dl, hdl⟩ := oneIs_ex (allL ps nLM)
    have HF := Lib.hid (fun (w : World) (hr : ReadsQ w fv ps) => fields_any fv ps w hr (by omega) hfit.each6)
    have HO1 := Lib.hid (fun (v : Value) (w : World) (hr : ReadsQ w v ps) (hE : EnvL w) => lfOf_any s v ps dd de dl w hr hfit hdd hde hdl hE)
    have HO2 := Lib.hid (fun (v : Value) (w : World) (hr : ReadsQ w v ps) (hE : EnvL w) => allowance_any v ps w hr hfit hE)
    have HC1 := Lib.hid (fun (w : World) => cacheable_any s w)
    have hY := lf_bounds (s := s) (x := hasF ps nEX) (dd := dd) (dl := dl) (nor_parse (allL ps nCC)) (fun k hk => by subst hk; exact oneIs_le hde : ∀ k, de = some k → k ≤ 253402300799)
    have hZ := allow_bounds (nor_parse (allL ps nCC))
    generalize ofV s (parseD (allL ps nCC)) (hasF ps nEX) dd de dl = Y at *
    generalize allowV (parseD (allL ps nCC)) = Z at *
    obtain ⟨a, k⟩ := Y
    obtain ⟨p, q⟩ := Z
    obtain ⟨hp0, hp1, hq0, hq1⟩ := hZ
    obtain ⟨ha0, hk⟩ := hY
    simp only at ha0 hk hp0 hp1 hq0 hq1
    clear hfit hdd hde hdl hlen
    go_enter Tryz.func5, Tryz.ntmps5
    go_wp2_with fail
    refine (HLg.out _ HR.out).mono ?_
    rintro e w1 ⟨rfl, hB1⟩
    have HB1 := Lib.hid hB1
    clear hB1
    go_wp2_with fail
    refine (HAw.out _ (HE.out.below HB1.out)).mono ?_
    rintro e w2 ⟨rfl, hB2⟩
    have HB2 := Lib.hid (HB1.out.trans (hB2.mono HB1.out.size))
    clear hB2
    go_wp2_with fail
    refine (HF.out _ (HR.out.below HB2.out)).mono ?_
    rintro e w3 ⟨v, rfl, hO, hB3⟩
    have HB3 := Lib.hid (HB2.out.trans (hB3.mono HB2.out.size))
    have HQ := Lib.hid hO.q
    clear hB3 hO
    go_wp2_with fail
    refine (HO1.out _ _ (HQ.out) (HE.out.below HB3.out)).mono ?_
    rintro e w4 ⟨rfl, hB4⟩
    have HB4 := Lib.hid (HB3.out.trans (hB4.mono HB3.out.size))
    have HQ4 := Lib.hid (HQ.out.below hB4)
    clear hB4
    go_wp2_with fail
    refine (HO2.out _ _ HQ4.out (HE.out.below HB4.out)).mono ?_
    rintro e w5 ⟨rfl, hB5⟩
    have HB5 := Lib.hid (HB4.out.trans (hB5.mono HB4.out.size))
    clear hB5
    rcases hk with ⟨rfl, hk⟩ | ⟨rfl, hk⟩ | ⟨rfl, hk⟩ | ⟨rfl, hk, hc⟩ | ⟨rfl, rfl⟩
    · go_wp2_with fail
      go_ret
      exact ⟨retB (by simp), HB5.out⟩
    · go_wp2_with fail
      go_ret
      exact ⟨retB (by simp), HB5.out⟩
    · go_wp2_with fail
      go_ret
      exact ⟨retB (by simp), HB5.out⟩
    · rw [hc] at HC1
      go_wp2_with fail
      refine (HC1.out _).mono ?_
      rintro e w6 ⟨rfl, rfl⟩
      go_wp2_with fail
      go_ret
      exact ⟨rfl, HB5.out⟩
    · go_wp2_with fail
      go_ret
      exact ⟨rfl, HB5.out⟩
end Go.Proofs.YtinbdflkpbjmcaaGreatDoor

/- What every row of layer 14 shares: the program's knob, the start that lays the nine listed variables, what the walks ask of a world, and the row's last step. -/
namespace Go.Proofs.YtinbdflkpbjmcaaGreatDoor
open Go.ChangeShapes Go.WideShapes Go.ChangeAt Go.RowKit

theorem own : ownKnob Tryz.prog.godebug = none := by kernel_rfl
def laidA : List (String × DataW Unit) := Rows.lifetimeRulesRow.laid
theorem laid_plainA (w : World) : laidMetH Tryz.prog laidA w = laidMet Tryz.prog laidA w := MakeChecks.laidMetH_plain _ _ _ (by kernel_rfl)
set_option maxRecDepth 100000 in
theorem laid_metA (os : Os) (args : Array Value) : laidMetH Tryz.prog laidA ((World.laidAll Tryz.prog os laidA).forCall (fun _ _ => 0) ⟨#[], args, []⟩).memory := by
  rw [laid_plainA]; exact laidMet_laidAll _ (by kernel_rfl) (by kernel_rfl)
/-- An array of strings that reads as a list of strings holds them. -/
theorem cells_of_strs {H : Type} {enc : TypeId × Value → H} {P : Program} {w : World} {base : Nat} {sp : Nat → Bool} {held : Bool} {fuel : Nat} {t e : TypeId} {n : Nat} {cs : List Value} {ls : List (List UInt8)} {p : List MemPlace}
    (ht : P.underlying t = some (.array n e)) (he : P.underlying e = some .string) (hce : P.cellsOf e = 1) (hct : P.cellsOf t = n)
    (h : DataW.trod enc P w base sp held fuel t cs = some (.agg (ls.map fun l => .lit (.string l)), p)) : cs = ls.map fun l => Value.string (strB l) := by
  cases fuel with
  | zero => simp [DataW.trod] at h
  | succ fuel =>
    simp only [DataW.trod, ht, hce, hct, Nat.mul_one] at h
    split at h
    · rename_i hl
      obtain ⟨xs, hm, hx⟩ := Option.map_eq_some_iff.1 h
      have hxs : xs.map (·.1) = ls.map fun l => (DataW.lit (.string l) : DataW H) := by
        have := congrArg Prod.fst hx
        simpa using this
      have hxl : xs.length = n := by simpa using Lib.mapM_length hm
      have hzl : ls.length = n := by
        have := congrArg List.length hxs
        simp at this
        omega
      apply List.ext_getElem?
      intro i
      by_cases hi : i < n
      · obtain ⟨b, hb, hf⟩ := Lib.mapM_at hm i i (by simp [hi])
        obtain ⟨z, hc, hz, _⟩ := DataW.trod_string he hf
        have h1 : cs[i]? = some (.string z) := by
          have := congrArg (·[0]?) hc
          simpa [List.getElem?_take, List.getElem?_drop] using this
        have h2 : (xs.map (·.1))[i]? = some (DataW.lit (.string z.data.toList) : DataW H) := by simp [hb, hz]
        rw [hxs] at h2
        simp only [List.getElem?_map, Option.map_eq_some_iff, DataW.lit.injEq, Lit.string.injEq] at h2
        obtain ⟨z', hz', e⟩ := h2
        rw [h1]
        simp [hz', e, strB_of]
      · rw [List.getElem?_eq_none (by omega), List.getElem?_eq_none (by simp; omega)]
    · cases h
theorem strs_of_head {P : Program} {W : World} {name : String} {ls : List (List UInt8)} {rest : List (String × DataW Unit)} {g : Nat} {t e : TypeId} {n : Nat}
    (hg : P.globalNamed name = some g) (hty : (P.globals[g]?).map (·.type) = some t) (ht : P.underlying t = some (.array n e)) (he : P.underlying e = some .string) (hce : P.cellsOf e = 1) (hct : P.cellsOf t = n)
    (h : laidMet P ((name, .agg (ls.map fun l => .lit (.string l))) :: rest) W) : W.var? P name = some (ls.map fun l => Value.string (strB l)).toArray := by
  obtain ⟨ps, ⟨g', t', cs, fuel, p, q, hg', ht', hvar, hd, _, _⟩, _⟩ := h
  obtain rfl := Option.some.inj (hg.symm.trans hg')
  obtain rfl := Option.some.inj (hty.symm.trans ht')
  rw [hvar, ← cells_of_strs ht he hce hct hd]
theorem tTab : (Tryz.prog.globals[(2 : Nat)]?).map (·.type) = some 152 := by kernel_rfl
theorem tMon : (Tryz.prog.globals[(0 : Nat)]?).map (·.type) = some 101 := by kernel_rfl
theorem tDay : (Tryz.prog.globals[(1 : Nat)]?).map (·.type) = some 102 := by kernel_rfl
theorem eTab : (Rows.laid_internal_strconv_uint64pow10 : DataW Unit) = Lib.tabData .u64 Lib.pow10Tab := by rfl
theorem eMon : (Rows.laid_quayside_httpdate_monthNames : DataW Unit) = .agg ([moS 1, moS 2, moS 3, moS 4, moS 5, moS 6, moS 7, moS 8, moS 9, moS 10, moS 11, moS 12].map fun l => .lit (.string l)) := by rfl
theorem eDay : (Rows.laid_quayside_httpdate_weekdayNames : DataW Unit) = .agg ([wdS 0, wdS 1, wdS 2, wdS 3, wdS 4, wdS 5, wdS 6].map fun l => .lit (.string l)) := by rfl
theorem tab_of {W : World} {rest : List (String × DataW Unit)} (h : laidMet Tryz.prog (("internal/strconv.uint64pow10", Rows.laid_internal_strconv_uint64pow10) :: rest) W) : Lib.TabIs Tryz.prog W "internal/strconv.uint64pow10" .u64 Lib.pow10Tab := by
  rw [eTab] at h
  exact Lib.tabIs_of_head gTab tTab Tryz.underlying152 Tryz.underlying133 (by kernel_rfl) (by kernel_rfl) h
theorem mon_of {W : World} {rest : List (String × DataW Unit)} (h : laidMet Tryz.prog (("quayside/httpdate.monthNames", Rows.laid_quayside_httpdate_monthNames) :: rest) W) : W.var? Tryz.prog "quayside/httpdate.monthNames" = some monA := by
  rw [eMon] at h
  exact strs_of_head gMon tMon Tryz.underlying101 Tryz.underlying9 (by kernel_rfl) (by kernel_rfl) h
theorem day_of {W : World} {rest : List (String × DataW Unit)} (h : laidMet Tryz.prog (("quayside/httpdate.weekdayNames", Rows.laid_quayside_httpdate_weekdayNames) :: rest) W) : W.var? Tryz.prog "quayside/httpdate.weekdayNames" = some dayA := by
  rw [eDay] at h
  exact strs_of_head gDay tDay Tryz.underlying102 Tryz.underlying9 (by kernel_rfl) (by kernel_rfl) h
theorem gES : Tryz.prog.globalNamed "strconv.ErrSyntax" = some 4 := by kernel_rfl
theorem gESType : (Tryz.prog.globals[(4 : Nat)]?).map (·.type) = some 53 := by kernel_rfl
theorem star : "*" ++ "errors.errorString" = "*errors.errorString" := by decide
theorem rowES (u : TypeId) (h : Tryz.prog.typeName? 3 u = some "*errors.errorString") : u = 172 :=
  typeName_ptr_named (nm := "errors.errorString") (by rw [star]; kernel_rfl) (by kernel_rfl) (by decide) u (by rw [star]; exact h)
theorem envP_of {W : World} (hL : laidMetH Tryz.prog laidA W) : EnvP W := by
  rw [laid_plainA] at hL
  have hT := hL.tail.tail.tail.tail.tail
  obtain ⟨a, s, hv, -, -, -⟩ := laid_sentinel (text := [105, 110, 118, 97, 108, 105, 100, 32, 115, 121, 110, 116, 97, 120]) hT gES gESType Tryz.underlying53 rowES Tryz.underlying172 Tryz.underlying174 rfl rfl Tryz.underlying9 (by kernel_rfl) (by kernel_rfl)
  have h0 := World.var?_cell gES hv 0
  exact ⟨⟨tab_of hL.tail.tail, mon_of hT.tail.tail, day_of hT.tail⟩, _, by simpa using h0, Or.inr ⟨_, _, rfl⟩⟩
theorem max_len {W : World} (h : W.ShapedOpen Tryz.prog) : ∃ m, W.cell? ⟨3, 0, none⟩ = some (.int .i64 m) :=
  cell_of_shapedOpen_int (P := Tryz.prog) (g := 3) (t := 3) (zero := #[.int .i64 0]) h (of_decide_eq_true (by kernel_rfl)) (by kernel_rfl) rfl (by kernel_rfl) (by kernel_rfl) Tryz.underlying3
/-- What the walks ask of a world holds where a row's call begins. -/
theorem has_max {W : World} (hsh : W.ShapedOpen Tryz.prog) : MaxIs W := max_len hsh
theorem env_l {W : World} (hL : laidMetH Tryz.prog laidA W) (hsh : W.ShapedOpen Tryz.prog) : EnvL W := ⟨has_max hsh, envP_of hL⟩
section
variable {H : Type} {enc : TypeId × Value → H}
/-- The witness of a row at a world of one's own making whose shape is shown by other means. -/
theorem witness_row_shaped {C : Checked} {os : Os} {f : FuncId} {fn : Func} {s : OpenSpec} {conds : List PathCond} {apart : Bool} {laid : List (String × DataW Unit)} (modest : Bool) (w0 : World) (args : Array Value) (hos : w0.os = os)
    (hsh : (w0.forCall (fun _ _ => 0) ⟨#[], args, []⟩).Shaped C.prog)
    (hok : Input.okWideB C.prog (w0.forCall (fun _ _ => 0) ⟨#[], args, []⟩) f ⟨#[], args, []⟩ = true)
    (hrow : s.preRow enc C.prog fn conds apart laid (w0.forCall (fun _ _ => 0) ⟨#[], args, []⟩).memory args) :
    ∃ (w : World) (tape : Tape) (i : Input), w.os = os ∧ (w.forCall tape i).Shaped C.prog ∧ i.vars = [] ∧ Input.okWide C.prog (w.forCall tape i) .any w.heap.size f i ∧
      s.preRow enc C.prog fn conds apart laid (w.forCall tape i).memory i.args ∧ ({ modest := modest } : Assume).holds C.prog (lone (Frame.enter C.prog f i.args .normal) [] (w.forCall tape i)) :=
  ⟨w0, fun _ _ => 0, ⟨#[], args, []⟩, hos, hsh, (Input.okWide_of_okWideB (base := 0) hok).1, (Input.okWide_of_okWideB hok).2, hrow, by
    simp only [Assume.holds]
    exact ⟨by simp, by simp, fun _ => Modest.zero, by simp, by simp⟩⟩
end
section
variable {H : Type} {enc : TypeId × Value → H} {P : Program}
/-- The row's last step from 'Below': what was there when the call began is as it was; new blocks may have come. -/
theorem post_below {f : Func} {s : ChangeSpec} {apart fresh handsOn again : Bool} {W W' : World} {args : Array Value} {v : Value} {ds gs : List (DataW H)} {before pa pv : List MemPlace}
    (hW : DataW.Whole enc P f.params.toList s.vars apart W args.toList ds gs before)
    (hres : ∀ (b : Nat) (sp : Nat → Bool) (hd : Bool), DataW.TrodAll enc P W' b sp hd f.resultTypes.toList (v.resultList f.resultTypes.size) (s.fn H (ds ++ gs)).results [])
    (hargs : ∀ sp : Nat → Bool, (∀ p ∈ before, sp p.block = true) → DataW.TrodAll enc P W' 0 sp true f.params.toList args.toList (s.fn H (ds ++ gs)).args pa)
    (hvars : ∀ sp : Nat → Bool, (∀ p ∈ before, sp p.block = true) → DataW.TrodVars enc P W' sp s.vars (s.fn H (ds ++ gs)).vars pv)
    (hps : before = pa ++ pv) (hb : Below W.heap.size W W')
    (hok : ∀ (j : Nat) (t : TypeId) (r : Value), f.resultTypes[j]? = some t → (v.resultList f.resultTypes.size)[j]? = some r → Value.okWide P W' .any 0 t r) :
    s.post enc P f apart fresh handsOn again W args v W' := by
  have lt : ∀ p ∈ before, p.block < W.heap.size := fun p hp => hW.lt p hp
  have old : ∀ p ∈ before, (fun b => decide (b < W.heap.size)) p.block = true := fun p hp => by simpa using lt p hp
  refine ⟨ds, gs, before, [], pa, pv, hW, hres _ _ _, hargs _ old, hvars _ old, World.keptBut_mono (fun p hp => ⟨hp, ?_⟩) (hb.frame (· ∈ before)), fun _ => ?_⟩
  · rw [hps, List.mem_append] at hp
    exact Or.inr hp
  · obtain ⟨_, _, _, _, _, hz, hn⟩ := hW
    refine ⟨hok, _, _, ([] ++ pa) ++ pv, ⟨[] ++ pa, pv, trodAll_append (hargs _ (fun _ _ => rfl)) (hres _ _ _), hvars _ (fun _ _ => rfl), rfl, ?_, ?_⟩, ?_⟩
    · intro b off hp
      have hin : MemPlace.cell b off ∈ before := by rw [hps]; simpa using hp
      rw [hb.frozen (lt _ hin)]
      exact hz b off hin
    · intro ha
      have := hn ha
      rw [hps] at this
      simpa using this
    · intro p hp _
      rw [hps]
      simpa using hp
end
end Go.Proofs.YtinbdflkpbjmcaaGreatDoor
