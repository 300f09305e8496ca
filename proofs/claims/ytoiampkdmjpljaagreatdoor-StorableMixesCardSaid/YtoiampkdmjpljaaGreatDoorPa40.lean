import Derived.Test.YtoiampkdmjpljaaGreatDoorPa38
import Derived.Test.YtoiampkdmjpljaaGreatDoorPa26
import Derived.Test.YtoiampkdmjpljaaGreatDoorPa27
import Derived.Test.YtoiampkdmjpljaaGreatDoorPa39
import Derived.Test.YtoiampkdmjpljaaGreatDoorPa34
import Derived.Test.YtoiampkdmjpljaaGreatDoorPa36
/- What storable.isOther, replacements and Update return. -/
namespace Go.Proofs.YtoiampkdmjpljaaGreatDoor
open Go.RowKit Go.Maps

theorem allR_any (fv : Value) (ps : Flds) (n : ByteArray) (w : World) (hr : ReadsQ w fv ps) (hf : FitL ps) (hn : n.size ≤ 100) :
    Calls Tryz.prog 25 #[fv, .string n] w fun e w' => ∃ a c, e = .returned (.slice a (allL ps n.data.toList).length c) ∧ ReadsS w' (.slice a (allL ps n.data.toList).length c) (allL ps n.data.toList) ∧ Below w.heap.size w w' := by
  refine (all_any fv ps n w hr (by omega) (by have := hf.len; omega) hf.each6).mono ?_
  rintro e w' ⟨v, rfl, hO, hB⟩
  have hR := hO.reads
  obtain ⟨a, c, rfl, _⟩ := id hR
  exact ⟨a, c, rfl, hR, hB⟩
theorem len0 {α : Type} (l : List α) : ((l.length : Int) == 0) = decide (l = []) := by
  cases l with
  | nil => rfl
  | cons a r => simp; omega
set_option maxHeartbeats 8000000 in
set_option maxRecDepth 100000 in
theorem isOther_any (av : Value) (a : Flds) (bv : Value) (b : Flds) (w : World) (ha : ReadsQ w av a) (hfa : FitL a) (hb : ReadsQ w bv b) (hfb : FitL b) (hM : MaxIs w) :
    Calls Tryz.prog 38 #[av, bv] w fun e w' => e = .returned (.bool (mixB (allL a nET) (allL b nET))) ∧ Below w.heap.size w w' := by
  have HA := Lib.hid (allR_any av a (strB nET) w ha hfa (by decide))
  have HB := Lib.hid (fun (w : World) (hb : ReadsQ w bv b) => allR_any bv b (strB nET) w hb hfb (by decide))
  rw [strB_list] at HA HB
  have HTa := Lib.hid (fun (w : World) (ha : ReadsQ w av a) (hM : MaxIs w) => tagOf_any av a w ha hfa hM)
  have HTb := Lib.hid (fun (w : World) (hb : ReadsQ w bv b) (hM : MaxIs w) => tagOf_any bv b w hb hfb hM)
  have HRa := Lib.hid ha
  have HRb := Lib.hid hb
  have HM := Lib.hid hM
  have hla := all_len a nET
  have hlb := all_len b nET
  have hza := hfa.len
  have hzb := hfb.len
  clear ha hb hfa hfb hM
  have HV := Lib.hid (show mixB (allL a nET) (allL b nET) = if allL a nET = [] ∨ allL b nET = [] ∨ allL a nET = allL b nET then false else !sameW (tagO (allL a nET)) (tagO (allL b nET)) from rfl)
  generalize mixB (allL a nET) (allL b nET) = res at *
  generalize tagO (allL a nET) = ta at *
  generalize tagO (allL b nET) = tb at *
  generalize allL a nET = la at *
  generalize allL b nET = lb at *
  have ea := len0 la
  have eb := len0 lb
  have HQ := Lib.hid (fun (x y : Value) (w : World) (hx : ReadsS w x la) (hy : ReadsS w y lb) => equalS_any x y la lb w hx hy (by omega))
  by_cases h1 : la = []
  · rw [decide_eq_true h1] at ea
    have HV2 := Lib.hid (show res = false by rw [HV.out, if_pos (.inl h1)])
    clear h1 HV
    generalize la.length = na at *
    generalize lb.length = nb at *
    go_enter Tryz.func38, Tryz.ntmps38
    go_wp2_with fail
    refine HA.out.mono ?_
    rintro e w1 ⟨x1, c1, rfl, hR1, hB1⟩
    go_wp2_with fail
    refine (HB.out _ (HRb.out.below hB1)).mono ?_
    rintro e w2 ⟨x2, c2, rfl, hR2, hB2⟩
    clear hR1 hR2
    go_wp2_with fail
    go_ret
    exact ⟨retB HV2.out.symm, hB1.trans (hB2.mono hB1.size)⟩
  · rw [decide_eq_false h1] at ea
    by_cases h2 : lb = []
    · rw [decide_eq_true h2] at eb
      have HV2 := Lib.hid (show res = false by rw [HV.out, if_pos (.inr (.inl h2))])
      clear h1 h2 HV
      generalize la.length = na at *
      generalize lb.length = nb at *
      go_enter Tryz.func38, Tryz.ntmps38
      go_wp2_with fail
      refine HA.out.mono ?_
      rintro e w1 ⟨x1, c1, rfl, hR1, hB1⟩
      go_wp2_with fail
      refine (HB.out _ (HRb.out.below hB1)).mono ?_
      rintro e w2 ⟨x2, c2, rfl, hR2, hB2⟩
      clear hR1 hR2
      go_wp2_with fail
      go_ret
      exact ⟨retB HV2.out.symm, hB1.trans (hB2.mono hB1.size)⟩
    · rw [decide_eq_false h2] at eb
      by_cases h3 : la = lb
      · have HV2 := Lib.hid (show res = false by rw [HV.out, if_pos (.inr (.inr h3))])
        rw [decide_eq_true h3] at HQ
        clear h1 h2 h3 HV
        generalize la.length = na at *
        generalize lb.length = nb at *
        go_enter Tryz.func38, Tryz.ntmps38
        go_wp2_with fail
        refine HA.out.mono ?_
        rintro e w1 ⟨x1, c1, rfl, hR1, hB1⟩
        have HR1 := Lib.hid hR1
        clear hR1
        go_wp2_with fail
        refine (HB.out _ (HRb.out.below hB1)).mono ?_
        rintro e w2 ⟨x2, c2, rfl, hR2, hB2⟩
        have HR2 := Lib.hid hR2
        have HR1b := Lib.hid (HR1.out.below hB2)
        clear hR2
        go_wp2_with fail
        refine (HQ.out _ _ _ HR1b.out HR2.out).mono ?_
        rintro e w3 ⟨rfl, q, rfl⟩
        go_wp2_with fail
        go_ret
        exact ⟨retB HV2.out.symm, below_drewN (hB1.trans (hB2.mono hB1.size)) _⟩
      · have HV2 := Lib.hid (show res = !sameW ta tb by rw [HV.out, if_neg (by simp [h1, h2, h3])])
        rw [decide_eq_false h3] at HQ
        clear h1 h2 h3 HV
        generalize la.length = na at *
        generalize lb.length = nb at *
        cases ta with
        | none =>
          have HV3 := Lib.hid (show res = true by rw [HV2.out]; rfl)
          unfold tgB at HTa
          cases tb with
          | none =>
            simp only [tgB] at HTb
            go_enter Tryz.func38, Tryz.ntmps38
            go_wp2_with fail
            refine HA.out.mono ?_
            rintro e w1 ⟨x1, c1, rfl, hR1, hB1⟩
            have HR1 := Lib.hid hR1
            clear hR1
            go_wp2_with fail
            refine (HB.out _ (HRb.out.below hB1)).mono ?_
            rintro e w2 ⟨x2, c2, rfl, hR2, hB2⟩
            have HR2 := Lib.hid hR2
            have HR1b := Lib.hid (HR1.out.below hB2)
            have HB2 := Lib.hid (hB1.trans (hB2.mono hB1.size))
            clear hR2 hB1 hB2 HR1
            go_wp2_with fail
            refine (HQ.out _ _ _ HR1b.out HR2.out).mono ?_
            rintro e w3 ⟨rfl, q, rfl⟩
            have HB3 := Lib.hid (below_drewN HB2.out q)
            clear HR1b HR2 HB2
            generalize w2.drewN q = w3 at *
            go_wp2_with fail
            refine (HTa.out _ (HRa.out.below HB3.out) (HM.out.below HB3.out)).mono ?_
            rintro e w4 ⟨rfl, hB4⟩
            have HB4 := Lib.hid (HB3.out.trans (hB4.mono HB3.out.size))
            have hs4 := HB4.out.size
            clear hB4 HB3
            have HX4 := Lib.hid (twoT_new w4 false [] 94)
            have HB5 := Lib.hid (HB4.out.alloc hs4 (.cells #[.bool false, .string (strB [])] 94))
            go_upto_region 5 with fail
            change Code.wp _ _ _ _ (w4.alloc (.cells #[.bool false, .string (strB [])] 94))
            generalize (w4.alloc (.cells #[.bool false, .string (strB [])] 94)) = W5 at *
            generalize w4.heap.size = N4 at *
            clear HB4 hs4
            go_wp2_with fail
            refine (HTb.out _ (HRb.out.below HB5.out) (HM.out.below HB5.out)).mono ?_
            rintro e w6 ⟨rfl, hB6⟩
            have HX6 := Lib.hid ((HX4.out.below hB6).below (below_new w6 (.cells #[.bool false, .string (strB [])] 94)))
            have HB6 := Lib.hid (HB5.out.trans (hB6.mono HB5.out.size))
            have hs6 := HB6.out.size
            have HY6 := Lib.hid (twoT_new w6 false [] 94)
            have HB7 := Lib.hid (HB6.out.alloc hs6 (.cells #[.bool false, .string (strB [])] 94))
            go_upto_region 6 with fail
            change Code.wp _ _ _ _ (w6.alloc (.cells #[.bool false, .string (strB [])] 94))
            generalize (w6.alloc (.cells #[.bool false, .string (strB [])] 94)) = W7 at *
            generalize w6.heap.size = N6 at *
            clear HB6 hs6 HB5 HX4 hB6
            obtain ⟨xa0, xa1, _, _, _⟩ := HX6.out
            obtain ⟨ya0, ya1, _, _, _⟩ := HY6.out
            go_wp2_with fail
            go_ret
            exact ⟨retB HV3.out.symm, HB7.out⟩
          | some tb =>
            simp only [tgB] at HTb
            go_enter Tryz.func38, Tryz.ntmps38
            go_wp2_with fail
            refine HA.out.mono ?_
            rintro e w1 ⟨x1, c1, rfl, hR1, hB1⟩
            have HR1 := Lib.hid hR1
            clear hR1
            go_wp2_with fail
            refine (HB.out _ (HRb.out.below hB1)).mono ?_
            rintro e w2 ⟨x2, c2, rfl, hR2, hB2⟩
            have HR2 := Lib.hid hR2
            have HR1b := Lib.hid (HR1.out.below hB2)
            have HB2 := Lib.hid (hB1.trans (hB2.mono hB1.size))
            clear hR2 hB1 hB2 HR1
            go_wp2_with fail
            refine (HQ.out _ _ _ HR1b.out HR2.out).mono ?_
            rintro e w3 ⟨rfl, q, rfl⟩
            have HB3 := Lib.hid (below_drewN HB2.out q)
            clear HR1b HR2 HB2
            generalize w2.drewN q = w3 at *
            go_wp2_with fail
            refine (HTa.out _ (HRa.out.below HB3.out) (HM.out.below HB3.out)).mono ?_
            rintro e w4 ⟨rfl, hB4⟩
            have HB4 := Lib.hid (HB3.out.trans (hB4.mono HB3.out.size))
            have hs4 := HB4.out.size
            clear hB4 HB3
            have HX4 := Lib.hid (twoT_new w4 false [] 94)
            have HB5 := Lib.hid (HB4.out.alloc hs4 (.cells #[.bool false, .string (strB [])] 94))
            go_upto_region 5 with fail
            change Code.wp _ _ _ _ (w4.alloc (.cells #[.bool false, .string (strB [])] 94))
            generalize (w4.alloc (.cells #[.bool false, .string (strB [])] 94)) = W5 at *
            generalize w4.heap.size = N4 at *
            clear HB4 hs4
            go_wp2_with fail
            refine (HTb.out _ (HRb.out.below HB5.out) (HM.out.below HB5.out)).mono ?_
            rintro e w6 ⟨rfl, hB6⟩
            have HX6 := Lib.hid ((HX4.out.below hB6).below (below_new w6 (.cells #[.bool tb.1, .string (strB tb.2)] 94)))
            have HB6 := Lib.hid (HB5.out.trans (hB6.mono HB5.out.size))
            have hs6 := HB6.out.size
            have HY6 := Lib.hid (twoT_new w6 tb.1 tb.2 94)
            have HB7 := Lib.hid (HB6.out.alloc hs6 (.cells #[.bool tb.1, .string (strB tb.2)] 94))
            go_upto_region 6 with fail
            change Code.wp _ _ _ _ (w6.alloc (.cells #[.bool tb.1, .string (strB tb.2)] 94))
            generalize (w6.alloc (.cells #[.bool tb.1, .string (strB tb.2)] 94)) = W7 at *
            generalize w6.heap.size = N6 at *
            clear HB6 hs6 HB5 HX4 hB6
            obtain ⟨xa0, xa1, _, _, _⟩ := HX6.out
            obtain ⟨ya0, ya1, _, _, _⟩ := HY6.out
            go_wp2_with fail
            go_ret
            exact ⟨retB HV3.out.symm, HB7.out⟩
        | some ta =>
          unfold tgB at HTa
          cases tb with
          | none =>
            have HV3 := Lib.hid (show res = true by rw [HV2.out]; rfl)
            simp only [tgB] at HTb
            go_enter Tryz.func38, Tryz.ntmps38
            go_wp2_with fail
            refine HA.out.mono ?_
            rintro e w1 ⟨x1, c1, rfl, hR1, hB1⟩
            have HR1 := Lib.hid hR1
            clear hR1
            go_wp2_with fail
            refine (HB.out _ (HRb.out.below hB1)).mono ?_
            rintro e w2 ⟨x2, c2, rfl, hR2, hB2⟩
            have HR2 := Lib.hid hR2
            have HR1b := Lib.hid (HR1.out.below hB2)
            have HB2 := Lib.hid (hB1.trans (hB2.mono hB1.size))
            clear hR2 hB1 hB2 HR1
            go_wp2_with fail
            refine (HQ.out _ _ _ HR1b.out HR2.out).mono ?_
            rintro e w3 ⟨rfl, q, rfl⟩
            have HB3 := Lib.hid (below_drewN HB2.out q)
            clear HR1b HR2 HB2
            generalize w2.drewN q = w3 at *
            go_wp2_with fail
            refine (HTa.out _ (HRa.out.below HB3.out) (HM.out.below HB3.out)).mono ?_
            rintro e w4 ⟨rfl, hB4⟩
            have HB4 := Lib.hid (HB3.out.trans (hB4.mono HB3.out.size))
            have hs4 := HB4.out.size
            clear hB4 HB3
            have HX4 := Lib.hid (twoT_new w4 ta.1 ta.2 94)
            have HB5 := Lib.hid (HB4.out.alloc hs4 (.cells #[.bool ta.1, .string (strB ta.2)] 94))
            go_upto_region 5 with fail
            change Code.wp _ _ _ _ (w4.alloc (.cells #[.bool ta.1, .string (strB ta.2)] 94))
            generalize (w4.alloc (.cells #[.bool ta.1, .string (strB ta.2)] 94)) = W5 at *
            generalize w4.heap.size = N4 at *
            clear HB4 hs4
            go_wp2_with fail
            refine (HTb.out _ (HRb.out.below HB5.out) (HM.out.below HB5.out)).mono ?_
            rintro e w6 ⟨rfl, hB6⟩
            have HX6 := Lib.hid ((HX4.out.below hB6).below (below_new w6 (.cells #[.bool false, .string (strB [])] 94)))
            have HB6 := Lib.hid (HB5.out.trans (hB6.mono HB5.out.size))
            have hs6 := HB6.out.size
            have HY6 := Lib.hid (twoT_new w6 false [] 94)
            have HB7 := Lib.hid (HB6.out.alloc hs6 (.cells #[.bool false, .string (strB [])] 94))
            go_upto_region 6 with fail
            change Code.wp _ _ _ _ (w6.alloc (.cells #[.bool false, .string (strB [])] 94))
            generalize (w6.alloc (.cells #[.bool false, .string (strB [])] 94)) = W7 at *
            generalize w6.heap.size = N6 at *
            clear HB6 hs6 HB5 HX4 hB6
            obtain ⟨xa0, xa1, _, _, _⟩ := HX6.out
            obtain ⟨ya0, ya1, _, _, _⟩ := HY6.out
            go_wp2_with fail
            go_ret
            exact ⟨retB HV3.out.symm, HB7.out⟩
          | some tb =>
            have HV3 := Lib.hid (show res = !sameT false ta tb by rw [HV2.out]; unfold sameW sameT; simp)
            simp only [tgB] at HTb
            go_enter Tryz.func38, Tryz.ntmps38
            go_wp2_with fail
            refine HA.out.mono ?_
            rintro e w1 ⟨x1, c1, rfl, hR1, hB1⟩
            have HR1 := Lib.hid hR1
            clear hR1
            go_wp2_with fail
            refine (HB.out _ (HRb.out.below hB1)).mono ?_
            rintro e w2 ⟨x2, c2, rfl, hR2, hB2⟩
            have HR2 := Lib.hid hR2
            have HR1b := Lib.hid (HR1.out.below hB2)
            have HB2 := Lib.hid (hB1.trans (hB2.mono hB1.size))
            clear hR2 hB1 hB2 HR1
            go_wp2_with fail
            refine (HQ.out _ _ _ HR1b.out HR2.out).mono ?_
            rintro e w3 ⟨rfl, q, rfl⟩
            have HB3 := Lib.hid (below_drewN HB2.out q)
            clear HR1b HR2 HB2
            generalize w2.drewN q = w3 at *
            go_wp2_with fail
            refine (HTa.out _ (HRa.out.below HB3.out) (HM.out.below HB3.out)).mono ?_
            rintro e w4 ⟨rfl, hB4⟩
            have HB4 := Lib.hid (HB3.out.trans (hB4.mono HB3.out.size))
            have hs4 := HB4.out.size
            clear hB4 HB3
            have HX4 := Lib.hid (twoT_new w4 ta.1 ta.2 94)
            have HB5 := Lib.hid (HB4.out.alloc hs4 (.cells #[.bool ta.1, .string (strB ta.2)] 94))
            go_upto_region 5 with fail
            change Code.wp _ _ _ _ (w4.alloc (.cells #[.bool ta.1, .string (strB ta.2)] 94))
            generalize (w4.alloc (.cells #[.bool ta.1, .string (strB ta.2)] 94)) = W5 at *
            generalize w4.heap.size = N4 at *
            clear HB4 hs4
            go_wp2_with fail
            refine (HTb.out _ (HRb.out.below HB5.out) (HM.out.below HB5.out)).mono ?_
            rintro e w6 ⟨rfl, hB6⟩
            have HX6 := Lib.hid ((HX4.out.below hB6).below (below_new w6 (.cells #[.bool tb.1, .string (strB tb.2)] 94)))
            have HB6 := Lib.hid (HB5.out.trans (hB6.mono HB5.out.size))
            have hs6 := HB6.out.size
            have HY6 := Lib.hid (twoT_new w6 tb.1 tb.2 94)
            have HB7 := Lib.hid (HB6.out.alloc hs6 (.cells #[.bool tb.1, .string (strB tb.2)] 94))
            go_upto_region 6 with fail
            change Code.wp _ _ _ _ (w6.alloc (.cells #[.bool tb.1, .string (strB tb.2)] 94))
            generalize (w6.alloc (.cells #[.bool tb.1, .string (strB tb.2)] 94)) = W7 at *
            generalize w6.heap.size = N6 at *
            clear HB6 hs6 HB5 HX4 hB6
            obtain ⟨xa0, xa1, _, _, _⟩ := HX6.out
            obtain ⟨ya0, ya1, _, _, _⟩ := HY6.out
            go_wp2_with fail
            refine (weak_any ta tb _).mono ?_
            rintro e w8 ⟨rfl, hB8⟩
            go_wp2_with fail
            go_ret
            exact ⟨retB HV3.out.symm, HB7.out.trans (hB8.mono HB7.out.size)⟩
theorem fit_mem {ps qs : Flds} (h : FitL ps) (hl : qs.length ≤ ps.length) (hm : ∀ p ∈ qs, p ∈ ps) : FitL qs := ⟨Nat.le_trans hl h.len, fun p hp => h.each p (hm p hp)⟩
set_option maxHeartbeats 4000000 in
set_option maxRecDepth 100000 in
theorem repl_any (bv : Value) (b : Flds) (w : World) (hb : ReadsQ w bv b) (hl : b.length ≤ 3000) (he : ∀ p ∈ b, p.1.length + p.2.length ≤ 6000) :
    Calls Tryz.prog 39 #[bv] w fun e w' => ∃ v, e = .returned v ∧ OwnsP 58 w.heap.size w' v (putL b) ∧ Below w.heap.size w w' := by
  have HS := Lib.hid (strip_any bv b w hb hl he)
  have l1 := strip_len b
  have l2 := rem_len (stripL b) nCL
  have l3 := rem_len (remL (stripL b) nCL) nCE
  have e1 : ∀ p ∈ stripL b, p.1.length + p.2.length ≤ 1000000 := fun p hp => by have := he p (strip_mem hp); omega
  have e2 : ∀ p ∈ remL (stripL b) nCL, p.1.length + p.2.length ≤ 1000000 := fun p hp => e1 p (List.mem_filter.mp hp).1
  have e3 : ∀ p ∈ remL (remL (stripL b) nCL) nCE, p.1.length + p.2.length ≤ 1000000 := fun p hp => e2 p (List.mem_filter.mp hp).1
  have HR1 := Lib.hid (fun (v : Value) (w : World) (hr : ReadsQ w v (stripL b)) => remove_any v (stripL b) (strB nCL) w hr (by decide) (by omega) e1)
  have HR2 := Lib.hid (fun (v : Value) (w : World) (hr : ReadsQ w v (remL (stripL b) nCL)) => remove_any v (remL (stripL b) nCL) (strB nCE) w hr (by decide) (by omega) e2)
  have HR3 := Lib.hid (fun (v : Value) (w : World) (hr : ReadsQ w v (remL (remL (stripL b) nCL) nCE)) => remove_any v (remL (remL (stripL b) nCL) nCE) (strB nCG) w hr (by decide) (by omega) e3)
  rw [strB_list] at HR1 HR2 HR3
  clear hb he l1 l2 l3 e1 e2 e3 hl
  have HP := Lib.hid (show putL b = remL (remL (remL (stripL b) nCL) nCE) nCG from rfl)
  generalize putL b = P4 at *
  generalize stripL b = P1 at *
  generalize remL P1 nCL = P2 at *
  generalize remL P2 nCE = P3 at *
  go_enter Tryz.func39, Tryz.ntmps39
  go_wp2_with fail
  refine HS.out.mono ?_
  rintro e w1 ⟨v1, rfl, hO1, hB1⟩
  have HQ1 := Lib.hid hO1.q
  have HB1 := Lib.hid hB1
  clear hO1 hB1
  go_wp2_with fail
  refine (HR1.out _ _ HQ1.out).mono ?_
  rintro e w2 ⟨v2, rfl, hO2, hB2⟩
  have HQ2 := Lib.hid hO2.q
  have HB2 := Lib.hid (HB1.out.trans (hB2.mono HB1.out.size))
  clear hO2 hB2
  go_wp2_with fail
  refine (HR2.out _ _ HQ2.out).mono ?_
  rintro e w3 ⟨v3, rfl, hO3, hB3⟩
  have HQ3 := Lib.hid hO3.q
  have HB3 := Lib.hid (HB2.out.trans (hB3.mono HB2.out.size))
  clear hO3 hB3
  go_wp2_with fail
  refine (HR3.out _ _ HQ3.out).mono ?_
  rintro e w4 ⟨v4, rfl, hO4, hB4⟩
  have HO4 := Lib.hid (OwnsP.mono HB3.out.size hO4)
  have HB4 := Lib.hid (HB3.out.trans (hB4.mono HB3.out.size))
  clear hO4 hB4
  go_wp2_with fail
  go_ret
  exact ⟨_, rfl, by rw [HP.out]; exact HO4.out, HB4.out⟩
end Go.Proofs.YtoiampkdmjpljaaGreatDoor

/- What storable.Update returns. -/
namespace Go.Proofs.YtoiampkdmjpljaaGreatDoor
open Go.RowKit Go.Maps

abbrev errMix : Value := .iface 49 (.int .i64 20)
/-- While the names that are replaced are gathered: the map's box, the field's, and what was there before. -/
structure UpS (M N : Nat) (p : List UInt8 × List UInt8) (w2 w' : World) : Prop where
  m : w'.cell? ⟨M + 1, 0, none⟩ = some (.map (some M))
  c0 : w'.cell? ⟨N, 0, none⟩ = some (.string (strB p.1))
  l1 : M + 1 < N
  l2 : N < w'.heap.size
  b : Below M w2 w'
theorem UpS.below {M N : Nat} {p : List UInt8 × List UInt8} {w2 w w' : World} (h : UpS M N p w2 w) (hb : Below w.heap.size w w') : UpS M N p w2 w' :=
  ⟨(hb.cell (p := ⟨M + 1, 0, none⟩) (Nat.lt_trans h.l1 h.l2)).trans h.m, (hb.cell (p := ⟨N, 0, none⟩) h.l2).trans h.c0, h.l1, Nat.lt_of_lt_of_le h.l2 hb.size,
    h.b.trans (hb.mono (Nat.le_of_lt (Nat.lt_trans (Nat.lt_of_succ_lt h.l1) h.l2)))⟩
theorem UpS.put {M N : Nat} {p : List UInt8 × List UInt8} {w2 w w' : World} (h : UpS M N p w2 w) (hg : w.grownBy w' (some M)) : UpS M N p w2 w' := by
  have l1 := h.l1
  have l2 := h.l2
  refine ⟨hg.cell h.m (fun e => ?_), hg.cell h.c0 (fun e => ?_), h.l1, Nat.lt_of_lt_of_le h.l2 hg.size, h.b.grown hg (by omega) (fun k hk => by cases hk; exact Nat.le_refl _)⟩
  · have := Option.some.inj e; simp at this
  · have := Option.some.inj e; simp at this; omega
theorem upS_all {M N : Nat} {p : List UInt8 × List UInt8} {w2 w' : World} (h : UpS M N p w2 w') : w'.cell? ⟨M + 1, 0, none⟩ = some (.map (some M)) ∧ w'.cell? ⟨N, 0, none⟩ = some (.string (strB p.1)) ∧ UpS M N p w2 w' := ⟨h.m, h.c0, h⟩
theorem map_take {ps : Flds} {k : Nat} {p : List UInt8 × List UInt8} (h : ps[k]? = some p) : (ps.take (k + 1)).map (fun p => lowS p.1) = (ps.take k).map (fun p => lowS p.1) ++ [lowS p.1] := by
  rw [take_more h, List.map_append]; rfl
set_option maxHeartbeats 4000000 in
set_option maxRecDepth 100000 in
theorem update_mix (av : Value) (a : Flds) (bv : Value) (b : Flds) (w : World) (ha : ReadsQ w av a) (hfa : FitL a) (hb : ReadsQ w bv b) (hfb : FitL b) (hM : MaxIs w) (hx : mixB (allL a nET) (allL b nET) = true) :
    Calls Tryz.prog 17 #[av, bv] w fun e w' => e = .returned (.tuple #[.slice none 0 0, errMix]) ∧ Below w.heap.size w w' := by
  have HI := Lib.hid (isOther_any av a bv b w ha hfa hb hfb hM)
  rw [hx] at HI
  clear ha hfa hb hfb hM hx
  go_enter Tryz.func17, Tryz.ntmps17
  go_wp2_with fail
  refine HI.out.mono ?_
  rintro e w1 ⟨rfl, hB1⟩
  go_wp2_with fail
  go_ret2
  exact ⟨rfl, hB1⟩
set_option maxHeartbeats 16000000 in
set_option maxRecDepth 100000 in
theorem update_ok (av : Value) (a : Flds) (bv : Value) (b : Flds) (w : World) (ha : ReadsQ w av a) (hfa : FitL a) (hb : ReadsQ w bv b) (hl : b.length ≤ 3000) (he : ∀ p ∈ b, p.1.length + p.2.length ≤ 6000) (hM : MaxIs w) (hx : mixB (allL a nET) (allL b nET) = false) :
    Calls Tryz.prog 17 #[av, bv] w fun e w' => ∃ v, e = .returned (.tuple #[v, .nilIface]) ∧ OwnsP 58 w.heap.size w' v (updL a b) ∧ Below w.heap.size w w' := by
  obtain ⟨i0, hi, hz0, hz1, hz2⟩ := info_parts Tryz.infoF
  have hmm := @run_makeMap Tryz.prog
  have hfb : FitL b := ⟨by omega, fun p hp => by have := he p hp; omega⟩
  have HI := Lib.hid (isOther_any av a bv b w ha hfa hb hfb hM)
  rw [hx] at HI
  have HRp := Lib.hid (fun (w : World) (hb : ReadsQ w bv b) => repl_any bv b w hb hl he)
  have HCl := Lib.hid (fun (w : World) (ha : ReadsQ w av a) => clone_any av a w ha hfa.len)
  have HRa := Lib.hid ha
  have HRb := Lib.hid hb
  have hal := hfa.len
  have HEa := Lib.hid (show ∀ p ∈ a, p.1.length + p.2.length ≤ 1000000 from hfa.each6)
  have hPl := put_len b
  have HPe := Lib.hid (show ∀ p ∈ putL b, p.1.length + p.2.length ≤ 6000 from fun p hp => he p (put_mem hp))
  have HV := Lib.hid (show updL a b = (a.filter fun p => !decide (lowS p.1 ∈ (putL b).map fun p => lowS p.1)) ++ putL b from rfl)
  clear ha hfa hb hfb hM hx he
  generalize updL a b = U at *
  generalize putL b = P at *
  go_enter Tryz.func17, Tryz.ntmps17
  go_wp2_with fail
  refine HI.out.mono ?_
  rintro e w1 ⟨rfl, hB1⟩
  have HB1 := Lib.hid hB1
  clear hB1
  go_wp2_with fail
  refine (HRp.out _ (HRb.out.below HB1.out)).mono ?_
  rintro e w2 ⟨pv, rfl, hO2, hB2⟩
  have HB2 := Lib.hid (HB1.out.trans (hB2.mono HB1.out.size))
  have HPq := Lib.hid hO2.q
  have HPs := Lib.hid hO2.sane
  obtain ⟨pa, pc, rfl, hc⟩ := hO2.q
  have HC := Lib.hid hc
  have hs2 := HB2.out.size
  clear hc hB2 HB1 hO2
  go_upto_region 5 with fail
  change Code.wp _ _ _ _ ((w2.alloc (.map #[] 0)).alloc (.cells #[.map (some w2.heap.size)] 72))
  have h0 : HasL (w2.alloc (.map #[] 0)) w2.heap.size 0 [] := ⟨[], HasNames.made w2, fun x => Iff.rfl⟩
  have HH := Lib.hid (h0.below (below_new _ (.cells #[.map (some w2.heap.size)] 72)))
  have hc1 := cell_one_new (w2.alloc (.map #[] 0)) (.map (some w2.heap.size)) 72
  have hm1 : ((w2.alloc (.map #[] 0)).alloc (.cells #[.map (some w2.heap.size)] 72)).cell? ⟨w2.heap.size + 1, 0, none⟩ = some (.map (some w2.heap.size)) := by
    rw [show w2.heap.size + 1 = (w2.alloc (.map #[] 0)).heap.size by simp, World.cell?_alloc_at _ _ _ _ rfl]; rfl
  have HM1 := Lib.hid hm1
  have HB3 := Lib.hid (((below_new w2 (.map #[] 0)).alloc (by simp) (.cells #[.map (some w2.heap.size)] 72)))
  have hz3 : w2.heap.size + 2 ≤ ((w2.alloc (.map #[] 0)).alloc (.cells #[.map (some w2.heap.size)] 72)).heap.size := by simp
  clear h0 hc1 hm1 hmm
  generalize ((w2.alloc (.map #[] 0)).alloc (.cells #[.map (some w2.heap.size)] 72)) = W3 at *
  obtain ⟨M, hMM⟩ : ∃ M, w2.heap.size = M := ⟨_, rfl⟩
  rw [hMM] at HH HM1 HB3 hz3 hs2 ⊢
  have HMM := Lib.hid hMM
  clear hMM
  go_wp2_with fail
  go_loopw [20] (fun i wr => ∃ k : Nat, i = .int .i64 k ∧ k ≤ P.length ∧ HasL wr M k ((P.take k).map fun p => lowS p.1) ∧ wr.cell? ⟨M + 1, 0, none⟩ = some (.map (some M)) ∧ Below M w2 wr ∧ M + 2 ≤ wr.heap.size) (fun i _ => P.length - (intOf i).toNat)
  case atStart => exact ⟨0, rfl, Nat.zero_le _, HH.out, HM1.out, HB3.out, hz3⟩
  case round =>
    obtain ⟨k, rfl, hk, hH, hm, hBr, hz⟩ := hrel
    have HHk := Lib.hid hH
    have HBr := Lib.hid hBr
    have HMk := Lib.hid hm
    clear hH hBr hm
    by_cases hlt : k < P.length
    · obtain ⟨p, hp⟩ : ∃ p, P[k]? = some p := ⟨P[k], by simp [hlt]⟩
      obtain ⟨g, off, rfl, hg1, h1, h2⟩ := HC.out k p hp
      have hgM : g < M := by have := HMM.out; omega
      have hc1 : wr.cell? ⟨g, off + k * 2, none⟩ = some (.string (strB p.1)) := (HBr.out.cell (p := ⟨g, off + k * 2, none⟩) hgM).trans h1
      have hc2 : wr.cell? ⟨g, off + k * 2 + 1, none⟩ = some (.string (strB p.2)) := (HBr.out.cell (p := ⟨g, off + k * 2 + 1, none⟩) hgM).trans h2
      have hpl := HPe.out p (List.mem_of_getElem? hp)
      have HP := Lib.hid hp
      have HS8 := Lib.hid (show UpS M wr.heap.size p w2 (wr.alloc (.cells #[.string (strB p.1), .string (strB p.2)] 58)) from
        ⟨((below_new wr (.cells #[.string (strB p.1), .string (strB p.2)] 58)).cell (p := ⟨M + 1, 0, none⟩) (by show M + 1 < _; omega)).trans HMk.out, (new_pair wr _ _ _).1, by omega, by simp, HBr.out.alloc (by omega) _⟩)
      have HH8 := Lib.hid (HHk.out.below (below_new wr (.cells #[.string (strB p.1), .string (strB p.2)] 58)))
      have HL := Lib.hid (fun (w : World) => lower_any (strB p.1) w (by rw [strB_size]; omega))
      rw [strB_list] at HL
      clear hp h1 h2
      go_upto_region 8 with fail
      change Code.wp _ _ _ _ (wr.alloc (.cells #[.string (strB p.1), .string (strB p.2)] 58))
      generalize (wr.alloc (.cells #[.string (strB p.1), .string (strB p.2)] 58)) = W8 at *
      have hS0 := HS8.out.below (Below.refl _ _).drew
      have hH0 := HH8.out.below (Below.refl _ _).drew
      clear HS8 HH8 hc1 hc2
      refine wp_region_held_drew (S := (fun w' => w'.cell? ⟨M + 1, 0, none⟩ = some (.map (some M)) ∧ w'.cell? ⟨wr.heap.size, 0, none⟩ = some (.string (strB p.1)) ∧ UpS M wr.heap.size p w2 w')) (by kernel_rfl) (upS_all hS0) (fun hHeld => ?_)
      generalize W8.drew = V0 at *
      refine wpAnyH_take (i := 0) (oi := { dst := some 24, op := _, type := _, pos := _, after := _, guard := _ }) (v := ?_) rfl (by kernel_rfl) (by kernel_rfl) (by kernel_rfl) (fun _ _ _ h => h) (Or.inl ⟨by rfl, ?_⟩) (by assumption) ?_
      rotate_left
      focus (intro w hSw; (try dsimp only at hSw); first | (go_simp; done) | (go_simp; with_reducible rfl))
      (try simp only [Act.put, List.setIfInBounds_toArray, List.set_cons_zero, List.set_cons_succ])
      refine wpAnyH_take (i := 1) (oi := { dst := some 25, op := _, type := _, pos := _, after := _, guard := _ }) (v := ?_) rfl (by kernel_rfl) (by kernel_rfl) (by kernel_rfl) (fun _ _ _ h => h) (Or.inl ⟨by rfl, ?_⟩) (by assumption) ?_
      rotate_left
      focus (intro w hSw; (try dsimp only at hSw); first | (go_simp; done) | (go_simp; with_reducible rfl))
      (try simp only [Act.put, List.setIfInBounds_toArray, List.set_cons_zero, List.set_cons_succ])
      refine wpAnyH_take (i := 2) (oi := { dst := some 26, op := _, type := _, pos := _, after := _, guard := _ }) (v := ?_) rfl (by kernel_rfl) (by kernel_rfl) (by kernel_rfl) (fun _ _ _ h => h) (Or.inl ⟨by rfl, ?_⟩) (by assumption) ?_
      rotate_left
      focus (intro w hSw; (try dsimp only at hSw); first | (go_simp; done) | (go_simp; with_reducible rfl))
      (try simp only [Act.put, List.setIfInBounds_toArray, List.set_cons_zero, List.set_cons_succ])
      refine wpAnyH_ready (rs := [3]) (by kernel_rfl) (by simp) ?_
      refine AllReadyH.cons (o := { dst := some 27, op := _, type := _, pos := _, after := _, guard := _ }) rfl (fun K hK => ?_) AllReadyH.nil
      go_simp
      refine (HL.out _).mono ?_
      rintro e V1 ⟨rfl, hBc⟩
      have hS1 := hS0.below hBc
      have hH1 := hH0.below hBc
      obtain ⟨w5, hrun, hH5, hg5⟩ := hH1.put (lowS p.1) (by rw [lowS_len]; unfold maxLen; omega) (by unfold maxLen; omega)
      have hS5 := hS1.put hg5
      refine hK.out _ _ (upS_all hS1) (fun hHd => ?_)
      clear hK K hBc hS0 hH0 hHeld hH1 hS1
      (try simp only [Act.put, List.setIfInBounds_toArray, List.set_cons_zero, List.set_cons_succ])
      refine wpAnyH_ready (rs := [4]) (by kernel_rfl) (by simp) ?_
      refine AllReadyH.cons (o := { dst := none, op := _, type := _, pos := _, after := _, guard := _ }) rfl (fun K hK => ?_) AllReadyH.nil
      go_simp
      refine hK.out _ _ (upS_all hS5) (fun hHe => ?_)
      clear hK K hHd hrun
      (try simp only [Act.put, List.setIfInBounds_toArray, List.set_cons_zero, List.set_cons_succ])
      refine wpAnyH_done (by kernel_rfl) ?_ _
      (try simp only [Exit.inBlock, Exit.then])
      have HH5 := Lib.hid hH5
      have HS5 := Lib.hid hS5
      clear hH5 hS5 hg5
      (try go_wp2_with fail)
      go_roundw
      case rel => exact ⟨k + 1, by go_num, by omega, by rw [map_take HP.out]; exact HH5.out, HS5.out.m, HS5.out.b, by have := HS5.out.l1; have := HS5.out.l2; omega⟩
      case measure => simp [intOf]; omega
    · have hPk : P.take k = P := List.take_of_length_le (by omega)
      obtain ⟨ks, hN, hks⟩ := HHk.out
      rw [hPk] at hks
      have hE : CloU (M + 1) M k ks wr := ⟨HMk.out, hN, by omega⟩
      have HE := Lib.hid hE
      have HKs := Lib.hid hks
      have HBw := Lib.hid (HB2.out.trans (HBr.out.mono (by have := HMM.out; omega)))
      have HPr := Lib.hid (HPq.out.below (w' := wr) (by rw [HMM.out]; exact HBr.out))
      clear hPk hN hks hE
      go_wp2_with fail
      refine (HCl.out _ (HRa.out.below HBw.out)).mono ?_
      rintro e w6 ⟨cv, rfl, hO6, hB6⟩
      have HO6 := Lib.hid hO6
      have HE6 := Lib.hid (HE.out.below hB6)
      have HB6 := Lib.hid hB6
      have HPr6 := Lib.hid (HPr.out.below hB6)
      have hs6 := hB6.size
      clear hO6 hB6
      go_wp2_with fail
      refine (deleteF_any wr.heap.size cv a (M + 1) M k ks w6 HO6.out HE6.out (by omega) (by omega) hs6 (by omega) HEa.out).mono ?_
      rintro e w7 ⟨dv, rfl, hO7, hB7⟩
      have hde : (a.filter fun p => !decide (lowS p.1 ∈ ks)) = a.filter fun p => !decide (lowS p.1 ∈ P.map fun p => lowS p.1) := by
        refine List.filter_congr fun p _ => ?_
        by_cases h : lowS p.1 ∈ ks
        · rw [decide_eq_true h, decide_eq_true ((HKs.out _).mp h)]
        · rw [decide_eq_false h, decide_eq_false (fun e => h ((HKs.out _).mpr e))]
      rw [hde] at hO7
      have hfl : (a.filter fun p => !decide (lowS p.1 ∈ P.map fun p => lowS p.1)).length ≤ a.length := List.length_filter_le _ _
      have HO7 := Lib.hid hO7
      have HB7 := Lib.hid (HB6.out.trans hB7)
      have HR7 := Lib.hid (HPr.out.below HB7.out)
      have hs7 := HB7.out.size
      have HVu := Lib.hid HV.out
      clear hO7 hB7 hde HPr HPr6
      generalize (a.filter fun p => !decide (lowS p.1 ∈ P.map fun p => lowS p.1)) = F at *
      go_wp2_with (at_builtin; refine wpList_appendP hi hz0 hz1 hz2 Tryz.underlying37 rfl _ _ rfl _ _ rfl rfl HO7.out HR7.out HPs.out (by omega) (by omega) ?_; intro v8 w8 hO8 hg8)
      go_ret2
      refine ⟨_, rfl, ?_, ?_⟩
      · rw [HVu.out]; exact OwnsP.mono (by have := HBw.out.size; omega) hO8
      · exact (HBw.out.trans (HB7.out.mono (HBw.out.size))).grown hg8 (by have := HBw.out.size; omega) (fun q hq => Nat.le_trans HBw.out.size (World.ownsRow.lt HO7.out q hq).1)
end Go.Proofs.YtoiampkdmjpljaaGreatDoor

/- What the reference's Update of chapter 15 returns. -/
namespace Go.Proofs.YtoiampkdmjpljaaGreatDoor
open Go.RowKit Go.Maps

theorem refAllR_any (fv : Value) (ps : Flds) (n : List UInt8) (w : World) (hr : ReadsQ w fv ps) (hl : ps.length ≤ 1000000) (hb : ∀ p ∈ ps, p.1.length + p.2.length ≤ 1000000) (hn : n.length ≤ 1000000) :
    Calls Tryz.prog 34 #[fv, .string (strB n)] w fun e w' => ∃ a c, e = .returned (.slice a (allL ps n).length c) ∧ ReadsS w' (.slice a (allL ps n).length c) (allL ps n) ∧ Below w.heap.size w w' := by
  refine (refAll_any fv ps n w hr (by omega) hl hb).mono ?_
  rintro e w' ⟨v, rfl, hO, hB⟩
  have hR := hO.reads
  obtain ⟨a, c, rfl, _⟩ := id hR
  exact ⟨a, c, rfl, hR, hB⟩
/-- The names that a 304 may not replace, left out one after the other. -/
def putK (b : Flds) : Nat → Flds
  | 0 => stripL b
  | 1 => remL (stripL b) nCL
  | 2 => remL (remL (stripL b) nCL) nCE
  | _ => putL b
def keepN : List (List UInt8) := [nCL, nCE, nCG]
theorem putK_next {b : Flds} {k : Nat} {n : List UInt8} (h : keepN[k]? = some n) : remL (putK b k) n = putK b (k + 1) := by
  match k, h with
  | 0, h => cases h; rfl
  | 1, h => cases h; rfl
  | 2, h => cases h; rfl
  | k + 3, h => simp [keepN] at h
theorem putK_mem {b : Flds} {k : Nat} {p : List UInt8 × List UInt8} (h : p ∈ putK b k) : p ∈ b := by
  match k, h with
  | 0, h => exact strip_mem h
  | 1, h => exact strip_mem (List.mem_filter.mp h).1
  | 2, h => exact strip_mem (List.mem_filter.mp (List.mem_filter.mp h).1).1
  | k + 3, h => exact put_mem h
theorem putK_len (b : Flds) (k : Nat) : (putK b k).length ≤ b.length := by
  match k with
  | 0 => exact strip_len b
  | 1 => exact Nat.le_trans (rem_len _ _) (strip_len b)
  | 2 => exact Nat.le_trans (rem_len _ _) (Nat.le_trans (rem_len _ _) (strip_len b))
  | k + 3 => exact put_len b
abbrev keepV : Array Value := #[.string ⟨#[99, 111, 110, 116, 101, 110, 116, 45, 108, 101, 110, 103, 116, 104]⟩, .string ⟨#[99, 111, 110, 116, 101, 110, 116, 45, 101, 110, 99, 111, 100, 105, 110, 103]⟩, .string ⟨#[99, 111, 110, 116, 101, 110, 116, 45, 114, 97, 110, 103, 101]⟩]
theorem keep_at (w : World) : ∀ k n, keepN[k]? = some n → (w.alloc (.cells keepV 9)).cell? ⟨w.heap.size, k, none⟩ = some (.string (strB n)) := by
  intro k n h
  rw [World.cell?_alloc_at _ _ _ _ rfl]
  match k, h with
  | 0, h => cases h; rfl
  | 1, h => cases h; rfl
  | 2, h => cases h; rfl
  | k + 3, h => simp [keepN] at h
theorem fil_k {ps : Flds} {f : List UInt8 × List UInt8 → Bool} (k : Nat) : ((ps.take k).filter f).length ≤ ps.length :=
  Nat.le_trans (List.length_filter_le _ _) (by rw [List.length_take]; omega)
set_option maxHeartbeats 16000000 in
set_option maxRecDepth 100000 in
theorem refUpdate_mix (av : Value) (a : Flds) (bv : Value) (b : Flds) (w : World) (ha : ReadsQ w av a) (hfa : FitL a) (hb : ReadsQ w bv b) (hfb : FitL b) (hx : mixB (allL a nET) (allL b nET) = true) :
    Calls Tryz.prog 19 #[av, bv] w fun e w' => e = .returned (.tuple #[.slice none 0 0, .int .i64 20]) ∧ Below w.heap.size w w' := by
  have HA := Lib.hid (refAllR_any av a nET w ha (by have := hfa.len; omega) hfa.each6 (by decide))
  have HB := Lib.hid (fun (w : World) (hb : ReadsQ w bv b) => refAllR_any bv b nET w hb (by have := hfb.len; omega) hfb.each6 (by decide))
  have HTa := Lib.hid (fun (w : World) (ha : ReadsQ w av a) => refTagF_any av a w ha hfa)
  have HTb := Lib.hid (fun (w : World) (hb : ReadsQ w bv b) => refTagF_any bv b w hb hfb)
  have HRa := Lib.hid ha
  have HRb := Lib.hid hb
  have hla := all_len a nET
  have hlb := all_len b nET
  have hza := hfa.len
  have hzb := hfb.len
  clear ha hb hfa hfb
  have HV := Lib.hid (show (if allL a nET = [] ∨ allL b nET = [] ∨ allL a nET = allL b nET then false else !sameW (tagO (allL a nET)) (tagO (allL b nET))) = true from hx)
  clear hx
  generalize tagO (allL a nET) = ta at *
  generalize tagO (allL b nET) = tb at *
  generalize allL a nET = la at *
  generalize allL b nET = lb at *
  have HQ := Lib.hid (fun (x y : Value) (w : World) (hx : ReadsS w x la) (hy : ReadsS w y lb) => texts_any x y la lb w hx hy (by omega) (by omega))
  have hne : ¬ (la = [] ∨ lb = [] ∨ la = lb) := fun h => by have := HV.out; rw [if_pos h] at this; cases this
  have h1 : la ≠ [] := fun h => hne (.inl h)
  have h2 : lb ≠ [] := fun h => hne (.inr (.inl h))
  have h3 : la ≠ lb := fun h => hne (.inr (.inr h))
  have HW := Lib.hid (show sameW ta tb = false by have := HV.out; rw [if_neg hne] at this; cases h : sameW ta tb with | false => rfl | true => rw [h] at this; cases this)
  have ea : (0 : Int) < (la.length : Int) := by have : 0 < la.length := List.length_pos_iff.mpr h1; omega
  have eb : (0 : Int) < (lb.length : Int) := by have : 0 < lb.length := List.length_pos_iff.mpr h2; omega
  rw [decide_eq_false h3] at HQ
  clear hne h1 h2 h3 HV
  generalize la.length = na at *
  generalize lb.length = nb at *
  unfold tagB at HTa HTb
  cases ta with
  | none =>
    simp only at HTa
    cases tb with
    | none =>
      simp only at HTb
      go_enter Tryz.func19, Tryz.ntmps19
      go_wp2_with fail
      refine HA.out.mono ?_
      rintro e w1 ⟨x1, c1, rfl, hR1, hB1⟩
      have HR1 := Lib.hid hR1
      clear hR1
      go_wp2_with fail
      refine (HB.out _ (HRb.out.below hB1)).mono ?_
      rintro e w2 ⟨x2, c2, rfl, hR2, hB2⟩
      have HR2 := Lib.hid hR2
      have HR1b := Lib.hid (HR1.out.below hB2)
      have HB2 := Lib.hid (hB1.trans (hB2.mono hB1.size))
      clear hR2 hB1 hB2 HR1
      go_wp2_with fail
      refine (HQ.out _ _ _ HR1b.out HR2.out).mono ?_
      rintro e w3 ⟨rfl, q, rfl⟩
      have HB3 := Lib.hid (below_drewN HB2.out q)
      clear HR1b HR2 HB2
      generalize w2.drewN q = w3 at *
      go_wp2_with fail
      refine (HTa.out _ (HRa.out.below HB3.out)).mono ?_
      rintro e w4 ⟨rfl, hB4⟩
      have HB4 := Lib.hid (HB3.out.trans (hB4.mono HB3.out.size))
      clear hB4 HB3
      go_wp2_with fail
      refine (HTb.out _ (HRb.out.below HB4.out)).mono ?_
      rintro e w5 ⟨rfl, hB5⟩
      have HB5 := Lib.hid (HB4.out.trans (hB5.mono HB4.out.size))
      clear hB5 HB4
      go_wp2_with fail
      go_ret2
      exact ⟨rfl, HB5.out⟩
    | some tb =>
      simp only at HTb
      go_enter Tryz.func19, Tryz.ntmps19
      go_wp2_with fail
      refine HA.out.mono ?_
      rintro e w1 ⟨x1, c1, rfl, hR1, hB1⟩
      have HR1 := Lib.hid hR1
      clear hR1
      go_wp2_with fail
      refine (HB.out _ (HRb.out.below hB1)).mono ?_
      rintro e w2 ⟨x2, c2, rfl, hR2, hB2⟩
      have HR2 := Lib.hid hR2
      have HR1b := Lib.hid (HR1.out.below hB2)
      have HB2 := Lib.hid (hB1.trans (hB2.mono hB1.size))
      clear hR2 hB1 hB2 HR1
      go_wp2_with fail
      refine (HQ.out _ _ _ HR1b.out HR2.out).mono ?_
      rintro e w3 ⟨rfl, q, rfl⟩
      have HB3 := Lib.hid (below_drewN HB2.out q)
      clear HR1b HR2 HB2
      generalize w2.drewN q = w3 at *
      go_wp2_with fail
      refine (HTa.out _ (HRa.out.below HB3.out)).mono ?_
      rintro e w4 ⟨rfl, hB4⟩
      have HB4 := Lib.hid (HB3.out.trans (hB4.mono HB3.out.size))
      clear hB4 HB3
      go_wp2_with fail
      refine (HTb.out _ (HRb.out.below HB4.out)).mono ?_
      rintro e w5 ⟨rfl, hB5⟩
      have HB5 := Lib.hid (HB4.out.trans (hB5.mono HB4.out.size))
      clear hB5 HB4
      go_wp2_with fail
      go_ret2
      exact ⟨rfl, HB5.out⟩
  | some ta =>
    simp only at HTa
    cases tb with
    | none =>
      simp only at HTb
      go_enter Tryz.func19, Tryz.ntmps19
      go_wp2_with fail
      refine HA.out.mono ?_
      rintro e w1 ⟨x1, c1, rfl, hR1, hB1⟩
      have HR1 := Lib.hid hR1
      clear hR1
      go_wp2_with fail
      refine (HB.out _ (HRb.out.below hB1)).mono ?_
      rintro e w2 ⟨x2, c2, rfl, hR2, hB2⟩
      have HR2 := Lib.hid hR2
      have HR1b := Lib.hid (HR1.out.below hB2)
      have HB2 := Lib.hid (hB1.trans (hB2.mono hB1.size))
      clear hR2 hB1 hB2 HR1
      go_wp2_with fail
      refine (HQ.out _ _ _ HR1b.out HR2.out).mono ?_
      rintro e w3 ⟨rfl, q, rfl⟩
      have HB3 := Lib.hid (below_drewN HB2.out q)
      clear HR1b HR2 HB2
      generalize w2.drewN q = w3 at *
      go_wp2_with fail
      refine (HTa.out _ (HRa.out.below HB3.out)).mono ?_
      rintro e w4 ⟨rfl, hB4⟩
      have HB4 := Lib.hid (HB3.out.trans (hB4.mono HB3.out.size))
      clear hB4 HB3
      go_wp2_with fail
      refine (HTb.out _ (HRb.out.below HB4.out)).mono ?_
      rintro e w5 ⟨rfl, hB5⟩
      have HB5 := Lib.hid (HB4.out.trans (hB5.mono HB4.out.size))
      clear hB5 HB4
      go_wp2_with fail
      go_ret2
      exact ⟨rfl, HB5.out⟩
    | some tb =>
      simp only at HTb
      have hn := toList_other (a := ta.2) (b := tb.2) (fun e => by have := HW.out; unfold sameW at this; simp [e] at this)
      go_enter Tryz.func19, Tryz.ntmps19
      go_wp2_with fail
      refine HA.out.mono ?_
      rintro e w1 ⟨x1, c1, rfl, hR1, hB1⟩
      have HR1 := Lib.hid hR1
      clear hR1
      go_wp2_with fail
      refine (HB.out _ (HRb.out.below hB1)).mono ?_
      rintro e w2 ⟨x2, c2, rfl, hR2, hB2⟩
      have HR2 := Lib.hid hR2
      have HR1b := Lib.hid (HR1.out.below hB2)
      have HB2 := Lib.hid (hB1.trans (hB2.mono hB1.size))
      clear hR2 hB1 hB2 HR1
      go_wp2_with fail
      refine (HQ.out _ _ _ HR1b.out HR2.out).mono ?_
      rintro e w3 ⟨rfl, q, rfl⟩
      have HB3 := Lib.hid (below_drewN HB2.out q)
      clear HR1b HR2 HB2
      generalize w2.drewN q = w3 at *
      go_wp2_with fail
      refine (HTa.out _ (HRa.out.below HB3.out)).mono ?_
      rintro e w4 ⟨rfl, hB4⟩
      have HB4 := Lib.hid (HB3.out.trans (hB4.mono HB3.out.size))
      clear hB4 HB3
      go_wp2_with fail
      refine (HTb.out _ (HRb.out.below HB4.out)).mono ?_
      rintro e w5 ⟨rfl, hB5⟩
      have HB5 := Lib.hid (HB4.out.trans (hB5.mono HB4.out.size))
      clear hB5 HB4
      go_wp2_with fail
      go_ret2
      exact ⟨rfl, HB5.out⟩
set_option maxHeartbeats 32000000 in
set_option maxRecDepth 100000 in
theorem refUpdate_ok (av : Value) (a : Flds) (bv : Value) (b : Flds) (w : World) (ha : ReadsQ w av a) (hfa : FitL a) (hb : ReadsQ w bv b) (hp : Sane bv) (hl : b.length ≤ 3000) (he : ∀ p ∈ b, p.1.length + p.2.length ≤ 6000) (hx : mixB (allL a nET) (allL b nET) = false) :
    Calls Tryz.prog 19 #[av, bv] w fun e w' => ∃ v, e = .returned (.tuple #[v, .int .i64 0]) ∧ OwnsP 32 w.heap.size w' v (updL a b) ∧ Below w.heap.size w w' := by
  obtain ⟨i0, hi, hz0, hz1, hz2⟩ := info_parts Tryz.infoG
  have hfb : FitL b := ⟨by omega, fun p hp => by have := he p hp; omega⟩
  have hal := hfa.len
  have HEa := Lib.hid (show ∀ p ∈ a, p.1.length + p.2.length ≤ 1000000 from hfa.each6)
  have HEb := Lib.hid (show ∀ p ∈ b, p.1.length + p.2.length ≤ 6000 from he)
  have HSt := Lib.hid (fun (w : World) (hb : ReadsQ w bv b) => refStrip_any bv b w hb hp hl he)
  have HVu := Lib.hid (show updL a b = (a.filter fun p => !inN (putL b) p) ++ putL b from rfl)
  clear he hp
  have HA := Lib.hid (refAllR_any av a nET w ha (by have := hfa.len; omega) hfa.each6 (by decide))
  have HB := Lib.hid (fun (w : World) (hb : ReadsQ w bv b) => refAllR_any bv b nET w hb (by have := hfb.len; omega) hfb.each6 (by decide))
  have HTa := Lib.hid (fun (w : World) (ha : ReadsQ w av a) => refTagF_any av a w ha hfa)
  have HTb := Lib.hid (fun (w : World) (hb : ReadsQ w bv b) => refTagF_any bv b w hb hfb)
  have HRa := Lib.hid ha
  have HRb := Lib.hid hb
  have hla := all_len a nET
  have hlb := all_len b nET
  have hza := hfa.len
  have hzb := hfb.len
  clear ha hb hfa hfb
  have HV := Lib.hid (show (if allL a nET = [] ∨ allL b nET = [] ∨ allL a nET = allL b nET then false else !sameW (tagO (allL a nET)) (tagO (allL b nET))) = false from hx)
  clear hx
  generalize tagO (allL a nET) = ta at *
  generalize tagO (allL b nET) = tb at *
  generalize allL a nET = la at *
  generalize allL b nET = lb at *
  have HQ := Lib.hid (fun (x y : Value) (w : World) (hx : ReadsS w x la) (hy : ReadsS w y lb) => texts_any x y la lb w hx hy (by omega) (by omega))
  generalize updL a b = U at *
  have ea := len0 la
  have eb := len0 lb
  by_cases h1 : la = []
  · have ea2 : ¬ (0 : Int) < (la.length : Int) := by rw [h1]; simp
    clear h1 HV ea eb HQ HTa HTb
    generalize la.length = na at *
    generalize lb.length = nb at *
    go_enter Tryz.func19, Tryz.ntmps19
    go_wp2_with fail
    refine HA.out.mono ?_
    rintro e w1 ⟨x1, c1, rfl, hR1, hB1⟩
    have HR1 := Lib.hid hR1
    clear hR1
    go_wp2_with fail
    refine (HB.out _ (HRb.out.below hB1)).mono ?_
    rintro e w2 ⟨x2, c2, rfl, hR2, hB2⟩
    have HR2 := Lib.hid hR2
    have HR1b := Lib.hid (HR1.out.below hB2)
    have HB2 := Lib.hid (hB1.trans (hB2.mono hB1.size))
    clear hR2 hB1 hB2 HR1
    have HBx := Lib.hid HB2.out
    clear HB2 HR1b HR2
    go_wp2_with fail
    refine (HSt.out _ (HRb.out.below HBx.out)).mono ?_
    rintro e w6 ⟨sv, rfl, hO6, hB6⟩
    have HS6 := Lib.hid hO6.q
    have HSs := Lib.hid hO6.sane
    have HB6 := Lib.hid (HBx.out.trans (hB6.mono HBx.out.size))
    have HKn := Lib.hid (keep_at w6)
    have HB7 := Lib.hid (HB6.out.alloc HB6.out.size (.cells keepV 9))
    have HS7 := Lib.hid (hO6.q.below (below_new w6 (.cells keepV 9)))
    have hz7 : w6.heap.size < (w6.alloc (.cells keepV 9)).heap.size := by simp
    clear hO6 hB6 HB6 HBx HS6
    go_upto_region 9 with fail
    change Code.wp _ _ _ _ (w6.alloc (.cells keepV 9))
    generalize (w6.alloc (.cells keepV 9)) = W7 at *
    generalize w6.heap.size = NK at *
    go_loopw [1, 60] (fun v i wr => ∃ k : Nat, i = .int .i64 k ∧ k ≤ 3 ∧ ReadsQ wr v (putK b k) ∧ Sane v ∧ Below W7.heap.size W7 wr) (fun _ i _ => 3 - (intOf i).toNat)
    case atStart => exact ⟨0, rfl, Nat.zero_le _, HS7.out, HSs.out, Below.refl _ _⟩
    case round =>
      obtain ⟨k, rfl, hk, hQ, hS, hBr⟩ := hrel
      have hbr := hBr.size
      have HQk := Lib.hid hQ
      have HSk := Lib.hid hS
      have HBr := Lib.hid hBr
      clear hQ hS hBr
      by_cases hlt : k < 3
      · obtain ⟨nm, hnm⟩ : ∃ nm, keepN[k]? = some nm := ⟨keepN[k]'(by simpa [keepN] using hlt), by simp⟩
        have hcell : wr.cell? ⟨NK, k, none⟩ = some (.string (strB nm)) := (HBr.out.cell (p := ⟨NK, k, none⟩) hz7).trans (HKn.out k nm hnm)
        have hnl : nm.length ≤ 100 := by
          have : nm ∈ keepN := List.mem_of_getElem? hnm
          simp only [keepN, List.mem_cons, List.not_mem_nil, or_false] at this
          rcases this with rfl | rfl | rfl <;> decide
        have HN := Lib.hid (putK_next (b := b) hnm)
        have HRm := Lib.hid (fun (v : Value) (w : World) (hr : ReadsQ w v (putK b k)) => refRemove_any v (putK b k) nm w hr (by omega) (by have := putK_len b k; omega) (fun p hp => by have := HEb.out p (putK_mem hp); omega))
        clear hnm
        rw [HN.out] at HRm
        go_wp2_with fail
        refine (HRm.out _ _ HQk.out).mono ?_
        rintro e w8 ⟨v8, rfl, hO8, hB8⟩
        have HQ8 := Lib.hid hO8.q
        have HS8 := Lib.hid hO8.sane
        have HB8 := Lib.hid (HBr.out.trans (hB8.mono hbr))
        clear hO8 hB8
        go_wp2_with fail
        go_roundw
        case rel => exact ⟨k + 1, by go_num, by omega, HQ8.out, HS8.out, HB8.out⟩
        case measure => simp [intOf]; omega
      · have hk3 : k = 3 := by omega
        have HP3 := Lib.hid (show ReadsQ wr _ (putL b) from (by have h := HQk.out; rw [hk3] at h; exact h))
        clear hk3
        have HB8 := Lib.hid (HB7.out.trans (HBr.out.mono HB7.out.size))
        obtain ⟨pa, pc, rfl, hpc⟩ := HP3.out
        have hPl := put_len b
        have HPe := Lib.hid (show ∀ p ∈ putL b, p.1.length + p.2.length ≤ 1000000 from fun p hp => by have := HEb.out p (put_mem hp); omega)
        clear hpc HQk HBr HKn
        generalize putL b = P at *
        obtain ⟨ao, ac, hav, hac⟩ := HRa.out.below HB8.out
        subst hav
        have HC := Lib.hid hac
        clear hac
        rename World => wq
        go_wp2_with fail
        go_loopw [14, 70] (fun v i wr => ∃ k : Nat, i = .int .i64 k ∧ k ≤ a.length ∧ OwnsP 32 wq.heap.size wr v ((a.take k).filter fun p => !inN P p) ∧ Below wq.heap.size wq wr) (fun _ i _ => a.length - (intOf i).toNat)
        case atStart => exact ⟨0, rfl, Nat.zero_le _, OwnsP.nil _ _ _, Below.refl _ _⟩
        case round =>
          obtain ⟨k, rfl, hk, hO, hBr⟩ := hrel
          have hbr2 := hBr.size
          have hfk := fil_k (ps := a) (f := fun p => !inN P p) k
          by_cases hlt2 : k < a.length
          · obtain ⟨p, hp⟩ : ∃ p, a[k]? = some p := ⟨a[k], by simp [hlt2]⟩
            obtain ⟨g, off, rfl, hg1, h1, h2⟩ := HC.out k p hp
            have hc1 : wr.cell? ⟨g, off + k * 2, none⟩ = some (.string (strB p.1)) := (hBr.cell (p := ⟨g, off + k * 2, none⟩) hg1).trans h1
            have hc2 : wr.cell? ⟨g, off + k * 2 + 1, none⟩ = some (.string (strB p.2)) := (hBr.cell (p := ⟨g, off + k * 2 + 1, none⟩) hg1).trans h2
            have hpl := HEa.out p (List.mem_of_getElem? hp)
            have HP := Lib.hid hp
            have HAl := Lib.hid (fun (w : World) (hr : ReadsQ w (.slice pa P.length pc) P) => refAllR_any (.slice pa P.length pc) P p.1 w hr (by omega) HPe.out (by omega))
            have HRP := Lib.hid (HP3.out.below hBr)
            have HIn := Lib.hid (inN_all P p)
            clear hp h1 h2
            generalize allL P p.1 = lp at *
            cases hin : inN P p with
            | true =>
              have hlp : ((lp.length : Int) == 0) = false := by
                rw [len0]
                have := HIn.out
                rw [hin] at this
                have := of_decide_eq_true this.symm
                exact decide_eq_false this
              have HI := Lib.hid (show (!inN P p) = false by rw [hin]; rfl)
              clear hin
              generalize lp.length = nlp at *
              go_wp2_with fail
              refine (HAl.out _ (HRP.out.below (below_new _ _))).mono ?_
              rintro e w9 ⟨x9, c9, rfl, hR9, hB9⟩
              have hB9' := below_pair' hB9
              clear hR9 hB9
              go_wp2_with fail
              go_roundw
              case rel => exact ⟨k + 1, by go_num, by omega, by rw [fil_no HP.out HI.out]; exact OwnsP.below hO hB9', hBr.trans (hB9'.mono hbr2)⟩
              case measure => simp [intOf]; omega
            | false =>
              have hlp : ((lp.length : Int) == 0) = true := by
                rw [len0]
                have := HIn.out
                rw [hin] at this
                have := of_decide_eq_false this.symm
                exact decide_eq_true (by simpa using this)
              have HI := Lib.hid (show (!inN P p) = true by rw [hin]; rfl)
              clear hin
              generalize lp.length = nlp at *
              go_wp2_with fail
              refine (HAl.out _ (HRP.out.below (below_new _ _))).mono ?_
              rintro e w9 ⟨x9, c9, rfl, hR9, hB9⟩
              obtain ⟨d1, d2⟩ := pair_kept hB9
              have hB9' := below_pair' hB9
              have hs9 := hB9'.size
              clear hR9 hB9 hc1 hc2
              go_wp2_with (at_builtin; refine wpList_append_own _ rfl _ _ 22 rfl wq.heap.size 32 i0 (.agg #[.string ByteArray.empty, .string ByteArray.empty]) 2 32 Tryz.underlying22 hi hz0 hz1 hz2 rfl (by decide) _ _ _ rfl (World.ownsRow.alloc (OwnsP.below hO hB9') _) ⟨w9.heap.size, 0, none⟩ 1 1 [strV p.1, strV p.2] rfl rfl (two_new w9 p.1 p.2 _) (fun u hu => by simp at hu; rcases hu with rfl | rfl <;> rfl) (by unfold maxLen; omega) (by omega) (by simp; omega) ?_; intro v' w10 hown' hgrow _)
              go_roundw
              case rel => exact ⟨k + 1, by go_num, by omega, by rw [fil_yes HP.out HI.out]; exact OwnsP.snoc hown', below_appendP hBr hbr2 hB9' hO hgrow⟩
              case measure => simp [intOf]; omega
          · have htk : a.take k = a := List.take_of_length_le (by omega)
            rw [htk] at hO hfk
            have HO := Lib.hid hO
            have HBr := Lib.hid hBr
            have HRP := Lib.hid (HP3.out.below hBr)
            clear hO hBr htk
            generalize (a.filter fun p => !inN P p) = F at *
            go_wp2_with (at_builtin; refine wpList_appendP hi hz0 hz1 hz2 Tryz.underlying22 rfl _ _ rfl _ _ rfl rfl HO.out HRP.out HSk.out (by omega) (by omega) ?_; intro v11 w11 hO11 hg11)
            go_ret2
            refine ⟨_, rfl, ?_, ?_⟩
            · rw [HVu.out]; exact OwnsP.mono HB8.out.size hO11
            · exact (HB8.out.trans (HBr.out.mono HB8.out.size)).grown hg11 (by have := HB8.out.size; omega) (fun q hq => Nat.le_trans HB8.out.size (World.ownsRow.lt HO.out q hq).1)
  have ea2 : (0 : Int) < (la.length : Int) := by have : 0 < la.length := List.length_pos_iff.mpr h1; omega
  by_cases h2 : lb = []
  · have eb2 : ¬ (0 : Int) < (lb.length : Int) := by rw [h2]; simp
    clear h1 h2 HV ea eb HQ HTa HTb
    generalize la.length = na at *
    generalize lb.length = nb at *
    go_enter Tryz.func19, Tryz.ntmps19
    go_wp2_with fail
    refine HA.out.mono ?_
    rintro e w1 ⟨x1, c1, rfl, hR1, hB1⟩
    have HR1 := Lib.hid hR1
    clear hR1
    go_wp2_with fail
    refine (HB.out _ (HRb.out.below hB1)).mono ?_
    rintro e w2 ⟨x2, c2, rfl, hR2, hB2⟩
    have HR2 := Lib.hid hR2
    have HR1b := Lib.hid (HR1.out.below hB2)
    have HB2 := Lib.hid (hB1.trans (hB2.mono hB1.size))
    clear hR2 hB1 hB2 HR1
    have HBx := Lib.hid HB2.out
    clear HB2 HR1b HR2
    go_wp2_with fail
    refine (HSt.out _ (HRb.out.below HBx.out)).mono ?_
    rintro e w6 ⟨sv, rfl, hO6, hB6⟩
    have HS6 := Lib.hid hO6.q
    have HSs := Lib.hid hO6.sane
    have HB6 := Lib.hid (HBx.out.trans (hB6.mono HBx.out.size))
    have HKn := Lib.hid (keep_at w6)
    have HB7 := Lib.hid (HB6.out.alloc HB6.out.size (.cells keepV 9))
    have HS7 := Lib.hid (hO6.q.below (below_new w6 (.cells keepV 9)))
    have hz7 : w6.heap.size < (w6.alloc (.cells keepV 9)).heap.size := by simp
    clear hO6 hB6 HB6 HBx HS6
    go_upto_region 9 with fail
    change Code.wp _ _ _ _ (w6.alloc (.cells keepV 9))
    generalize (w6.alloc (.cells keepV 9)) = W7 at *
    generalize w6.heap.size = NK at *
    go_loopw [1, 60] (fun v i wr => ∃ k : Nat, i = .int .i64 k ∧ k ≤ 3 ∧ ReadsQ wr v (putK b k) ∧ Sane v ∧ Below W7.heap.size W7 wr) (fun _ i _ => 3 - (intOf i).toNat)
    case atStart => exact ⟨0, rfl, Nat.zero_le _, HS7.out, HSs.out, Below.refl _ _⟩
    case round =>
      obtain ⟨k, rfl, hk, hQ, hS, hBr⟩ := hrel
      have hbr := hBr.size
      have HQk := Lib.hid hQ
      have HSk := Lib.hid hS
      have HBr := Lib.hid hBr
      clear hQ hS hBr
      by_cases hlt : k < 3
      · obtain ⟨nm, hnm⟩ : ∃ nm, keepN[k]? = some nm := ⟨keepN[k]'(by simpa [keepN] using hlt), by simp⟩
        have hcell : wr.cell? ⟨NK, k, none⟩ = some (.string (strB nm)) := (HBr.out.cell (p := ⟨NK, k, none⟩) hz7).trans (HKn.out k nm hnm)
        have hnl : nm.length ≤ 100 := by
          have : nm ∈ keepN := List.mem_of_getElem? hnm
          simp only [keepN, List.mem_cons, List.not_mem_nil, or_false] at this
          rcases this with rfl | rfl | rfl <;> decide
        have HN := Lib.hid (putK_next (b := b) hnm)
        have HRm := Lib.hid (fun (v : Value) (w : World) (hr : ReadsQ w v (putK b k)) => refRemove_any v (putK b k) nm w hr (by omega) (by have := putK_len b k; omega) (fun p hp => by have := HEb.out p (putK_mem hp); omega))
        clear hnm
        rw [HN.out] at HRm
        go_wp2_with fail
        refine (HRm.out _ _ HQk.out).mono ?_
        rintro e w8 ⟨v8, rfl, hO8, hB8⟩
        have HQ8 := Lib.hid hO8.q
        have HS8 := Lib.hid hO8.sane
        have HB8 := Lib.hid (HBr.out.trans (hB8.mono hbr))
        clear hO8 hB8
        go_wp2_with fail
        go_roundw
        case rel => exact ⟨k + 1, by go_num, by omega, HQ8.out, HS8.out, HB8.out⟩
        case measure => simp [intOf]; omega
      · have hk3 : k = 3 := by omega
        have HP3 := Lib.hid (show ReadsQ wr _ (putL b) from (by have h := HQk.out; rw [hk3] at h; exact h))
        clear hk3
        have HB8 := Lib.hid (HB7.out.trans (HBr.out.mono HB7.out.size))
        obtain ⟨pa, pc, rfl, hpc⟩ := HP3.out
        have hPl := put_len b
        have HPe := Lib.hid (show ∀ p ∈ putL b, p.1.length + p.2.length ≤ 1000000 from fun p hp => by have := HEb.out p (put_mem hp); omega)
        clear hpc HQk HBr HKn
        generalize putL b = P at *
        obtain ⟨ao, ac, hav, hac⟩ := HRa.out.below HB8.out
        subst hav
        have HC := Lib.hid hac
        clear hac
        rename World => wq
        go_wp2_with fail
        go_loopw [14, 70] (fun v i wr => ∃ k : Nat, i = .int .i64 k ∧ k ≤ a.length ∧ OwnsP 32 wq.heap.size wr v ((a.take k).filter fun p => !inN P p) ∧ Below wq.heap.size wq wr) (fun _ i _ => a.length - (intOf i).toNat)
        case atStart => exact ⟨0, rfl, Nat.zero_le _, OwnsP.nil _ _ _, Below.refl _ _⟩
        case round =>
          obtain ⟨k, rfl, hk, hO, hBr⟩ := hrel
          have hbr2 := hBr.size
          have hfk := fil_k (ps := a) (f := fun p => !inN P p) k
          by_cases hlt2 : k < a.length
          · obtain ⟨p, hp⟩ : ∃ p, a[k]? = some p := ⟨a[k], by simp [hlt2]⟩
            obtain ⟨g, off, rfl, hg1, h1, h2⟩ := HC.out k p hp
            have hc1 : wr.cell? ⟨g, off + k * 2, none⟩ = some (.string (strB p.1)) := (hBr.cell (p := ⟨g, off + k * 2, none⟩) hg1).trans h1
            have hc2 : wr.cell? ⟨g, off + k * 2 + 1, none⟩ = some (.string (strB p.2)) := (hBr.cell (p := ⟨g, off + k * 2 + 1, none⟩) hg1).trans h2
            have hpl := HEa.out p (List.mem_of_getElem? hp)
            have HP := Lib.hid hp
            have HAl := Lib.hid (fun (w : World) (hr : ReadsQ w (.slice pa P.length pc) P) => refAllR_any (.slice pa P.length pc) P p.1 w hr (by omega) HPe.out (by omega))
            have HRP := Lib.hid (HP3.out.below hBr)
            have HIn := Lib.hid (inN_all P p)
            clear hp h1 h2
            generalize allL P p.1 = lp at *
            cases hin : inN P p with
            | true =>
              have hlp : ((lp.length : Int) == 0) = false := by
                rw [len0]
                have := HIn.out
                rw [hin] at this
                have := of_decide_eq_true this.symm
                exact decide_eq_false this
              have HI := Lib.hid (show (!inN P p) = false by rw [hin]; rfl)
              clear hin
              generalize lp.length = nlp at *
              go_wp2_with fail
              refine (HAl.out _ (HRP.out.below (below_new _ _))).mono ?_
              rintro e w9 ⟨x9, c9, rfl, hR9, hB9⟩
              have hB9' := below_pair' hB9
              clear hR9 hB9
              go_wp2_with fail
              go_roundw
              case rel => exact ⟨k + 1, by go_num, by omega, by rw [fil_no HP.out HI.out]; exact OwnsP.below hO hB9', hBr.trans (hB9'.mono hbr2)⟩
              case measure => simp [intOf]; omega
            | false =>
              have hlp : ((lp.length : Int) == 0) = true := by
                rw [len0]
                have := HIn.out
                rw [hin] at this
                have := of_decide_eq_false this.symm
                exact decide_eq_true (by simpa using this)
              have HI := Lib.hid (show (!inN P p) = true by rw [hin]; rfl)
              clear hin
              generalize lp.length = nlp at *
              go_wp2_with fail
              refine (HAl.out _ (HRP.out.below (below_new _ _))).mono ?_
              rintro e w9 ⟨x9, c9, rfl, hR9, hB9⟩
              obtain ⟨d1, d2⟩ := pair_kept hB9
              have hB9' := below_pair' hB9
              have hs9 := hB9'.size
              clear hR9 hB9 hc1 hc2
              go_wp2_with (at_builtin; refine wpList_append_own _ rfl _ _ 22 rfl wq.heap.size 32 i0 (.agg #[.string ByteArray.empty, .string ByteArray.empty]) 2 32 Tryz.underlying22 hi hz0 hz1 hz2 rfl (by decide) _ _ _ rfl (World.ownsRow.alloc (OwnsP.below hO hB9') _) ⟨w9.heap.size, 0, none⟩ 1 1 [strV p.1, strV p.2] rfl rfl (two_new w9 p.1 p.2 _) (fun u hu => by simp at hu; rcases hu with rfl | rfl <;> rfl) (by unfold maxLen; omega) (by omega) (by simp; omega) ?_; intro v' w10 hown' hgrow _)
              go_roundw
              case rel => exact ⟨k + 1, by go_num, by omega, by rw [fil_yes HP.out HI.out]; exact OwnsP.snoc hown', below_appendP hBr hbr2 hB9' hO hgrow⟩
              case measure => simp [intOf]; omega
          · have htk : a.take k = a := List.take_of_length_le (by omega)
            rw [htk] at hO hfk
            have HO := Lib.hid hO
            have HBr := Lib.hid hBr
            have HRP := Lib.hid (HP3.out.below hBr)
            clear hO hBr htk
            generalize (a.filter fun p => !inN P p) = F at *
            go_wp2_with (at_builtin; refine wpList_appendP hi hz0 hz1 hz2 Tryz.underlying22 rfl _ _ rfl _ _ rfl rfl HO.out HRP.out HSk.out (by omega) (by omega) ?_; intro v11 w11 hO11 hg11)
            go_ret2
            refine ⟨_, rfl, ?_, ?_⟩
            · rw [HVu.out]; exact OwnsP.mono HB8.out.size hO11
            · exact (HB8.out.trans (HBr.out.mono HB8.out.size)).grown hg11 (by have := HB8.out.size; omega) (fun q hq => Nat.le_trans HB8.out.size (World.ownsRow.lt HO.out q hq).1)
  have eb2 : (0 : Int) < (lb.length : Int) := by have : 0 < lb.length := List.length_pos_iff.mpr h2; omega
  by_cases h3 : la = lb
  · rw [decide_eq_true h3] at HQ
    clear h1 h2 h3 HV ea eb HTa HTb
    generalize la.length = na at *
    generalize lb.length = nb at *
    go_enter Tryz.func19, Tryz.ntmps19
    go_wp2_with fail
    refine HA.out.mono ?_
    rintro e w1 ⟨x1, c1, rfl, hR1, hB1⟩
    have HR1 := Lib.hid hR1
    clear hR1
    go_wp2_with fail
    refine (HB.out _ (HRb.out.below hB1)).mono ?_
    rintro e w2 ⟨x2, c2, rfl, hR2, hB2⟩
    have HR2 := Lib.hid hR2
    have HR1b := Lib.hid (HR1.out.below hB2)
    have HB2 := Lib.hid (hB1.trans (hB2.mono hB1.size))
    clear hR2 hB1 hB2 HR1
    go_wp2_with fail
    refine (HQ.out _ _ _ HR1b.out HR2.out).mono ?_
    rintro e w3 ⟨rfl, q, rfl⟩
    have HB3 := Lib.hid (below_drewN HB2.out q)
    clear HR1b HR2 HB2
    generalize w2.drewN q = w3 at *
    have HBx := Lib.hid HB3.out
    clear HB3
    go_wp2_with fail
    refine (HSt.out _ (HRb.out.below HBx.out)).mono ?_
    rintro e w6 ⟨sv, rfl, hO6, hB6⟩
    have HS6 := Lib.hid hO6.q
    have HSs := Lib.hid hO6.sane
    have HB6 := Lib.hid (HBx.out.trans (hB6.mono HBx.out.size))
    have HKn := Lib.hid (keep_at w6)
    have HB7 := Lib.hid (HB6.out.alloc HB6.out.size (.cells keepV 9))
    have HS7 := Lib.hid (hO6.q.below (below_new w6 (.cells keepV 9)))
    have hz7 : w6.heap.size < (w6.alloc (.cells keepV 9)).heap.size := by simp
    clear hO6 hB6 HB6 HBx HS6
    go_upto_region 9 with fail
    change Code.wp _ _ _ _ (w6.alloc (.cells keepV 9))
    generalize (w6.alloc (.cells keepV 9)) = W7 at *
    generalize w6.heap.size = NK at *
    go_loopw [1, 60] (fun v i wr => ∃ k : Nat, i = .int .i64 k ∧ k ≤ 3 ∧ ReadsQ wr v (putK b k) ∧ Sane v ∧ Below W7.heap.size W7 wr) (fun _ i _ => 3 - (intOf i).toNat)
    case atStart => exact ⟨0, rfl, Nat.zero_le _, HS7.out, HSs.out, Below.refl _ _⟩
    case round =>
      obtain ⟨k, rfl, hk, hQ, hS, hBr⟩ := hrel
      have hbr := hBr.size
      have HQk := Lib.hid hQ
      have HSk := Lib.hid hS
      have HBr := Lib.hid hBr
      clear hQ hS hBr
      by_cases hlt : k < 3
      · obtain ⟨nm, hnm⟩ : ∃ nm, keepN[k]? = some nm := ⟨keepN[k]'(by simpa [keepN] using hlt), by simp⟩
        have hcell : wr.cell? ⟨NK, k, none⟩ = some (.string (strB nm)) := (HBr.out.cell (p := ⟨NK, k, none⟩) hz7).trans (HKn.out k nm hnm)
        have hnl : nm.length ≤ 100 := by
          have : nm ∈ keepN := List.mem_of_getElem? hnm
          simp only [keepN, List.mem_cons, List.not_mem_nil, or_false] at this
          rcases this with rfl | rfl | rfl <;> decide
        have HN := Lib.hid (putK_next (b := b) hnm)
        have HRm := Lib.hid (fun (v : Value) (w : World) (hr : ReadsQ w v (putK b k)) => refRemove_any v (putK b k) nm w hr (by omega) (by have := putK_len b k; omega) (fun p hp => by have := HEb.out p (putK_mem hp); omega))
        clear hnm
        rw [HN.out] at HRm
        go_wp2_with fail
        refine (HRm.out _ _ HQk.out).mono ?_
        rintro e w8 ⟨v8, rfl, hO8, hB8⟩
        have HQ8 := Lib.hid hO8.q
        have HS8 := Lib.hid hO8.sane
        have HB8 := Lib.hid (HBr.out.trans (hB8.mono hbr))
        clear hO8 hB8
        go_wp2_with fail
        go_roundw
        case rel => exact ⟨k + 1, by go_num, by omega, HQ8.out, HS8.out, HB8.out⟩
        case measure => simp [intOf]; omega
      · have hk3 : k = 3 := by omega
        have HP3 := Lib.hid (show ReadsQ wr _ (putL b) from (by have h := HQk.out; rw [hk3] at h; exact h))
        clear hk3
        have HB8 := Lib.hid (HB7.out.trans (HBr.out.mono HB7.out.size))
        obtain ⟨pa, pc, rfl, hpc⟩ := HP3.out
        have hPl := put_len b
        have HPe := Lib.hid (show ∀ p ∈ putL b, p.1.length + p.2.length ≤ 1000000 from fun p hp => by have := HEb.out p (put_mem hp); omega)
        clear hpc HQk HBr HKn
        generalize putL b = P at *
        obtain ⟨ao, ac, hav, hac⟩ := HRa.out.below HB8.out
        subst hav
        have HC := Lib.hid hac
        clear hac
        rename World => wq
        go_wp2_with fail
        go_loopw [14, 70] (fun v i wr => ∃ k : Nat, i = .int .i64 k ∧ k ≤ a.length ∧ OwnsP 32 wq.heap.size wr v ((a.take k).filter fun p => !inN P p) ∧ Below wq.heap.size wq wr) (fun _ i _ => a.length - (intOf i).toNat)
        case atStart => exact ⟨0, rfl, Nat.zero_le _, OwnsP.nil _ _ _, Below.refl _ _⟩
        case round =>
          obtain ⟨k, rfl, hk, hO, hBr⟩ := hrel
          have hbr2 := hBr.size
          have hfk := fil_k (ps := a) (f := fun p => !inN P p) k
          by_cases hlt2 : k < a.length
          · obtain ⟨p, hp⟩ : ∃ p, a[k]? = some p := ⟨a[k], by simp [hlt2]⟩
            obtain ⟨g, off, rfl, hg1, h1, h2⟩ := HC.out k p hp
            have hc1 : wr.cell? ⟨g, off + k * 2, none⟩ = some (.string (strB p.1)) := (hBr.cell (p := ⟨g, off + k * 2, none⟩) hg1).trans h1
            have hc2 : wr.cell? ⟨g, off + k * 2 + 1, none⟩ = some (.string (strB p.2)) := (hBr.cell (p := ⟨g, off + k * 2 + 1, none⟩) hg1).trans h2
            have hpl := HEa.out p (List.mem_of_getElem? hp)
            have HP := Lib.hid hp
            have HAl := Lib.hid (fun (w : World) (hr : ReadsQ w (.slice pa P.length pc) P) => refAllR_any (.slice pa P.length pc) P p.1 w hr (by omega) HPe.out (by omega))
            have HRP := Lib.hid (HP3.out.below hBr)
            have HIn := Lib.hid (inN_all P p)
            clear hp h1 h2
            generalize allL P p.1 = lp at *
            cases hin : inN P p with
            | true =>
              have hlp : ((lp.length : Int) == 0) = false := by
                rw [len0]
                have := HIn.out
                rw [hin] at this
                have := of_decide_eq_true this.symm
                exact decide_eq_false this
              have HI := Lib.hid (show (!inN P p) = false by rw [hin]; rfl)
              clear hin
              generalize lp.length = nlp at *
              go_wp2_with fail
              refine (HAl.out _ (HRP.out.below (below_new _ _))).mono ?_
              rintro e w9 ⟨x9, c9, rfl, hR9, hB9⟩
              have hB9' := below_pair' hB9
              clear hR9 hB9
              go_wp2_with fail
              go_roundw
              case rel => exact ⟨k + 1, by go_num, by omega, by rw [fil_no HP.out HI.out]; exact OwnsP.below hO hB9', hBr.trans (hB9'.mono hbr2)⟩
              case measure => simp [intOf]; omega
            | false =>
              have hlp : ((lp.length : Int) == 0) = true := by
                rw [len0]
                have := HIn.out
                rw [hin] at this
                have := of_decide_eq_false this.symm
                exact decide_eq_true (by simpa using this)
              have HI := Lib.hid (show (!inN P p) = true by rw [hin]; rfl)
              clear hin
              generalize lp.length = nlp at *
              go_wp2_with fail
              refine (HAl.out _ (HRP.out.below (below_new _ _))).mono ?_
              rintro e w9 ⟨x9, c9, rfl, hR9, hB9⟩
              obtain ⟨d1, d2⟩ := pair_kept hB9
              have hB9' := below_pair' hB9
              have hs9 := hB9'.size
              clear hR9 hB9 hc1 hc2
              go_wp2_with (at_builtin; refine wpList_append_own _ rfl _ _ 22 rfl wq.heap.size 32 i0 (.agg #[.string ByteArray.empty, .string ByteArray.empty]) 2 32 Tryz.underlying22 hi hz0 hz1 hz2 rfl (by decide) _ _ _ rfl (World.ownsRow.alloc (OwnsP.below hO hB9') _) ⟨w9.heap.size, 0, none⟩ 1 1 [strV p.1, strV p.2] rfl rfl (two_new w9 p.1 p.2 _) (fun u hu => by simp at hu; rcases hu with rfl | rfl <;> rfl) (by unfold maxLen; omega) (by omega) (by simp; omega) ?_; intro v' w10 hown' hgrow _)
              go_roundw
              case rel => exact ⟨k + 1, by go_num, by omega, by rw [fil_yes HP.out HI.out]; exact OwnsP.snoc hown', below_appendP hBr hbr2 hB9' hO hgrow⟩
              case measure => simp [intOf]; omega
          · have htk : a.take k = a := List.take_of_length_le (by omega)
            rw [htk] at hO hfk
            have HO := Lib.hid hO
            have HBr := Lib.hid hBr
            have HRP := Lib.hid (HP3.out.below hBr)
            clear hO hBr htk
            generalize (a.filter fun p => !inN P p) = F at *
            go_wp2_with (at_builtin; refine wpList_appendP hi hz0 hz1 hz2 Tryz.underlying22 rfl _ _ rfl _ _ rfl rfl HO.out HRP.out HSk.out (by omega) (by omega) ?_; intro v11 w11 hO11 hg11)
            go_ret2
            refine ⟨_, rfl, ?_, ?_⟩
            · rw [HVu.out]; exact OwnsP.mono HB8.out.size hO11
            · exact (HB8.out.trans (HBr.out.mono HB8.out.size)).grown hg11 (by have := HB8.out.size; omega) (fun q hq => Nat.le_trans HB8.out.size (World.ownsRow.lt HO.out q hq).1)
  rw [decide_eq_false h3] at HQ
  have hsw : sameW ta tb = true := by have := HV.out; rw [if_neg (by simp [h1, h2, h3])] at this; cases h : sameW ta tb with | true => rfl | false => rw [h] at this; cases this
  have HSw := Lib.hid hsw
  clear h1 h2 h3 HV ea eb hsw
  generalize la.length = na at *
  generalize lb.length = nb at *
  cases ta with
  | none => have := HSw.out; cases tb <;> cases this
  | some ta =>
    cases tb with
    | none => have := HSw.out; cases this
    | some tb =>
      have hn := toList_same (a := ta.2) (b := tb.2) (by have := HSw.out; unfold sameW at this; exact of_decide_eq_true this)
      unfold tagB at HTa HTb
      simp only at HTa HTb
      go_enter Tryz.func19, Tryz.ntmps19
      go_wp2_with fail
      refine HA.out.mono ?_
      rintro e w1 ⟨x1, c1, rfl, hR1, hB1⟩
      have HR1 := Lib.hid hR1
      clear hR1
      go_wp2_with fail
      refine (HB.out _ (HRb.out.below hB1)).mono ?_
      rintro e w2 ⟨x2, c2, rfl, hR2, hB2⟩
      have HR2 := Lib.hid hR2
      have HR1b := Lib.hid (HR1.out.below hB2)
      have HB2 := Lib.hid (hB1.trans (hB2.mono hB1.size))
      clear hR2 hB1 hB2 HR1
      go_wp2_with fail
      refine (HQ.out _ _ _ HR1b.out HR2.out).mono ?_
      rintro e w3 ⟨rfl, q, rfl⟩
      have HB3 := Lib.hid (below_drewN HB2.out q)
      clear HR1b HR2 HB2
      generalize w2.drewN q = w3 at *
      go_wp2_with fail
      refine (HTa.out _ (HRa.out.below HB3.out)).mono ?_
      rintro e w4 ⟨rfl, hB4⟩
      have HB4 := Lib.hid (HB3.out.trans (hB4.mono HB3.out.size))
      clear hB4 HB3
      go_wp2_with fail
      refine (HTb.out _ (HRb.out.below HB4.out)).mono ?_
      rintro e w5 ⟨rfl, hB5⟩
      have HB5 := Lib.hid (HB4.out.trans (hB5.mono HB4.out.size))
      clear hB5 HB4
      have HBx := Lib.hid HB5.out
      clear HB5
      go_wp2_with fail
      refine (HSt.out _ (HRb.out.below HBx.out)).mono ?_
      rintro e w6 ⟨sv, rfl, hO6, hB6⟩
      have HS6 := Lib.hid hO6.q
      have HSs := Lib.hid hO6.sane
      have HB6 := Lib.hid (HBx.out.trans (hB6.mono HBx.out.size))
      have HKn := Lib.hid (keep_at w6)
      have HB7 := Lib.hid (HB6.out.alloc HB6.out.size (.cells keepV 9))
      have HS7 := Lib.hid (hO6.q.below (below_new w6 (.cells keepV 9)))
      have hz7 : w6.heap.size < (w6.alloc (.cells keepV 9)).heap.size := by simp
      clear hO6 hB6 HB6 HBx HS6
      go_upto_region 9 with fail
      change Code.wp _ _ _ _ (w6.alloc (.cells keepV 9))
      generalize (w6.alloc (.cells keepV 9)) = W7 at *
      generalize w6.heap.size = NK at *
      go_loopw [1, 60] (fun v i wr => ∃ k : Nat, i = .int .i64 k ∧ k ≤ 3 ∧ ReadsQ wr v (putK b k) ∧ Sane v ∧ Below W7.heap.size W7 wr) (fun _ i _ => 3 - (intOf i).toNat)
      case atStart => exact ⟨0, rfl, Nat.zero_le _, HS7.out, HSs.out, Below.refl _ _⟩
      case round =>
        obtain ⟨k, rfl, hk, hQ, hS, hBr⟩ := hrel
        have hbr := hBr.size
        have HQk := Lib.hid hQ
        have HSk := Lib.hid hS
        have HBr := Lib.hid hBr
        clear hQ hS hBr
        by_cases hlt : k < 3
        · obtain ⟨nm, hnm⟩ : ∃ nm, keepN[k]? = some nm := ⟨keepN[k]'(by simpa [keepN] using hlt), by simp⟩
          have hcell : wr.cell? ⟨NK, k, none⟩ = some (.string (strB nm)) := (HBr.out.cell (p := ⟨NK, k, none⟩) hz7).trans (HKn.out k nm hnm)
          have hnl : nm.length ≤ 100 := by
            have : nm ∈ keepN := List.mem_of_getElem? hnm
            simp only [keepN, List.mem_cons, List.not_mem_nil, or_false] at this
            rcases this with rfl | rfl | rfl <;> decide
          have HN := Lib.hid (putK_next (b := b) hnm)
          have HRm := Lib.hid (fun (v : Value) (w : World) (hr : ReadsQ w v (putK b k)) => refRemove_any v (putK b k) nm w hr (by omega) (by have := putK_len b k; omega) (fun p hp => by have := HEb.out p (putK_mem hp); omega))
          clear hnm
          rw [HN.out] at HRm
          go_wp2_with fail
          refine (HRm.out _ _ HQk.out).mono ?_
          rintro e w8 ⟨v8, rfl, hO8, hB8⟩
          have HQ8 := Lib.hid hO8.q
          have HS8 := Lib.hid hO8.sane
          have HB8 := Lib.hid (HBr.out.trans (hB8.mono hbr))
          clear hO8 hB8
          go_wp2_with fail
          go_roundw
          case rel => exact ⟨k + 1, by go_num, by omega, HQ8.out, HS8.out, HB8.out⟩
          case measure => simp [intOf]; omega
        · have hk3 : k = 3 := by omega
          have HP3 := Lib.hid (show ReadsQ wr _ (putL b) from (by have h := HQk.out; rw [hk3] at h; exact h))
          clear hk3
          have HB8 := Lib.hid (HB7.out.trans (HBr.out.mono HB7.out.size))
          obtain ⟨pa, pc, rfl, hpc⟩ := HP3.out
          have hPl := put_len b
          have HPe := Lib.hid (show ∀ p ∈ putL b, p.1.length + p.2.length ≤ 1000000 from fun p hp => by have := HEb.out p (put_mem hp); omega)
          clear hpc HQk HBr HKn
          generalize putL b = P at *
          obtain ⟨ao, ac, hav, hac⟩ := HRa.out.below HB8.out
          subst hav
          have HC := Lib.hid hac
          clear hac
          rename World => wq
          go_wp2_with fail
          go_loopw [14, 70] (fun v i wr => ∃ k : Nat, i = .int .i64 k ∧ k ≤ a.length ∧ OwnsP 32 wq.heap.size wr v ((a.take k).filter fun p => !inN P p) ∧ Below wq.heap.size wq wr) (fun _ i _ => a.length - (intOf i).toNat)
          case atStart => exact ⟨0, rfl, Nat.zero_le _, OwnsP.nil _ _ _, Below.refl _ _⟩
          case round =>
            obtain ⟨k, rfl, hk, hO, hBr⟩ := hrel
            have hbr2 := hBr.size
            have hfk := fil_k (ps := a) (f := fun p => !inN P p) k
            by_cases hlt2 : k < a.length
            · obtain ⟨p, hp⟩ : ∃ p, a[k]? = some p := ⟨a[k], by simp [hlt2]⟩
              obtain ⟨g, off, rfl, hg1, h1, h2⟩ := HC.out k p hp
              have hc1 : wr.cell? ⟨g, off + k * 2, none⟩ = some (.string (strB p.1)) := (hBr.cell (p := ⟨g, off + k * 2, none⟩) hg1).trans h1
              have hc2 : wr.cell? ⟨g, off + k * 2 + 1, none⟩ = some (.string (strB p.2)) := (hBr.cell (p := ⟨g, off + k * 2 + 1, none⟩) hg1).trans h2
              have hpl := HEa.out p (List.mem_of_getElem? hp)
              have HP := Lib.hid hp
              have HAl := Lib.hid (fun (w : World) (hr : ReadsQ w (.slice pa P.length pc) P) => refAllR_any (.slice pa P.length pc) P p.1 w hr (by omega) HPe.out (by omega))
              have HRP := Lib.hid (HP3.out.below hBr)
              have HIn := Lib.hid (inN_all P p)
              clear hp h1 h2
              generalize allL P p.1 = lp at *
              cases hin : inN P p with
              | true =>
                have hlp : ((lp.length : Int) == 0) = false := by
                  rw [len0]
                  have := HIn.out
                  rw [hin] at this
                  have := of_decide_eq_true this.symm
                  exact decide_eq_false this
                have HI := Lib.hid (show (!inN P p) = false by rw [hin]; rfl)
                clear hin
                generalize lp.length = nlp at *
                go_wp2_with fail
                refine (HAl.out _ (HRP.out.below (below_new _ _))).mono ?_
                rintro e w9 ⟨x9, c9, rfl, hR9, hB9⟩
                have hB9' := below_pair' hB9
                clear hR9 hB9
                go_wp2_with fail
                go_roundw
                case rel => exact ⟨k + 1, by go_num, by omega, by rw [fil_no HP.out HI.out]; exact OwnsP.below hO hB9', hBr.trans (hB9'.mono hbr2)⟩
                case measure => simp [intOf]; omega
              | false =>
                have hlp : ((lp.length : Int) == 0) = true := by
                  rw [len0]
                  have := HIn.out
                  rw [hin] at this
                  have := of_decide_eq_false this.symm
                  exact decide_eq_true (by simpa using this)
                have HI := Lib.hid (show (!inN P p) = true by rw [hin]; rfl)
                clear hin
                generalize lp.length = nlp at *
                go_wp2_with fail
                refine (HAl.out _ (HRP.out.below (below_new _ _))).mono ?_
                rintro e w9 ⟨x9, c9, rfl, hR9, hB9⟩
                obtain ⟨d1, d2⟩ := pair_kept hB9
                have hB9' := below_pair' hB9
                have hs9 := hB9'.size
                clear hR9 hB9 hc1 hc2
                go_wp2_with (at_builtin; refine wpList_append_own _ rfl _ _ 22 rfl wq.heap.size 32 i0 (.agg #[.string ByteArray.empty, .string ByteArray.empty]) 2 32 Tryz.underlying22 hi hz0 hz1 hz2 rfl (by decide) _ _ _ rfl (World.ownsRow.alloc (OwnsP.below hO hB9') _) ⟨w9.heap.size, 0, none⟩ 1 1 [strV p.1, strV p.2] rfl rfl (two_new w9 p.1 p.2 _) (fun u hu => by simp at hu; rcases hu with rfl | rfl <;> rfl) (by unfold maxLen; omega) (by omega) (by simp; omega) ?_; intro v' w10 hown' hgrow _)
                go_roundw
                case rel => exact ⟨k + 1, by go_num, by omega, by rw [fil_yes HP.out HI.out]; exact OwnsP.snoc hown', below_appendP hBr hbr2 hB9' hO hgrow⟩
                case measure => simp [intOf]; omega
            · have htk : a.take k = a := List.take_of_length_le (by omega)
              rw [htk] at hO hfk
              have HO := Lib.hid hO
              have HBr := Lib.hid hBr
              have HRP := Lib.hid (HP3.out.below hBr)
              clear hO hBr htk
              generalize (a.filter fun p => !inN P p) = F at *
              go_wp2_with (at_builtin; refine wpList_appendP hi hz0 hz1 hz2 Tryz.underlying22 rfl _ _ rfl _ _ rfl rfl HO.out HRP.out HSk.out (by omega) (by omega) ?_; intro v11 w11 hO11 hg11)
              go_ret2
              refine ⟨_, rfl, ?_, ?_⟩
              · rw [HVu.out]; exact OwnsP.mono HB8.out.size hO11
              · exact (HB8.out.trans (HBr.out.mono HB8.out.size)).grown hg11 (by have := HB8.out.size; omega) (fun q hq => Nat.le_trans HB8.out.size (World.ownsRow.lt HO.out q hq).1)
end Go.Proofs.YtoiampkdmjpljaaGreatDoor
