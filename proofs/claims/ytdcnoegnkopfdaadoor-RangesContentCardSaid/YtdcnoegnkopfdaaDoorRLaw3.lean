/- RangesContent: for every range, length and text the statement's function returns true: the walk. -/
import Derived.Test.YtdcnoegnkopfdaaDoorRAwake
import Derived.Test.YtdcnoegnkopfdaaDoorRRefRead
import Derived.Test.YtdcnoegnkopfdaaDoorNum
import Derived.Test.YtdcnoegnkopfdaaDoorIs
namespace Go.Proofs.YtdcnoegnkopfdaaDoor
open Go.RowKit

set_option maxHeartbeats 8000000 in
set_option maxRecDepth 100000 in
theorem content_walk (r : Rg) (n : Int) (s : ByteArray) (w : World) (hM : MaxIs w) (hT : HasTab w) (hs : s.size ≤ maxLen) :
    Calls Tryd.prog 5 #[rgV r, .int .i64 n, .string s] w fun e w' => e = .returned (.bool true) ∧ Below w.heap.size w w' := by
  obtain ⟨a, b⟩ := r
  have HM := Lib.hid hM
  have HT := Lib.hid hT
  clear hM hT
  go_enter Tryd.func5, Tryd.ntmps5
  go_wp2_with fail
  refine (awake9_any _ (HM.out.alloc _)).mono ?_
  rintro e w1 ⟨rfl, hB⟩
  have hTW := (twoI_new w a b 43).below hB
  have HT1 := Lib.hid hTW
  have HW1 := Lib.hid ((below_new w (.cells #[.int .i64 a, .int .i64 b] 43)).trans (hB.mono (by simp)))
  clear hB
  by_cases h5 : s.size ≤ 200
  · have h5' : ¬ 200 < s.size := by omega
    obtain ⟨c0, c1, f0, f1, hN⟩ := hTW
    have HCR := Lib.hid (contentRange_any (a, b) n w1 (HT.out.below HW1.out))
    go_wp2_with fail
    refine HCR.out.mono ?_
    rintro e w2 ⟨he, hB2⟩
    have hT2 := HT1.out.below hB2
    have HT2 := Lib.hid hT2
    have HW2 := Lib.hid (HW1.out.trans (hB2.mono HW1.out.size))
    clear hB2 c0 c1 f0 f1 hN HCR
    obtain ⟨c0, c1, f0, f1, hN⟩ := hT2
    have HRC := Lib.hid (refCR_any (a, b) n w2)
    cases hcr : crR (a, b) n with
    | none =>
      rw [hcr] at he HRC
      unfold crV at he
      unfold crT at HRC
      subst he
      clear hcr
      go_wp2_with fail
      refine HRC.out.mono ?_
      rintro e W ⟨rfl, hB3⟩
      have HW := Lib.hid (HW2.out.trans (hB3.mono HW2.out.size))
      clear hB3 c0 c1 f0 f1 hN HRC
      go_wp2_with fail
      refine (is_errno 2 (by decide) _).mono ?_
      rintro e w' ⟨rfl, rfl⟩
      go_wp2_with fail
      have HRD := Lib.hid (readCR_any s W (HM.out.below HW.out) (HT.out.below HW.out) (by omega))
      refine HRD.out.mono ?_
      rintro e wa ⟨he, hBa⟩
      have HWa := Lib.hid (HW.out.trans (hBa.mono HW.out.size))
      clear HRD hBa
      cases hq : progRead s.data.toList with
      | none =>
        rw [hq] at he
        have HRF := Lib.hid (fun (w : World) => refReadCR_any s w (by omega))
        rw [← read_eq, hq] at HRF
        unfold rdV rdE at he
        unfold rfV rfE at HRF
        subst he
        clear hq
        go_wp2_with fail
        refine (HRF.out _).mono ?_
        rintro e wb ⟨rfl, hBb⟩
        obtain ⟨c0, c1, f0, f1, hN⟩ := ((twoI_new wa 0 0 46).below hBb).below (below_new wb (.cells #[.int .i64 0, .int .i64 0] 43))
        have HWb := Lib.hid ((HWa.out.alloc HWa.out.size _).trans (hBb.mono (HWa.out.alloc HWa.out.size _).size))
        clear hBb
        go_wp2_with fail
        refine (is_errno 2 (by decide) _).mono ?_
        rintro e w' ⟨rfl, rfl⟩
        go_wp2_with fail
        go_ret
        exact ⟨rfl, HWb.out.alloc HWb.out.size _⟩
      | some p =>
        obtain ⟨⟨x, y⟩, m⟩ := p
        rw [hq] at he
        have HRF := Lib.hid (fun (w : World) => refReadCR_any s w (by omega))
        rw [← read_eq, hq] at HRF
        unfold rdV at he
        unfold rfV at HRF
        subst he
        clear hq
        have e1 : (x == x) = true := by simp
        have e2 : (y == y) = true := by simp
        have e3 : (m == m) = true := by simp
        go_wp2_with fail
        refine (HRF.out _).mono ?_
        rintro e wb ⟨rfl, hBb⟩
        obtain ⟨c0, c1, f0, f1, hN⟩ := ((twoI_new wa x y 46).below hBb).below (below_new wb (.cells #[.int .i64 x, .int .i64 y] 43))
        obtain ⟨d0, d1, g0, g1, hN2⟩ := twoI_new wb x y 43
        have HWb := Lib.hid ((HWa.out.alloc HWa.out.size _).trans (hBb.mono (HWa.out.alloc HWa.out.size _).size))
        clear hBb
        go_wp2_with fail
        go_ret
        exact ⟨rfl, HWb.out.alloc HWb.out.size _⟩
    | some t =>
      have HPR := Lib.hid ((progRead_iff t (a, b) n).mpr hcr)
      have HTL := Lib.hid (show t.length ≤ 100000 by
        obtain ⟨hp, h2, h3, h4⟩ := cr_some hcr
        have := textR_size hp
        rw [strB_size] at this
        have := decT_size n (by omega)
        rw [strB_size] at this
        unfold crR at hcr
        rw [if_pos ⟨hp, h2, h3⟩] at hcr
        simp only [Option.some.injEq] at hcr
        rw [← hcr]; simp; omega)
      rw [hcr] at he HRC
      unfold crV at he
      unfold crT at HRC
      subst he
      clear hcr
      go_wp2_with fail
      refine HRC.out.mono ?_
      rintro e w3 ⟨rfl, hB3⟩
      have HT3 := Lib.hid (HT2.out.below hB3)
      have HW3 := Lib.hid (HW2.out.trans (hB3.mono HW2.out.size))
      clear hB3 c0 c1 f0 f1 hN HRC
      have HRB := Lib.hid (readCR_any (strB t) w3 (HM.out.below HW3.out) (HT.out.below HW3.out) (by rw [strB_size]; exact HTL.out))
      rw [strB_list, HPR.out] at HRB
      unfold rdV at HRB
      go_wp2_with fail
      refine HRB.out.mono ?_
      rintro e w4 ⟨rfl, hB4⟩
      obtain ⟨c0, c1, f0, f1, hN⟩ := (HT3.out.below hB4).below (below_new w4 (.cells #[.int .i64 a, .int .i64 b] 46))
      obtain ⟨d0, d1, g0, g1, hN2⟩ := twoI_new w4 a b 46
      have HW4 := Lib.hid (HW3.out.trans (hB4.mono HW3.out.size))
      clear hB4
      have e1 : (a != a) = false := by simp
      have e2 : (b != b) = false := by simp
      have e3 : (n != n) = false := by simp
      have e4 : ((strB t).toList == (strB t).toList) = true := beq_self_eq_true _
      go_wp2_with fail
      clear c0 c1 f0 f1 hN d0 d1 g0 g1 hN2 e1 e2 e3 e4
      have HW := Lib.hid (HW4.out.alloc HW4.out.size (.cells #[.int .i64 a, .int .i64 b] 46))
      generalize w4.alloc (.cells #[.int .i64 a, .int .i64 b] 46) = W at *
      have HRD := Lib.hid (readCR_any s W (HM.out.below HW.out) (HT.out.below HW.out) (by omega))
      refine HRD.out.mono ?_
      rintro e wa ⟨he, hBa⟩
      have HWa := Lib.hid (HW.out.trans (hBa.mono HW.out.size))
      clear HRD hBa
      cases hq : progRead s.data.toList with
      | none =>
        rw [hq] at he
        have HRF := Lib.hid (fun (w : World) => refReadCR_any s w (by omega))
        rw [← read_eq, hq] at HRF
        unfold rdV rdE at he
        unfold rfV rfE at HRF
        subst he
        clear hq
        go_wp2_with fail
        refine (HRF.out _).mono ?_
        rintro e wb ⟨rfl, hBb⟩
        obtain ⟨c0, c1, f0, f1, hN⟩ := ((twoI_new wa 0 0 46).below hBb).below (below_new wb (.cells #[.int .i64 0, .int .i64 0] 43))
        have HWb := Lib.hid ((HWa.out.alloc HWa.out.size _).trans (hBb.mono (HWa.out.alloc HWa.out.size _).size))
        clear hBb
        go_wp2_with fail
        refine (is_errno 2 (by decide) _).mono ?_
        rintro e w' ⟨rfl, rfl⟩
        go_wp2_with fail
        go_ret
        exact ⟨rfl, HWb.out.alloc HWb.out.size _⟩
      | some p =>
        obtain ⟨⟨x, y⟩, m⟩ := p
        rw [hq] at he
        have HRF := Lib.hid (fun (w : World) => refReadCR_any s w (by omega))
        rw [← read_eq, hq] at HRF
        unfold rdV at he
        unfold rfV at HRF
        subst he
        clear hq
        have e1 : (x == x) = true := by simp
        have e2 : (y == y) = true := by simp
        have e3 : (m == m) = true := by simp
        go_wp2_with fail
        refine (HRF.out _).mono ?_
        rintro e wb ⟨rfl, hBb⟩
        obtain ⟨c0, c1, f0, f1, hN⟩ := ((twoI_new wa x y 46).below hBb).below (below_new wb (.cells #[.int .i64 x, .int .i64 y] 43))
        obtain ⟨d0, d1, g0, g1, hN2⟩ := twoI_new wb x y 43
        have HWb := Lib.hid ((HWa.out.alloc HWa.out.size _).trans (hBb.mono (HWa.out.alloc HWa.out.size _).size))
        clear hBb
        go_wp2_with fail
        go_ret
        exact ⟨rfl, HWb.out.alloc HWb.out.size _⟩
  · have h5' : 200 < s.size := by omega
    obtain ⟨c0, c1, f0, f1, hN⟩ := hTW
    go_wp2_with fail
    refine (awake9_any _ (HM.out.below HW1.out)).mono ?_
    rintro e w2 ⟨rfl, hB2⟩
    have HW2 := Lib.hid (HW1.out.trans (hB2.mono HW1.out.size))
    go_wp2_with fail
    go_ret
    exact ⟨rfl, HW2.out⟩
end Go.Proofs.YtdcnoegnkopfdaaDoor
