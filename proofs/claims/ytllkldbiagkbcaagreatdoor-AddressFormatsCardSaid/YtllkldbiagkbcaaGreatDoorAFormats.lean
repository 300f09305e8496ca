/- AddressFormats: for every address the statement's function returns true: the walk. -/
import Derived.Test.YtllkldbiagkbcaaGreatDoorARefValid
import Derived.Test.YtllkldbiagkbcaaGreatDoorAAwake
import Derived.Test.YtllkldbiagkbcaaGreatDoorAOf
namespace Go.Proofs.YtllkldbiagkbcaaGreatDoor.formats
open Go.RowKit

set_option maxHeartbeats 4000000 in
set_option maxRecDepth 100000 in
theorem walk (a : Adr) (w : World) (hE : Env w) (ha0 : AdrLe 140737488355328 a) :
    Calls Tryz.prog 4 #[adrV a] w fun e w' => e = .returned (.bool true) ∧ Below w.heap.size w w' := by
  have hF := adrAt_new a w 29
  have HE := Lib.hid hE
  obtain ⟨ha1, ha2, ha3⟩ := ha0
  clear hE
  by_cases h1 : 1500 < (strB a.h).size + (strB a.p).size + (strB a.q).size
  · go_enter Tryz.func4, Tryz.ntmps4
    go_wp2_with fail
    generalize w.alloc (.cells #[.string (strB a.h), .string (strB a.p), .string (strB a.q), .bool a.b] 29) = w0 at *
    refine (awake_any _ (HE.out.below hF.2.2.2.2.2)).mono ?_
    rintro e w1 ⟨rfl, hB1⟩
    obtain ⟨c0, c1, c2, c3, hlt, hW⟩ := hF.below hB1
    have HW := Lib.hid hW
    clear hB1 hW
    go_wp2_with fail
    refine (awake_any _ (HE.out.below HW.out)).mono ?_
    rintro e w2 ⟨rfl, hB2⟩
    go_wp2_with fail
    go_ret
    exact ⟨rfl, HW.out.trans (hB2.mono HW.out.size)⟩
  · have HA := Lib.hid (show AdrLe 10000 a from ⟨by omega, by omega, by omega⟩)
    have HA2 := Lib.hid (show AdrLe 1000000000000 a from ⟨by omega, by omega, by omega⟩)
    obtain ⟨vb, hv⟩ : ∃ vb, validA a = vb := ⟨_, rfl⟩
    have HRV := Lib.hid (fun w => refValid_any a w HA.out)
    have HAV := Lib.hid (fun w h => valid_any a w h HA.out)
    have HFM := Lib.hid (fun w h => format_any a w h HA.out)
    rw [hv] at HRV HAV
    have HFV := Lib.hid (show fmtV a = if vb then .tuple #[.string (strB a.text), .nilIface] else .tuple #[.string (strB []), errA 2] by unfold fmtV; rw [hv])
    clear hv
    go_enter Tryz.func4, Tryz.ntmps4
    go_wp2_with fail
    generalize w.alloc (.cells #[.string (strB a.h), .string (strB a.p), .string (strB a.q), .bool a.b] 29) = w0 at *
    refine (awake_any _ (HE.out.below hF.2.2.2.2.2)).mono ?_
    rintro e w1 ⟨rfl, hB1⟩
    have F1 := Lib.hid (hF.below hB1)
    obtain ⟨c0, c1, c2, c3, hlt, hW⟩ := F1.out
    clear hB1 hW hF
    go_wp2_with fail
    refine (HRV.out _).mono ?_
    rintro e w2 ⟨rfl, hB2⟩
    have F2 := Lib.hid (F1.out.below hB2)
    clear hB2 c0 c1 c2 c3 hlt F1
    obtain ⟨c0, c1, c2, c3, hlt, hW⟩ := F2.out
    go_wp2_with fail
    refine (of_any a _).mono ?_
    rintro e w3 ⟨rfl, hB3⟩
    have F3 := Lib.hid (F2.out.below hB3)
    clear hB3 c0 c1 c2 c3 hlt hW F2
    go_wp2_with fail
    refine (HFM.out _ (HE.out.below F3.out.2.2.2.2.2)).mono ?_
    rintro e w4 ⟨rfl, hB4⟩
    have F4 := Lib.hid (F3.out.below hB4)
    clear hB4 F3
    obtain ⟨c0, c1, c2, c3, hlt, hW⟩ := F4.out
    cases vb with
    | true =>
      rw [HFV.out, if_pos rfl]
      go_wp2_with fail
      refine (of_any a _).mono ?_
      rintro e w5 ⟨rfl, hB5⟩
      have F5 := Lib.hid (F4.out.below hB5)
      clear hB5 c0 c1 c2 c3 hlt hW F4
      go_wp2_with fail
      refine (HAV.out _ (HE.out.below F5.out.2.2.2.2.2)).mono ?_
      rintro e w6 ⟨rfl, hB6⟩
      have F6 := Lib.hid (F5.out.below hB6)
      clear hB6 F5
      obtain ⟨c0, c1, c2, c3, hlt, hW⟩ := F6.out
      go_wp2_with fail
      refine (refText_any a _ HA2.out).mono ?_
      rintro e w7 ⟨rfl, hB7⟩
      have F7 := Lib.hid (F6.out.below hB7)
      clear hB7 c0 c1 c2 c3 hlt hW F6
      go_wp2_with fail
      go_ret
      exact ⟨ret_bool (by simp), F7.out.2.2.2.2.2⟩
    | false =>
      rw [HFV.out, if_neg (by decide)]
      go_wp2_with fail
      refine (of_any a _).mono ?_
      rintro e w5 ⟨rfl, hB5⟩
      have F5 := Lib.hid (F4.out.below hB5)
      clear hB5 c0 c1 c2 c3 hlt hW F4
      go_wp2_with fail
      refine (HAV.out _ (HE.out.below F5.out.2.2.2.2.2)).mono ?_
      rintro e w6 ⟨rfl, hB6⟩
      have F6 := Lib.hid (F5.out.below hB6)
      clear hB6 F5
      have he2 : (strB []).toList.isEmpty = true := empty_yes rfl
      go_wp2_with (go_at_call 15; refine (isErr_any 2 (by decide) _).mono ?_; rintro e w' ⟨rfl, rfl⟩)
      go_ret
      exact ⟨rfl, F6.out.2.2.2.2.2⟩
end Go.Proofs.YtllkldbiagkbcaaGreatDoor.formats
