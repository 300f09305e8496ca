/- AddressHosts: for every string the statement's function returns true: the walk. -/
import Derived.Test.YtllkldbiagkbcaaDoorAAwake
import Derived.Test.YtllkldbiagkbcaaDoorARefCut
namespace Go.Proofs.YtllkldbiagkbcaaDoor.hosts
open Go.RowKit

set_option maxHeartbeats 4000000 in
set_option maxRecDepth 100000 in
theorem walk (s : ByteArray) (w : World) (hE : Env w) (hs : s.size ≤ maxLen) :
    Calls Tryd.prog 3 #[.string s] w fun e w' => e = .returned (.bool true) ∧ Below w.heap.size w w' := by
  have HE := Lib.hid hE
  have HM := Lib.hid hs
  clear hE
  unfold maxLen at hs
  by_cases h1 : 1500 < s.size
  · go_enter Tryd.func3, Tryd.ntmps3
    go_wp2_with fail
    refine (awake_any _ HE.out).mono ?_
    rintro e w1 ⟨rfl, hB1⟩
    have HB1 := Lib.hid hB1
    clear hB1
    go_wp2_with fail
    refine (awake_any _ (HE.out.below HB1.out)).mono ?_
    rintro e w2 ⟨rfl, hB2⟩
    go_wp2_with fail
    go_ret
    exact ⟨rfl, HB1.out.trans (hB2.mono HB1.out.size)⟩
  · cases hh : hostO s.data.toList with
    | none =>
      have HV := Lib.hid (hostV_no hh)
      have HR := Lib.hid (refHostV_no hh)
      clear hh
      go_enter Tryd.func3, Tryd.ntmps3
      go_wp2_with fail
      refine (awake_any _ HE.out).mono ?_
      rintro e w1 ⟨rfl, hB1⟩
      have HB1 := Lib.hid hB1
      clear hB1
      go_wp2_with fail
      refine (host_any s _ (HE.out.below HB1.out) HM.out).mono ?_
      rintro e w2 ⟨rfl, hB2⟩
      rw [HV.out]
      have HB2 := Lib.hid (HB1.out.trans (hB2.mono HB1.out.size))
      clear hB2
      go_wp2_with fail
      refine (refHost_any s _ (by omega)).mono ?_
      rintro e w3 ⟨rfl, hB3⟩
      rw [HR.out]
      have HB3 := Lib.hid (HB2.out.trans (hB3.mono HB2.out.size))
      clear hB3
      have he : (strB []).toList = [] := by rw [ByteArray.toList_eq]; rfl
      have he2 : (strB []).toList.isEmpty = true := by rw [ByteArray.toList_eq]; rfl
      go_wp2_with (go_at_call 12; refine (isErr_any 8 (by decide) _).mono ?_; rintro e w' ⟨rfl, rfl⟩)
      go_ret
      exact ⟨rfl, HB3.out⟩
    | some h =>
      have HV := Lib.hid (hostV_yes hh)
      have HR := Lib.hid (refHostV_yes hh)
      clear hh
      go_enter Tryd.func3, Tryd.ntmps3
      go_wp2_with fail
      refine (awake_any _ HE.out).mono ?_
      rintro e w1 ⟨rfl, hB1⟩
      have HB1 := Lib.hid hB1
      clear hB1
      go_wp2_with fail
      refine (host_any s _ (HE.out.below HB1.out) HM.out).mono ?_
      rintro e w2 ⟨rfl, hB2⟩
      rw [HV.out]
      have HB2 := Lib.hid (HB1.out.trans (hB2.mono HB1.out.size))
      clear hB2
      go_wp2_with fail
      refine (refHost_any s _ (by omega)).mono ?_
      rintro e w3 ⟨rfl, hB3⟩
      rw [HR.out]
      have HB3 := Lib.hid (HB2.out.trans (hB3.mono HB2.out.size))
      clear hB3
      go_wp2_with fail
      go_ret
      exact ⟨ret_bool (by simp), HB3.out⟩
end Go.Proofs.YtllkldbiagkbcaaDoor.hosts
