/- ValidatorTags: for every tag the statement's function returns true: the walk. -/
import Derived.Test.YtkpeaghbacoehaaGreatDoorYFew
import Derived.Test.YtkpeaghbacoehaaGreatDoorYRef
import Derived.Test.YtkpeaghbacoehaaGreatDoorIs
namespace Go.Proofs.YtkpeaghbacoehaaGreatDoor
open Go.RowKit

set_option maxHeartbeats 8000000 in
set_option maxRecDepth 100000 in
theorem tags_walk (t : Tg) (w : World) (hE : EnvY w) (hs : t.2.length ≤ 140737488355328) :
    Calls Tryz.prog 3 #[tgV t] w fun e w' => e = .returned (.bool true) ∧ Below w.heap.size w w' := by
  obtain ⟨k, a⟩ := t
  have hs' : a.length ≤ 140737488355328 := hs
  have hsz : (strB a).size = a.length := strB_size a
  have HT0 := Lib.hid (twoT_new w k a 23)
  have HW0 := Lib.hid (below_new w (.cells #[.bool k, .string (strB a)] 23))
  have HE0 := Lib.hid (hE.below HW0.out)
  clear hE hs
  by_cases h1 : a.length ≤ 1000
  · have HP := Lib.hid (fun (w : World) => writeTag_any (k, a) w (by show a.length ≤ _; omega))
    have HQ := Lib.hid (fun (w : World) => refWrite_any (k, a) w (by show a.length ≤ _; omega))
    have HG := Lib.hid (fun (w : World) => tag_any (k, a) w)
    have hgo : ∀ y, txtB a = y → Calls Tryz.prog 3 #[tgV (k, a)] w fun e w' => e = .returned (.bool true) ∧ Below w.heap.size w w' := by
      intro y hy
      have HY := Lib.hid hy
      clear hy
      cases y with
      | false =>
        have e1 : texO (k, a) = .tuple #[strV [], errY] := by unfold texO; rw [if_neg]; simpa using HY.out
        have e2 : texR (k, a) = .tuple #[strV [], .bool false] := by unfold texR; rw [if_neg]; simpa using HY.out
        rw [e1] at HP
        rw [e2] at HQ
        clear e1 e2
        have hE := empty_yes (l := []) rfl
        have hE2 : (strB []).toList = [] := by rw [ByteArray.toList_eq]; rfl
        go_enter Tryz.func3, Tryz.ntmps3
        go_wp2_with fail
        refine (awakeY_any _ HE0.out).mono ?_
        rintro e w1 ⟨rfl, hB1⟩
        have HB1 := Lib.hid (HW0.out.trans (hB1.mono HW0.out.size))
        have HT1 := Lib.hid (HT0.out.below hB1)
        obtain ⟨c0, c1, f0, f1, hN⟩ := HT0.out.below hB1
        clear hB1
        go_wp2_with fail
        refine (HG.out _).mono ?_
        rintro e w2 ⟨rfl, hB2⟩
        have HB2 := Lib.hid (HB1.out.trans (hB2.mono HB1.out.size))
        have HT2 := Lib.hid (HT1.out.below hB2)
        clear hB2 c0 c1 f0 f1 hN
        go_wp2_with fail
        refine (HP.out _).mono ?_
        rintro e w3 ⟨rfl, hB3⟩
        have HB3 := Lib.hid (HB2.out.trans (hB3.mono HB2.out.size))
        obtain ⟨c0, c1, f0, f1, hN⟩ := HT2.out.below hB3
        clear hB3
        go_wp2_with fail
        refine (HQ.out _).mono ?_
        rintro e w4 ⟨rfl, hB4⟩
        go_wp2_with fail
        refine (is_errno 2 (by decide) _).mono ?_
        rintro e w' ⟨rfl, rfl⟩
        go_wp2_with fail
        go_ret
        exact ⟨rfl, HB3.out.trans (hB4.mono HB3.out.size)⟩
      | true =>
        have e1 : texO (k, a) = .tuple #[strV (texL (k, a)), .nilIface] := by unfold texO; rw [if_pos HY.out]
        have e2 : texR (k, a) = .tuple #[strV (texL (k, a)), .bool true] := by unfold texR; rw [if_pos HY.out]
        have hlen : (texL (k, a)).length ≤ 1000000 := by cases k <;> simp [texL] <;> omega
        have HR := Lib.hid (fun (w : World) (hM : MaxIs w) => readTag_any (texL (k, a)) w hM hlen)
        rw [readTL_tex (k, a) HY.out] at HR
        unfold tgO at HR
        rw [e1] at HP
        rw [e2] at HQ
        clear e1 e2 hlen
        generalize texL (k, a) = x at *
        go_enter Tryz.func3, Tryz.ntmps3
        go_wp2_with fail
        refine (awakeY_any _ HE0.out).mono ?_
        rintro e w1 ⟨rfl, hB1⟩
        have HB1 := Lib.hid (HW0.out.trans (hB1.mono HW0.out.size))
        have HT1 := Lib.hid (HT0.out.below hB1)
        have HE1 := Lib.hid (HE0.out.below hB1)
        obtain ⟨c0, c1, f0, f1, hN⟩ := HT0.out.below hB1
        clear hB1
        go_wp2_with fail
        refine (HG.out _).mono ?_
        rintro e w2 ⟨rfl, hB2⟩
        have HB2 := Lib.hid (HB1.out.trans (hB2.mono HB1.out.size))
        have HT2 := Lib.hid (HT1.out.below hB2)
        have HE2 := Lib.hid (HE1.out.below hB2)
        clear hB2 c0 c1 f0 f1 hN
        go_wp2_with fail
        refine (HP.out _).mono ?_
        rintro e w3 ⟨rfl, hB3⟩
        have HB3 := Lib.hid (HB2.out.trans (hB3.mono HB2.out.size))
        have HT3 := Lib.hid (HT2.out.below hB3)
        have HE3 := Lib.hid (HE2.out.below hB3)
        obtain ⟨c0, c1, f0, f1, hN⟩ := HT2.out.below hB3
        clear hB3
        go_wp2_with fail
        refine (HQ.out _).mono ?_
        rintro e w4 ⟨rfl, hB4⟩
        have HB4 := Lib.hid (HB3.out.trans (hB4.mono HB3.out.size))
        have HT4 := Lib.hid (HT3.out.below hB4)
        have HE4 := Lib.hid (HE3.out.below hB4)
        clear hB4 c0 c1 f0 f1 hN
        go_wp2_with fail
        refine (HR.out _ HE4.out.1).mono ?_
        rintro e w5 ⟨rfl, hB5⟩
        have HB5 := Lib.hid (HB4.out.trans (hB5.mono HB4.out.size))
        obtain ⟨c0, c1, f0, f1, hN⟩ := (HT4.out.below hB5).below (below_new w5 (.cells #[.bool k, .string (strB a)] 29))
        obtain ⟨d0, d1, g0, g1, hN2⟩ := twoT_new w5 k a 29
        clear hB5
        go_wp2_with fail
        refine (same_any (k, a) (k, a) _).mono ?_
        rintro e w6 ⟨he, hB6⟩
        rw [decide_eq_true rfl] at he
        subst he
        go_wp2_with fail
        go_ret
        exact ⟨rfl, (HB5.out.alloc HB5.out.size _).trans (hB6.mono (by have := HB5.out.size; simp; omega))⟩
    exact hgo _ rfl
  · have h1' : 1000 < a.length := by omega
    go_enter Tryz.func3, Tryz.ntmps3
    go_wp2_with fail
    refine (awakeY_any _ HE0.out).mono ?_
    rintro e w1 ⟨rfl, hB1⟩
    have HB1 := Lib.hid (HW0.out.trans (hB1.mono HW0.out.size))
    have HE1 := Lib.hid (HE0.out.below hB1)
    obtain ⟨c0, c1, f0, f1, hN⟩ := HT0.out.below hB1
    clear hB1
    go_wp2_with fail
    refine (awakeY_any _ HE1.out).mono ?_
    rintro e w2 ⟨rfl, hB2⟩
    go_wp2_with fail
    go_ret
    exact ⟨rfl, HB1.out.trans (hB2.mono HB1.out.size)⟩
end Go.Proofs.YtkpeaghbacoehaaGreatDoor
