/- ValidatorReads, ValidatorTags: for every input the statement's function returns true: the walks. -/
import Derived.Test.YtkpeaghbacoehaaGreatDoorYFew
import Derived.Test.YtkpeaghbacoehaaGreatDoorYRef
import Derived.Test.YtkpeaghbacoehaaGreatDoorIs
namespace Go.Proofs.YtkpeaghbacoehaaGreatDoor
open Go.RowKit

set_option maxHeartbeats 8000000 in
set_option maxRecDepth 100000 in
theorem reads_walk (s : ByteArray) (w : World) (hE : EnvY w) (hs : s.size ≤ maxLen) :
    Calls Tryz.prog 4 #[.string s] w fun e w' => e = .returned (.bool true) ∧ Below w.heap.size w w' := by
  obtain ⟨l, rfl⟩ : ∃ l, s = strB l := ⟨s.data.toList, (strB_of s).symm⟩
  have hsz : (strB l).size = l.length := strB_size l
  have HE := Lib.hid hE
  unfold maxLen at hs
  clear hE
  by_cases h1 : l.length ≤ 1000
  · have HP := Lib.hid (fun (w : World) (hM : MaxIs w) => readTag_any l w hM (by omega))
    have HR := Lib.hid (fun (w : World) => refRead_any l w (by omega))
    have hgo : ∀ q, readTL l = q → Calls Tryz.prog 4 #[.string (strB l)] w fun e w' => e = .returned (.bool true) ∧ Below w.heap.size w w' := by
      intro q hq
      rw [hq] at HP HR
      clear hq
      obtain ⟨t, ht⟩ : ∃ t : Tg, t = q.getD (false, []) := ⟨_, rfl⟩
      cases q with
      | none =>
        unfold tgO at HP
        unfold tgR at HR
        go_enter Tryz.func4, Tryz.ntmps4
        go_wp2_with fail
        refine (awakeY_any _ HE.out).mono ?_
        rintro e w1 ⟨rfl, hB1⟩
        have HB1 := Lib.hid hB1
        have HE1 := Lib.hid (HE.out.below hB1)
        clear hB1
        go_wp2_with fail
        refine (HP.out _ HE1.out.1).mono ?_
        rintro e w2 ⟨rfl, hB2⟩
        have HB2 := Lib.hid (HB1.out.trans (hB2.mono HB1.out.size))
        have HT2 := Lib.hid (twoT_new w2 false [] 29)
        clear hB2
        go_wp2_with fail
        refine (HR.out _).mono ?_
        rintro e w3 ⟨rfl, hB3⟩
        have HB3 := Lib.hid ((HB2.out.alloc HB2.out.size _).trans (hB3.mono (by have := HB2.out.size; simp; omega)))
        obtain ⟨c0, c1, f0, f1, hN⟩ := (HT2.out.below hB3).below (below_new w3 (.cells #[.bool false, .string (strB [])] 23))
        obtain ⟨d0, d1, g0, g1, hN2⟩ := twoT_new w3 false [] 23
        clear hB3
        go_wp2_with fail
        refine (same_any (false, []) (false, []) _).mono ?_
        rintro e w4 ⟨he, hB4⟩
        rw [decide_eq_true rfl] at he
        subst he
        go_wp2_with fail
        refine (is_errno 2 (by decide) _).mono ?_
        rintro e w' ⟨rfl, rfl⟩
        go_wp2_with fail
        go_ret
        exact ⟨rfl, (HB3.out.alloc HB3.out.size _).trans (hB4.mono (by have := HB3.out.size; simp; omega))⟩
      | some t =>
        unfold tgO at HP
        unfold tgR at HR
        obtain ⟨k, a⟩ := t
        go_enter Tryz.func4, Tryz.ntmps4
        go_wp2_with fail
        refine (awakeY_any _ HE.out).mono ?_
        rintro e w1 ⟨rfl, hB1⟩
        have HB1 := Lib.hid hB1
        have HE1 := Lib.hid (HE.out.below hB1)
        clear hB1
        go_wp2_with fail
        refine (HP.out _ HE1.out.1).mono ?_
        rintro e w2 ⟨rfl, hB2⟩
        have HB2 := Lib.hid (HB1.out.trans (hB2.mono HB1.out.size))
        have HT2 := Lib.hid (twoT_new w2 k a 29)
        clear hB2
        go_wp2_with fail
        refine (HR.out _).mono ?_
        rintro e w3 ⟨rfl, hB3⟩
        have HB3 := Lib.hid ((HB2.out.alloc HB2.out.size _).trans (hB3.mono (by have := HB2.out.size; simp; omega)))
        obtain ⟨c0, c1, f0, f1, hN⟩ := (HT2.out.below hB3).below (below_new w3 (.cells #[.bool k, .string (strB a)] 23))
        obtain ⟨d0, d1, g0, g1, hN2⟩ := twoT_new w3 k a 23
        clear hB3
        go_wp2_with fail
        refine (same_any (k, a) (k, a) _).mono ?_
        rintro e w4 ⟨he, hB4⟩
        rw [decide_eq_true rfl] at he
        subst he
        go_wp2_with fail
        go_ret
        exact ⟨rfl, (HB3.out.alloc HB3.out.size _).trans (hB4.mono (by have := HB3.out.size; simp; omega))⟩
    exact hgo _ rfl
  · have h1' : 1000 < l.length := by omega
    go_enter Tryz.func4, Tryz.ntmps4
    go_wp2_with fail
    refine (awakeY_any _ HE.out).mono ?_
    rintro e w1 ⟨rfl, hB1⟩
    have HB1 := Lib.hid hB1
    have HE1 := Lib.hid (HE.out.below hB1)
    clear hB1
    go_wp2_with fail
    refine (awakeY_any _ HE1.out).mono ?_
    rintro e w2 ⟨rfl, hB2⟩
    go_wp2_with fail
    go_ret
    exact ⟨rfl, HB1.out.trans (hB2.mono HB1.out.size)⟩
end Go.Proofs.YtkpeaghbacoehaaGreatDoor
