/- FieldChecks: for every list of fields the statement's function returns true: the walk. -/
import Derived.Test.YtjcekkgoohkomaaDoorFCheck
import Derived.Test.YtjcekkgoohkomaaDoorFNames
namespace Go.Proofs.YtjcekkgoohkomaaDoor.checks
open Go.RowKit

set_option maxHeartbeats 1000000 in
set_option maxRecDepth 100000 in
theorem walk (lv : Value) (ps : Flds) (w : World) (hr : ReadsQ w lv ps) (hl : ps.length ≤ 9223372036854775807) (hb : ∀ p ∈ ps, p.1.length ≤ 140737488355328 ∧ p.2.length ≤ 140737488355328) :
    Calls Tryd.prog 11 #[lv] w fun e w' => e = .returned (.bool true) ∧ Below w.heap.size w w' := by
  have S := fun w hr => small_any lv ps w hr hl hb
  have HR := Lib.hid hr
  clear hb
  cases hs : smallB ps with
  | false =>
    rw [hs] at S
    obtain ⟨ao, cap, rfl, hc⟩ := hr
    clear hc
    go_enter Tryd.func11, Tryd.ntmps11
    go_wp2_with fail
    refine (awake_any _).mono ?_
    rintro e w1 ⟨rfl, hB⟩
    go_wp2_with fail
    refine (S _ (HR.out.below hB)).mono ?_
    rintro e w2 ⟨rfl, hB2⟩
    go_wp2_with fail
    refine (awake_any _).mono ?_
    rintro e w3 ⟨rfl, hB3⟩
    go_wp2_with fail
    go_ret
    exact ⟨rfl, hB.trans ((hB2.trans (hB3.mono hB2.size)).mono hB.size)⟩
  | true =>
    rw [hs] at S
    obtain ⟨h70, h6⟩ := small_yes hs
    have hb6 : ∀ p ∈ ps, p.1.length + p.2.length ≤ 1000000 := fun p hp => by have := h6 p hp; omega
    have F := fun w hr => fields_any lv ps w hr (by omega) hb6
    have K := fun v w hr => check_any v ps w hr (by omega) hb6
    have R := fun w hr => refCheck_any lv ps w hr (by omega) hb6
    clear hs h6 hb6
    obtain ⟨ao, cap, rfl, hc⟩ := hr
    clear hc
    go_enter Tryd.func11, Tryd.ntmps11
    go_wp2_with fail
    refine (awake_any _).mono ?_
    rintro e w1 ⟨rfl, hB⟩
    go_wp2_with fail
    refine (S _ (HR.out.below hB)).mono ?_
    rintro e w2 ⟨rfl, hB2⟩
    have hB' := hB.trans (hB2.mono hB.size)
    clear S
    go_wp2_with fail
    refine (F _ (HR.out.below hB')).mono ?_
    rintro e w3 ⟨v, rfl, hO, hB3⟩
    have hB3' := hB'.trans (hB3.mono hB'.size)
    clear F
    go_wp2_with fail
    refine (K v _ hO.q).mono ?_
    rintro e w4 ⟨rfl, hB4⟩
    have hB4' := hB3'.trans (hB4.mono hB3'.size)
    clear K
    go_wp2_with fail
    refine (names.num_errV (checkC ps) _).mono ?_
    rintro e w' ⟨rfl, rfl⟩
    go_wp2_with fail
    refine (R _ (HR.out.below hB4')).mono ?_
    rintro e w5 ⟨rfl, hB5⟩
    go_wp2_with fail
    go_ret
    exact ⟨by first | rfl | simp, hB4'.trans (hB5.mono hB4'.size)⟩
end Go.Proofs.YtjcekkgoohkomaaDoor.checks
