/- FieldGets: for every list of fields and every name the statement's function returns true: the walk. -/
import Derived.Test.YthpjemihbobjfaaRefGet
import Derived.Test.YthpjemihbobjfaaTexts
namespace Go.Proofs.Ythpjemihbobjfaa.gets
open Go.RowKit

theorem bool_same (b : Bool) : (b == b) = true := by cases b <;> rfl
set_option maxHeartbeats 2000000 in
set_option maxRecDepth 100000 in
theorem walk (lv : Value) (ps : Flds) (s : ByteArray) (w : World) (hr : ReadsQ w lv ps) (hl : ps.length ≤ 9223372036854775807) (hb : ∀ p ∈ ps, p.1.length ≤ 140737488355328 ∧ p.2.length ≤ 140737488355328) (_hs : s.size ≤ maxLen) :
    Calls Try.prog 3 #[lv, .string s] w fun e w' => e = .returned (.bool true) ∧ Below w.heap.size w w' := by
  have S := fun w hr => small_any lv ps w hr hl hb
  have HR := Lib.hid hr
  clear hb
  cases hsm : smallB ps with
  | false =>
    rw [hsm] at S
    obtain ⟨ao, cap, rfl, hc⟩ := hr
    clear hc
    go_enter Try.func3, Try.ntmps3
    go_wp2_with fail
    refine (awake_any _).mono ?_
    rintro e w1 ⟨rfl, hB⟩
    go_wp2_with fail
    refine (S _ (HR.out.below hB)).mono ?_
    rintro e w2 ⟨rfl, hB2⟩
    go_wp2_with fail
    refine (awake_any _).mono ?_
    rintro e w3 ⟨rfl, hB3⟩
    go_wp2_with fail
    go_ret
    exact ⟨rfl, hB.trans ((hB2.trans (hB3.mono hB2.size)).mono hB.size)⟩
  | true =>
    rw [hsm] at S
    by_cases h100 : s.size ≤ 100
    · obtain ⟨h70, h6⟩ := small_yes hsm
      have hb6 : ∀ p ∈ ps, p.1.length + p.2.length ≤ 1000000 := fun p hp => by have := h6 p hp; omega
      have hz := Array.length_toList (xs := s.data)
      have hzn : s.data.toList.length ≤ 1000000000 := by rw [hz]; show s.size ≤ _; omega
      have F := fun w hr => fields_any lv ps w hr (by omega) hb6
      have G := fun v w hr => get_any v ps s w hr (by omega) (by omega) hb6
      have A := fun v w hr => all_any v ps s w hr (by omega) (by omega) hb6
      have RG := fun w hr => refGet_any lv ps s.data.toList w hr hzn (by omega) hb6
      have RA := fun w hr => refAll_any lv ps s.data.toList w hr hzn (by omega) hb6
      rw [strB_of] at RG RA
      have hal := all_len ps s.data.toList
      generalize hx : allL ps s.data.toList = x at G A RG RA hal
      clear hsm h6 hb6 hx hz hzn
      have q1 : ((strB (getL x)).toList == (strB (getL x)).toList) = true := beq_self_eq_true _
      have q2 := bool_same (decide (0 < x.length))
      generalize decide (0 < x.length) = b at G RG q2
      generalize getL x = t at G RG q1
      obtain ⟨ao, cap, rfl, hc⟩ := hr
      clear hc
      go_enter Try.func3, Try.ntmps3
      go_wp2_with fail
      refine (awake_any _).mono ?_
      rintro e w1 ⟨rfl, hB⟩
      go_wp2_with fail
      refine (S _ (HR.out.below hB)).mono ?_
      rintro e w2 ⟨rfl, hB2⟩
      have hB' := hB.trans (hB2.mono hB.size)
      clear S
      go_wp2_with fail
      refine (F _ (HR.out.below hB')).mono ?_
      rintro e w3 ⟨v, rfl, hO, hB3⟩
      have hB3' := hB'.trans (hB3.mono hB'.size)
      go_wp2_with fail
      refine (G v _ hO.q).mono ?_
      rintro e w4 ⟨rfl, hB4⟩
      have hB4' := hB3'.trans (hB4.mono hB3'.size)
      clear G
      go_wp2_with fail
      refine (RG _ (HR.out.below hB4')).mono ?_
      rintro e w5 ⟨rfl, hB5⟩
      have hB5' := hB4'.trans (hB5.mono hB4'.size)
      clear RG
      go_wp2_with fail
      refine (F _ (HR.out.below hB5')).mono ?_
      rintro e w6 ⟨v2, rfl, hO2, hB6⟩
      have hB6' := hB5'.trans (hB6.mono hB5'.size)
      clear F
      go_wp2_with fail
      refine (A v2 _ hO2.q).mono ?_
      rintro e w7 ⟨v3, rfl, hO3, hB7⟩
      have hB7' := hB6'.trans (hB7.mono hB6'.size)
      clear A
      go_wp2_with fail
      refine (RA _ (HR.out.below hB7')).mono ?_
      rintro e w8 ⟨v4, rfl, hO4, hB8⟩
      have hB8' := hB7'.trans (hB8.mono hB7'.size)
      clear RA
      go_wp2_with fail
      refine (texts_any v3 v4 x x _ (hO3.reads.below hB8) hO4.reads (by omega) (by omega)).mono ?_
      rintro e w' ⟨rfl, n, rfl⟩
      rw [decide_eq_true rfl]
      go_wp2_with fail
      go_ret
      exact ⟨rfl, below_drewN hB8' n⟩
    · obtain ⟨ao, cap, rfl, hc⟩ := hr
      clear hc hsm
      go_enter Try.func3, Try.ntmps3
      go_wp2_with fail
      refine (awake_any _).mono ?_
      rintro e w1 ⟨rfl, hB⟩
      go_wp2_with fail
      refine (S _ (HR.out.below hB)).mono ?_
      rintro e w2 ⟨rfl, hB2⟩
      go_wp2_with fail
      refine (awake_any _).mono ?_
      rintro e w3 ⟨rfl, hB3⟩
      go_wp2_with fail
      go_ret
      exact ⟨rfl, hB.trans ((hB2.trans (hB3.mono hB2.size)).mono hB.size)⟩
end Go.Proofs.Ythpjemihbobjfaa.gets
