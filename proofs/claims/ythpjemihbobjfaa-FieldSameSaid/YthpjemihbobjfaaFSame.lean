/- FieldSame: for every two lists of fields the statement's function returns true: the walk. -/
import Derived.Test.YthpjemihbobjfaaSame
import Derived.Test.YthpjemihbobjfaaRefSame
namespace Go.Proofs.Ythpjemihbobjfaa.same
open Go.RowKit

theorem bool_same (b : Bool) : (b == b) = true := by cases b <;> rfl
set_option maxHeartbeats 4000000 in
set_option maxRecDepth 100000 in
theorem walk (va : Value) (pa : Flds) (vb : Value) (pb : Flds) (w : World) (hra : ReadsQ w va pa) (hla : pa.length ≤ 9223372036854775807) (hba : ∀ p ∈ pa, p.1.length ≤ 140737488355328 ∧ p.2.length ≤ 140737488355328)
    (hrb : ReadsQ w vb pb) (hlb : pb.length ≤ 9223372036854775807) (hbb : ∀ p ∈ pb, p.1.length ≤ 140737488355328 ∧ p.2.length ≤ 140737488355328) :
    Calls Try.prog 6 #[va, vb] w fun e w' => e = .returned (.bool true) ∧ Below w.heap.size w w' := by
  have SA := fun w hr => small_any va pa w hr hla hba
  have SB := fun w hr => small_any vb pb w hr hlb hbb
  have HRa := Lib.hid hra
  have HRb := Lib.hid hrb
  obtain ⟨ao, ca, rfl, h1⟩ := hra
  obtain ⟨bo, cb, rfl, h2⟩ := hrb
  clear h1 h2 hba hbb
  cases hsa : smallB pa with
  | false =>
    rw [hsa] at SA
    clear SB
    go_enter Try.func6, Try.ntmps6
    go_wp2_with fail
    refine (awake_any _).mono ?_
    rintro e w1 ⟨rfl, hB⟩
    go_wp2_with fail
    refine (SA _ (HRa.out.below hB)).mono ?_
    rintro e w2 ⟨rfl, hB2⟩
    clear SA
    go_wp2_with fail
    refine (awake_any _).mono ?_
    rintro e w3 ⟨rfl, hB3⟩
    go_wp2_with fail
    go_ret
    exact ⟨rfl, hB.trans ((hB2.trans (hB3.mono hB2.size)).mono hB.size)⟩
  | true =>
    rw [hsa] at SA
    cases hsb : smallB pb with
    | false =>
      rw [hsb] at SB
      go_enter Try.func6, Try.ntmps6
      go_wp2_with fail
      refine (awake_any _).mono ?_
      rintro e w1 ⟨rfl, hB⟩
      go_wp2_with fail
      refine (SA _ (HRa.out.below hB)).mono ?_
      rintro e w2 ⟨rfl, hB2⟩
      have hB2' := hB.trans (hB2.mono hB.size)
      clear SA
      go_wp2_with fail
      refine (SB _ (HRb.out.below hB2')).mono ?_
      rintro e w3 ⟨rfl, hB3⟩
      have hB3' := hB2'.trans (hB3.mono hB2'.size)
      clear SB
      go_wp2_with fail
      refine (awake_any _).mono ?_
      rintro e w4 ⟨rfl, hB4⟩
      go_wp2_with fail
      go_ret
      exact ⟨rfl, hB3'.trans (hB4.mono hB3'.size)⟩
    | true =>
      rw [hsb] at SB
      obtain ⟨ha70, ha6⟩ := small_yes hsa
      obtain ⟨hb70, hb6⟩ := small_yes hsb
      have hA : ∀ p ∈ pa, p.1.length + p.2.length ≤ 1000000 := fun p hp => by have := ha6 p hp; omega
      have hB : ∀ p ∈ pb, p.1.length + p.2.length ≤ 1000000 := fun p hp => by have := hb6 p hp; omega
      have FA := fun w hr => fields_any (.slice ao pa.length ca) pa w hr (by omega) hA
      have FB := fun w hr => fields_any (.slice bo pb.length cb) pb w hr (by omega) hB
      have RS := fun w hra hrb => refSame_any (.slice ao pa.length ca) (.slice bo pb.length cb) pa pb w hra hrb (by omega) (by omega) hA hB
      have QAB := fun c hc va vb w hra hrb => same_any va vb pa pb c hc w hra hrb (by omega) (by omega) hA hB
      have QBA := fun c hc va vb w hra hrb => same_any va vb pb pa c hc w hra hrb (by omega) (by omega) hB hA
      have QAA := fun va vb w hra hrb => same_any va vb pa pa true ⟨fun _ => SameF.refl _, fun _ => rfl⟩ w hra hrb (by omega) (by omega) hA hA
      have Q1 := Lib.hid QAB
      have Q2 := Lib.hid QBA
      have Q3 := Lib.hid QAA
      have F1 := Lib.hid FA
      have F2 := Lib.hid FB
      have R1 := Lib.hid RS
      have S1 := Lib.hid SA
      have S2 := Lib.hid SB
      clear hsa hsb ha6 hb6 hA hB QAB QBA QAA FA FB RS SA SB
      go_enter Try.func6, Try.ntmps6
      go_wp2_with fail
      refine (awake_any _).mono ?_
      rintro e w1 ⟨rfl, hB⟩
      go_wp2_with fail
      refine (S1.out _ (HRa.out.below hB)).mono ?_
      rintro e w2 ⟨rfl, hB2⟩
      have hB2' := hB.trans (hB2.mono hB.size)
      go_wp2_with fail
      refine (S2.out _ (HRb.out.below hB2')).mono ?_
      rintro e w3 ⟨rfl, hB3⟩
      have hB3' := hB2'.trans (hB3.mono hB2'.size)
      clear hB hB2 hB2' hB3
      go_wp2_with fail
      refine (R1.out _ (HRa.out.below hB3') (HRb.out.below hB3')).mono ?_
      rintro e w4 ⟨c, rfl, hc, hB4⟩
      have hB4' := hB3'.trans (hB4.mono hB3'.size)
      have hc1 := hc.trans (same_iff pa pb).symm
      have hc2 : c = true ↔ SameF (lowF pb) (lowF pa) := hc1.trans ⟨SameF.symm, SameF.symm⟩
      have C1 := Lib.hid hc1
      have C2 := Lib.hid hc2
      have q2 := bool_same c
      clear hB3' hB4 hc hc1 hc2
      go_wp2_with fail
      refine (F1.out _ (HRa.out.below hB4')).mono ?_
      rintro e w5 ⟨v1, rfl, hO1, hB5⟩
      have hB5' := hB4'.trans (hB5.mono hB4'.size)
      go_wp2_with fail
      refine (F2.out _ (HRb.out.below hB5')).mono ?_
      rintro e w6 ⟨v2, rfl, hO2, hB6⟩
      have hB6' := hB5'.trans (hB6.mono hB5'.size)
      go_wp2_with fail
      refine (Q1.out c C1.out v1 v2 _ (hO1.q.below hB6) hO2.q).mono ?_
      rintro e w7 ⟨rfl, hB7⟩
      have hB7' := hB6'.trans (hB7.mono hB6'.size)
      clear hB4' hB5 hB5' hB6 hB6' hB7 hO1 hO2
      go_wp2_with fail
      refine (F2.out _ (HRb.out.below hB7')).mono ?_
      rintro e w8 ⟨v3, rfl, hO3, hB8⟩
      have hB8' := hB7'.trans (hB8.mono hB7'.size)
      go_wp2_with fail
      refine (F1.out _ (HRa.out.below hB8')).mono ?_
      rintro e w9 ⟨v4, rfl, hO4, hB9⟩
      have hB9' := hB8'.trans (hB9.mono hB8'.size)
      go_wp2_with fail
      refine (Q2.out c C2.out v3 v4 _ (hO3.q.below hB9) hO4.q).mono ?_
      rintro e w10 ⟨rfl, hB10⟩
      have hB10' := hB9'.trans (hB10.mono hB9'.size)
      clear hB7' hB8 hB8' hB9 hB9' hB10 hO3 hO4
      go_wp2_with fail
      refine (F1.out _ (HRa.out.below hB10')).mono ?_
      rintro e w11 ⟨v5, rfl, hO5, hB11⟩
      have hB11' := hB10'.trans (hB11.mono hB10'.size)
      go_wp2_with fail
      refine (F1.out _ (HRa.out.below hB11')).mono ?_
      rintro e w12 ⟨v6, rfl, hO6, hB12⟩
      have hB12' := hB11'.trans (hB12.mono hB11'.size)
      go_wp2_with fail
      refine (Q3.out v5 v6 _ (hO5.q.below hB12) hO6.q).mono ?_
      rintro e w13 ⟨rfl, hB13⟩
      go_wp2_with fail
      go_ret
      exact ⟨rfl, hB12'.trans (hB13.mono hB12'.size)⟩
end Go.Proofs.Ythpjemihbobjfaa.same
