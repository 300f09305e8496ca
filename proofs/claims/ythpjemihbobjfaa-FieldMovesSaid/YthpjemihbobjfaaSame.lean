/- The code's Same. -/
import Derived.Test.YthpjemihbobjfaaByName
namespace Go.Proofs.Ythpjemihbobjfaa
open Go.RowKit

set_option maxHeartbeats 4000000 in
set_option maxRecDepth 100000 in
theorem same_any (va vb : Value) (pa pb : Flds) (c : Bool) (hc : c = true ↔ SameF (lowF pa) (lowF pb)) (w : World) (hra : ReadsQ w va pa) (hrb : ReadsQ w vb pb) (hla : pa.length ≤ 1000) (hlb : pb.length ≤ 1000)
    (hba : ∀ p ∈ pa, p.1.length + p.2.length ≤ 1000000) (hbb : ∀ p ∈ pb, p.1.length + p.2.length ≤ 1000000) :
    Calls Try.prog 25 #[va, vb] w fun e w' => e = .returned (.bool c) ∧ Below w.heap.size w w' := by
  have NA := fun w h => byName_any va pa w h hla hba
  have NB := fun w h => byName_any vb pb w h hlb hbb
  have HRa := Lib.hid hra
  have HRb := Lib.hid hrb
  have HC := Lib.hid hc
  obtain ⟨ao, ca, rfl, h1⟩ := hra
  obtain ⟨bo, cb, rfl, h2⟩ := hrb
  clear h1 h2 hc hba hbb
  by_cases hl : pa.length = pb.length
  · have e : ((pa.length : Int) == (pb.length : Int)) = true := by simp [hl]
    have HL := Lib.hid hl
    clear hl
    go_enter Try.func25, Try.ntmps25
    go_wp2_with fail
    refine (NA _ HRa.out).mono ?_
    rintro e w1 ⟨v1, Za, rfl, a1, a2, a3, hB1⟩
    go_wp2_with fail
    refine (NB _ (HRb.out.below hB1)).mono ?_
    rintro e w2 ⟨v2, Zb, rfl, b1, b2, b3, hB2⟩
    have hBB := hB1.trans (hB2.mono hB1.size)
    have hza : Za.length ≤ 1000000 := by rw [a2.length, lowF_len]; omega
    have hzb : Zb.length ≤ 1000000 := by rw [b2.length, lowF_len]; omega
    have EQ := equal_any v1 v2 Za Zb w2 (OwnsP.below a3 hB2).q b3.q hza hzb
    have hcz : decide (Za = Zb) = c := by
      rw [Bool.eq_iff_iff, decide_eq_true_eq, HC.out]
      exact srt_iff a1 b1 a2 b2
    rw [hcz] at EQ
    clear NA NB a1 a2 a3 b1 b2 b3 hcz hza hzb
    go_wp2_with fail
    refine EQ.mono ?_
    rintro e w3 ⟨rfl, k, rfl⟩
    clear EQ
    go_wp2_with fail
    go_ret
    exact ⟨rfl, below_drewN hBB k⟩
  · have e : ((pa.length : Int) == (pb.length : Int)) = false := by simp; omega
    have hcf : c = false := by
      rw [Bool.eq_false_iff]
      intro h
      have := (HC.out.mp h).length
      rw [lowF_len, lowF_len] at this
      exact hl this
    subst hcf
    clear hl NA NB
    go_enter Try.func25, Try.ntmps25
    go_wp2_with fail
    go_ret
    exact ⟨rfl, Below.refl _ _⟩
end Go.Proofs.Ythpjemihbobjfaa
