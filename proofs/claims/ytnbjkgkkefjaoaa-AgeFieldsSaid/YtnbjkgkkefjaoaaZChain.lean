/- Pure: a chain of caches: the true age lies between the bounds at each of them; what a hop's clock shows. -/
import Derived.Test.YtnbjkgkkefjaoaaZPure
import Derived.Test.YtnbjkgkkefjaoaaCRef
namespace Go.Proofs.Ytnbjkgkkefjaoaa

/-- A hop: the part of 255, whether it is slow, and the three times. -/
structure Hp where
  part : Int
  slow : Bool
  to : Int
  back : Int
  kept : Int
def Hp.Ok (h : Hp) : Prop := (0 ≤ h.part ∧ h.part ≤ 255) ∧ (0 ≤ h.to ∧ h.to ≤ 65535) ∧ (0 ≤ h.back ∧ h.back ≤ 65535) ∧ (0 ≤ h.kept ∧ h.kept ≤ 65535)
/-- What its clock shows at the time t. -/
def seenV (h : Hp) (q t : Int) : Int := 10 * h.part + t * nearN (pm q) h.part h.slow / 1024
theorem near_h {h : Hp} (ok : h.Ok) (q : Int) : nearN (pm q) h.part h.slow * 1000000 ≤ 1024 * (1000000 + pm q) ∧ 1024 * (1000000 - pm q) ≤ nearN (pm q) h.part h.slow * 1000000 ∧ 922 ≤ nearN (pm q) h.part h.slow ∧ nearN (pm q) h.part h.slow ≤ 1126 := by
  have b := pm_bd q
  obtain ⟨a, c, d, e, _⟩ := near_bd (pm q) h.part h.slow b.1 b.2 ok.1.1 ok.1.2
  exact ⟨a, c, d, e⟩
/-- Readings go on with time, and lie within the limits. -/
theorem seen_mono {h : Hp} (ok : h.Ok) (q s t : Int) (h0 : 0 ≤ s) (hst : s ≤ t) (ht : t ≤ 100000000) : 0 ≤ seenV h q s ∧ seenV h q s ≤ seenV h q t ∧ seenV h q t ≤ 200000000 := by
  obtain ⟨_, _, n1, n2⟩ := near_h ok q
  unfold seenV
  have p := ok.1
  generalize nearN (pm q) h.part h.slow = N at *
  have a := Int.mul_nonneg h0 (show 0 ≤ N by omega)
  have b := mono_r hst (show 0 ≤ N by omega)
  have c := mono_r ht (show 0 ≤ N by omega)
  have d := mono_l n2 (show (0 : Int) ≤ 100000000 by omega)
  generalize s * N = x at *
  generalize t * N = y at *
  generalize 100000000 * N = z at *
  omega
theorem seen_age {h : Hp} (ok : h.Ok) (q s t : Int) (h0 : 0 ≤ s) (hst : s ≤ t) (ht : t ≤ 100000000) : loE (seenV h q t - seenV h q s) (pm q) ≤ t - s ∧ t - s ≤ hiE (seenV h q t - seenV h q s) (pm q) := by
  obtain ⟨a, b, _, _⟩ := near_h ok q
  have pb := pm_bd q
  have m := seen_mono ok q s t h0 hst ht
  exact contains_pure s t (nearN (pm q) h.part h.slow) (seenV h q t - seenV h q s) (pm q) hst (by omega) pb.1 pb.2 (by unfold seenV; omega) a b
/-- One cache of a chain: with a sound bound of the age when the answer was sent, the true age lies between its bounds. -/
theorem chain_step {h : Hp} (ok : h.Ok) (q sent arr now made a : Int) (h0 : 0 ≤ sent) (h1 : sent ≤ arr) (h2 : arr ≤ now) (h3 : now ≤ 100000000) (hm : made ≤ arr) (ha : sent - addA a ≤ made) :
    okA (seenV h q sent) (seenV h q arr) (seenV h q now) = true ∧ lowA (seenV h q arr) (seenV h q now) q ≤ now - made ∧ now - made ≤ topA (seenV h q sent) a (seenV h q now) q := by
  obtain ⟨m1, m2, m3⟩ := seen_mono ok q sent arr h0 h1 (by omega)
  obtain ⟨m4, m5, m6⟩ := seen_mono ok q arr now (by omega) h2 h3
  have e1 : tk (seenV h q sent) = seenV h q sent := by unfold tk; omega
  have e2 : tk (seenV h q arr) = seenV h q arr := by unfold tk; omega
  have e3 : tk (seenV h q now) = seenV h q now := by unfold tk; omega
  have g1 := (seen_age ok q arr now (by omega) h2 h3).1
  have g2 := (seen_age ok q sent now h0 (by omega) h3).2
  unfold okA lowA topA
  rw [e1, e2, e3]
  exact ⟨decide_eq_true (by omega), by omega, by omega⟩
/-- What the next cache is told of the age is sound. -/
theorem told {x y : Int} (h : x ≤ y) (h0 : 0 ≤ y) (hx : x ≤ 2147483648000) : x ≤ addA (y / 1000) := by
  unfold addA
  rw [if_neg (by omega)]
  omega
end Go.Proofs.Ytnbjkgkkefjaoaa
