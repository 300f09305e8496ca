/- Plain mathematics: runs of one length that are sorted; nothing of the program. -/
import Derived.Test.YthpjemihbobjfaaMerge
namespace Go.Proofs.Ythpjemihbobjfaa
open Go.RowKit

/-- Below place a the runs of length w are sorted. -/
def RunsTo (w a : Nat) (l : Flds) : Prop := ∀ k i j p q, w * k ≤ i → i < j → j < w * k + w → j < a → l[i]? = some p → l[j]? = some q → leK p.1 q.1
/-- From place a on the runs of length w are sorted. -/
def RunsFrom (w a : Nat) (l : Flds) : Prop := ∀ k i j p q, a ≤ i → w * k ≤ i → i < j → j < w * k + w → l[i]? = some p → l[j]? = some q → leK p.1 q.1

theorem runs_nil (w : Nat) (l : Flds) : RunsTo w 0 l := fun _ _ _ _ _ _ _ _ h => by omega
theorem get_left {P Z S : Flds} {i : Nat} (h : i < P.length) : (P ++ Z ++ S)[i]? = P[i]? := by
  rw [List.append_assoc, List.getElem?_append_left h]
theorem get_mid {P Z S : Flds} {i : Nat} (h : P.length ≤ i) (h2 : i < P.length + Z.length) : (P ++ Z ++ S)[i]? = Z[i - P.length]? := by
  rw [List.append_assoc, List.getElem?_append_right h, List.getElem?_append_left (by omega)]
theorem get_right {P Z S : Flds} {i : Nat} (h : P.length + Z.length ≤ i) : (P ++ Z ++ S)[i]? = S[i - (P.length + Z.length)]? := by
  rw [List.getElem?_append_right (by simp; omega)]; simp
theorem runs_put {w k0 : Nat} {P X Z S : Flds} (hk : P.length = w * k0) (h : RunsTo w P.length (P ++ X ++ S)) (hZ : Srt Z) : RunsTo w (P.length + Z.length) (P ++ Z ++ S) := by
  intro k i j p q h1 h2 h3 h4 hp hq
  by_cases hj : j < P.length
  · rw [get_left (by omega)] at hp hq
    exact h k i j p q h1 h2 h3 hj (by rw [get_left (by omega)]; exact hp) (by rw [get_left hj]; exact hq)
  · have hk2 : k0 ≤ k := by
      by_cases hlt : k + 1 ≤ k0
      · have := Nat.mul_le_mul_left w hlt
        rw [Nat.mul_succ] at this; omega
      · omega
    have := Nat.mul_le_mul_left w hk2
    rw [get_mid (by omega) (by omega)] at hp hq
    exact srt_get hZ hp hq (by omega)
theorem runs_from {v a : Nat} {P X Z S : Flds} (h : RunsFrom v a (P ++ X ++ S)) (hl : Z.length = X.length) : RunsFrom v (max a (P.length + X.length)) (P ++ Z ++ S) := by
  intro k i j p q h0 h1 h2 h3 hp hq
  rw [get_right (by omega), hl] at hp hq
  exact h k i j p q (by omega) h1 h2 h3 (by rw [get_right (by omega)]; exact hp) (by rw [get_right (by omega)]; exact hq)
theorem runs_from' {v a b : Nat} {P X Z S : Flds} (h : RunsFrom v a (P ++ X ++ S)) (hl : Z.length = X.length) (hb : b = P.length + X.length) (hab : a ≤ b) : RunsFrom v b (P ++ Z ++ S) := by
  have := runs_from h hl
  rwa [show max a (P.length + X.length) = b by omega] at this
theorem runs_part {v a k0 : Nat} {P X S : Flds} (h : RunsFrom v a (P ++ X ++ S)) (ha : a ≤ P.length) (hk : P.length = v * k0) (hx : X.length ≤ v) : Srt X := by
  refine List.pairwise_iff_getElem.mpr fun i j hi hj hij => ?_
  have gi : (P ++ X ++ S)[P.length + i]? = some X[i] := by rw [get_mid (by omega) (by omega)]; simp
  have gj : (P ++ X ++ S)[P.length + j]? = some X[j] := by rw [get_mid (by omega) (by omega)]; simp
  exact h k0 (P.length + i) (P.length + j) _ _ (by omega) (by omega) (by omega) (by omega) gi gj
theorem runs_all {v : Nat} {l : Flds} (h : RunsTo v l.length l) : RunsFrom v 0 l := fun k i j p q _ h1 h2 h3 hp hq =>
  h k i j p q h1 h2 h3 (List.getElem?_eq_some_iff.mp hq).1 hp hq
theorem runs_srt {v : Nat} {l : Flds} (h : RunsTo v l.length l) (hv : l.length ≤ v) : Srt l := by
  refine List.pairwise_iff_getElem.mpr fun i j hi hj hij => ?_
  exact h 0 i j _ _ (by omega) hij (by omega) hj (by simp) (by simp)
/-- The last run is a single run of half the length. -/
theorem runs_last {v k0 : Nat} {P X : Flds} (hk : P.length = 2 * v * k0) (h : RunsTo (2 * v) P.length (P ++ X)) (hX : Srt X) : RunsTo (2 * v) (P.length + X.length) (P ++ X) := by
  have := runs_put (Z := X) (S := []) (X := X) hk (by rw [List.append_nil]; exact h) hX
  rwa [List.append_nil] at this
theorem mul_two_even (v k : Nat) : 2 * v * k = v * (2 * k) := by rw [Nat.mul_comm 2 v, Nat.mul_assoc]
theorem mul_two_odd (v k : Nat) : 2 * v * k + v = v * (2 * k + 1) := by rw [mul_two_even, Nat.mul_succ]
end Go.Proofs.Ythpjemihbobjfaa
