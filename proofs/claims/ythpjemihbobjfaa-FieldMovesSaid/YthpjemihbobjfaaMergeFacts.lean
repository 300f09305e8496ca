/- Plain mathematics: where symMerge divides the two parts; nothing of the program. -/
import Derived.Test.YthpjemihbobjfaaMergeB
namespace Go.Proofs.Ythpjemihbobjfaa
open Go.RowKit

/-- The fields before the place in Y are before all behind the place in X. -/
theorem cut_lt {X Y : Flds} {h s hi : Nat} (hX : Srt X) (hY : Srt Y) (_hs : s ≤ h) (hr : h ≤ s + Y.length) (hi1 : hi = h ∨ hi = X.length) (hsi : s ≤ hi)
    (hB : ∀ k x y, s ≤ k → k < hi → X[k]? = some x → Y[h - 1 - k]? = some y → ltK y.1 x.1 = true) : ∀ p ∈ Y.take (h - s), ∀ q ∈ X.drop s, ltK p.1 q.1 = true := by
  intro p hp q hq
  obtain ⟨j, hj, hpj⟩ := mem_take_get hp
  obtain ⟨k, hk, hqk⟩ := mem_drop_get hq
  have hkl := (List.getElem?_eq_some_iff.mp hqk).1
  have hlt : s < hi := by omega
  obtain ⟨x, hx⟩ : ∃ x, X[s]? = some x := ⟨X[s]'(by omega), by simp⟩
  obtain ⟨y, hy⟩ : ∃ y, Y[h - 1 - s]? = some y := ⟨Y[h - 1 - s]'(by omega), by simp⟩
  exact lt_le_lt (le_lt_lt (srt_get hY hpj hy (by omega)) (hB s x y (Nat.le_refl _) hlt hx hy)) (srt_get hX hx hqk hk)
theorem cut_le {X Y : Flds} {h s lo : Nat} (hX : Srt X) (hY : Srt Y) (hs : s ≤ h) (hsl : s ≤ X.length) (hlo : lo = 0 ∨ lo + Y.length = h)
    (hA : ∀ k x y, lo ≤ k → k < s → X[k]? = some x → Y[h - 1 - k]? = some y → ltK y.1 x.1 = false) : ∀ p ∈ X.take s, ∀ q ∈ Y.drop (h - s), leK p.1 q.1 := by
  intro p hp q hq
  obtain ⟨i, hi, hpi⟩ := mem_take_get hp
  obtain ⟨j, hj, hqj⟩ := mem_drop_get hq
  have hjl := (List.getElem?_eq_some_iff.mp hqj).1
  obtain ⟨x, hx⟩ : ∃ x, X[s - 1]? = some x := ⟨X[s - 1]'(by omega), by simp⟩
  obtain ⟨y, hy⟩ : ∃ y, Y[h - 1 - (s - 1)]? = some y := ⟨Y[h - 1 - (s - 1)]'(by omega), by simp⟩
  have h1 : leK x.1 y.1 := hA (s - 1) x y (by omega) (by omega) hx hy
  exact le_trans' (le_trans' (srt_get hX hpi hx (by omega)) h1) (srt_get hY hy hqj (by omega))
theorem merge_join {X1 X2 Y1 Y2 Z1 Z2 : Flds} (hX : Srt (X1 ++ X2)) (hY : Srt (Y1 ++ Y2)) (c1 : ∀ p ∈ Y1, ∀ q ∈ X2, ltK p.1 q.1 = true) (c2 : ∀ p ∈ X1, ∀ q ∈ Y2, leK p.1 q.1)
    (h1 : Srt Z1) (h2 : Srt Z2) (s1 : SameF Z1 (X1 ++ Y1)) (s2 : SameF Z2 (X2 ++ Y2)) : Srt (Z1 ++ Z2) ∧ SameF (Z1 ++ Z2) ((X1 ++ X2) ++ (Y1 ++ Y2)) := by
  refine ⟨h1.app h2 fun p hp q hq => ?_, ?_⟩
  · rcases List.mem_append.1 (s1.mem hp) with hp | hp <;> rcases List.mem_append.1 (s2.mem hq) with hq | hq
    · exact hX.cross p hp q hq
    · exact c2 p hp q hq
    · exact lt_le (c1 p hp q hq)
    · exact hY.cross p hp q hq
  · have e : SameF (Y1 ++ X2) (X2 ++ Y1) := SameF.swap fun p hp q hq he => by
      have := c1 q hq p hp
      rw [he, lt_irrefl'] at this; cases this
    have e2 := ((SameF.refl X1).app e).app (SameF.refl Y2)
    have e3 := (s1.app s2)
    have r1 : (X1 ++ Y1) ++ (X2 ++ Y2) = X1 ++ (Y1 ++ X2) ++ Y2 := by simp
    have r2 : X1 ++ (X2 ++ Y1) ++ Y2 = (X1 ++ X2) ++ (Y1 ++ Y2) := by simp
    rw [r1] at e3
    rw [r2] at e2
    exact e3.trans e2
theorem one_side {X Y : Flds} (hX : Srt X) (hY : Srt Y) (h : X.length = 0 ∨ Y.length = 0) : Srt (X ++ Y) := by
  rcases h with h | h
  · rw [List.eq_nil_of_length_eq_zero h]; exact hY
  · rw [List.eq_nil_of_length_eq_zero h, List.append_nil]; exact hX
theorem nil_of_le {X : Flds} (h : X.length ≤ 0) : X = [] := List.eq_nil_of_length_eq_zero (by omega)
end Go.Proofs.Ythpjemihbobjfaa
