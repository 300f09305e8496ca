/- What the code's without returns, for every list of fields; lists of fields as the source of an append. -/
import Derived.Test.YtbmbcdbldbjddaaFSmall
import Derived.Test.YtbmbcdbldbjddaaFNamesMap
import Derived.Laws.AppendOwnNone
namespace Go.Proofs.Ytbmbcdbldbjddaa
open Go.RowKit

theorem flatP_get : ∀ (ps : Flds) (j : Nat) (u : Value), (flatP ps)[j]? = some u → ∃ i p, ps[i]? = some p ∧ ((j = i * 2 ∧ u = strV p.1) ∨ (j = i * 2 + 1 ∧ u = strV p.2)) := by
  intro ps
  induction ps with
  | nil => intro j u h; simp [flatP] at h
  | cons q r ih =>
    intro j u h
    have e : flatP (q :: r) = strV q.1 :: strV q.2 :: flatP r := rfl
    rw [e] at h
    match j, h with
    | 0, h => simp at h; exact ⟨0, q, rfl, .inl ⟨rfl, h.symm⟩⟩
    | 1, h => simp at h; exact ⟨0, q, rfl, .inr ⟨rfl, h.symm⟩⟩
    | j + 2, h =>
      obtain ⟨i, p, hi, hc⟩ := ih j u (by simpa using h)
      exact ⟨i + 1, p, by simpa using hi, by rcases hc with ⟨rfl, hu⟩ | ⟨rfl, hu⟩
                                             · exact .inl ⟨by omega, hu⟩
                                             · exact .inr ⟨by omega, hu⟩⟩
theorem flatP_one (ps : Flds) : ∀ u ∈ flatP ps, u.oneCell' = true := by
  intro u hu
  obtain ⟨j, hj⟩ := List.getElem?_of_mem hu
  obtain ⟨i, p, _, h | h⟩ := flatP_get ps j u hj <;> rw [h.2] <;> rfl
/-- The cells of a slice that is read, as the source of an append. -/
theorem ReadsQ.src {w : World} {ad : Addr} {n cap : Nat} {ps : Flds} (h : ReadsQ w (.slice (some ad) n cap) ps) : n = ps.length ∧ ∀ j u, (flatP ps)[j]? = some u → w.cell? (ad.add j) = some u := by
  obtain ⟨ao, c, hv, hc⟩ := h
  simp only [Value.slice.injEq] at hv
  obtain ⟨rfl, rfl, rfl⟩ := hv
  refine ⟨rfl, fun j u hj => ?_⟩
  obtain ⟨i, p, hi, hu⟩ := flatP_get ps j u hj
  obtain ⟨g, off, ha, _, h1, h2⟩ := hc i p hi
  obtain rfl : ad = ⟨g, off, none⟩ := Option.some.inj ha
  rcases hu with ⟨rfl, rfl⟩ | ⟨rfl, rfl⟩
  · rw [Addr.add_lit]; exact h1
  · rw [Addr.add_lit, ← Nat.add_assoc]; exact h2
theorem ReadsQ.none {w : World} {n cap : Nat} {ps : Flds} (h : ReadsQ w (.slice none n cap) ps) : ps = [] ∧ n = 0 := by
  obtain ⟨ao, c, hv, hc⟩ := h
  simp only [Value.slice.injEq] at hv
  obtain ⟨rfl, rfl, rfl⟩ := hv
  cases ps with
  | nil => exact ⟨rfl, rfl⟩
  | cons p r => obtain ⟨g, off, ha, _⟩ := hc 0 p rfl; cases ha

def WithoutRel (ps : Flds) (f : List UInt8 × List UInt8 → Bool) (w : World) (v i : Value) (wr : World) : Prop :=
  ∃ k : Nat, i = .int .i64 k ∧ k ≤ ps.length ∧ OwnsP 65 w.heap.size wr v ((ps.take k).filter f) ∧ Below w.heap.size w wr
theorem fil_yes {ps : Flds} {f : List UInt8 × List UInt8 → Bool} {k : Nat} {p : List UInt8 × List UInt8} (h : ps[k]? = some p) (ho : f p = true) : (ps.take (k + 1)).filter f = (ps.take k).filter f ++ [p] := by
  rw [take_more h, List.filter_append]; simp [ho]
theorem fil_no {ps : Flds} {f : List UInt8 × List UInt8 → Bool} {k : Nat} {p : List UInt8 × List UInt8} (h : ps[k]? = some p) (ho : f p = false) : (ps.take (k + 1)).filter f = (ps.take k).filter f := by
  rw [take_more h, List.filter_append]; simp [ho]
theorem fil_len (ps : Flds) (f : List UInt8 × List UInt8 → Bool) (k : Nat) : ((ps.take k).filter f).length ≤ k := Nat.le_trans (List.length_filter_le _ _) (List.length_take_le _ _)

theorem rem_names (ps : Flds) (n : List UInt8) : (ps.filter fun p => !decide (lowS p.1 ∈ [lowS n])) = remL ps n := by
  unfold remL
  refine List.filter_congr fun p _ => ?_
  unfold ofN; simp

end Go.Proofs.Ytbmbcdbldbjddaa
