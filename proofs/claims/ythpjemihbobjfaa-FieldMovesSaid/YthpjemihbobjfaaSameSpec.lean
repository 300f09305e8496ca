/- Plain mathematics: two lists of fields are the same; nothing of the program. -/
import Derived.Test.YthpjemihbobjfaaSortSpec
namespace Go.Proofs.Ythpjemihbobjfaa
open Go.RowKit

/-- The fields with their names in lower case. -/
def lowF (ps : Flds) : Flds := ps.map fun p => (lowS p.1, p.2)
theorem lowF_len (ps : Flds) : (lowF ps).length = ps.length := List.length_map ..
theorem lowF_app (ps qs : Flds) : lowF (ps ++ qs) = lowF ps ++ lowF qs := List.map_append ..
theorem lowF_more {ps : Flds} {k : Nat} {p : List UInt8 × List UInt8} (h : ps[k]? = some p) : lowF (ps.take (k + 1)) = lowF (ps.take k) ++ [(lowS p.1, p.2)] := by rw [take_more h, lowF_app]; rfl
theorem low_filter (ps : Flds) (n : List UInt8) : (lowF ps).filter (hasK n) = if lowS n = n then (allL ps n).map fun v => (n, v) else [] := by
  unfold lowF allL
  split
  · rename_i hn
    induction ps with
    | nil => rfl
    | cons p r ih =>
      rw [List.map_cons]
      by_cases h : lowS p.1 = n
      · rw [List.filter_cons_of_pos (by unfold hasK; simp [h]), List.filter_cons_of_pos (by unfold ofN; simp [h, hn]), List.map_cons, List.map_cons, ih, h]
      · rw [List.filter_cons_of_neg (by unfold hasK; simp [h]), List.filter_cons_of_neg (by unfold ofN; simp [h, hn]), ih]
  · rename_i hn
    rw [List.filter_eq_nil_iff]
    intro q hq hk
    obtain ⟨p, _, rfl⟩ := List.mem_map.mp hq
    exact hn (by rw [← of_decide_eq_true hk]; exact lowS_low p.1)
theorem all_nil {ps : Flds} {n : List UInt8} (h : ∀ p ∈ ps, lowS p.1 ≠ lowS n) : allL ps n = [] := by
  unfold allL
  rw [List.map_eq_nil_iff, List.filter_eq_nil_iff]
  exact fun p hp hk => h p hp (of_decide_eq_true hk)
theorem all_same {A B : Flds} (h : SameF (lowF A) (lowF B)) (n : List UInt8) : allL A n = allL B n := by
  have h1 := h (lowS n)
  rw [low_filter, low_filter, if_pos (lowS_low n), if_pos (lowS_low n)] at h1
  have h2 := congrArg (List.map (·.2)) h1
  simp only [List.map_map] at h2
  have e : ∀ l : List (List UInt8), l.map ((fun p : List UInt8 × List UInt8 => p.2) ∘ fun v => (lowS n, v)) = l := fun l => by
    have : ((fun p : List UInt8 × List UInt8 => p.2) ∘ fun v => (lowS n, v)) = id := rfl
    rw [this, List.map_id]
  rw [e, e] at h2
  rwa [all_congr (lowS_low n), all_congr (lowS_low n)] at h2
theorem same_of_all {A B : Flds} (h : ∀ n, allL A n = allL B n) : SameF (lowF A) (lowF B) := fun n => by rw [low_filter, low_filter, h n]
/-- The reference compares the values of the first list's names: with as many fields that is enough. -/
theorem same_iff (A B : Flds) : SameF (lowF A) (lowF B) ↔ A.length = B.length ∧ ∀ p ∈ A, allL A p.1 = allL B p.1 := by
  constructor
  · intro h
    exact ⟨by rw [← lowF_len A, ← lowF_len B, h.length], fun p _ => all_same h p.1⟩
  · rintro ⟨hl, h⟩
    -- the fields of B whose names stand in A
    let f : List UInt8 × List UInt8 → Bool := fun q => decide (∃ p ∈ A, lowS p.1 = lowS q.1)
    have hB : SameF (lowF A) (lowF (B.filter f)) := same_of_all fun n => by
      by_cases hn : ∃ p ∈ A, lowS p.1 = lowS n
      · obtain ⟨p, hp, he⟩ := hn
        have e : allL (B.filter f) n = allL B n := by
          unfold allL
          rw [List.filter_filter]
          congr 1
          refine List.filter_congr fun q _ => ?_
          by_cases hq : ofN n q = true
          · have : f q = true := decide_eq_true ⟨p, hp, he.trans (of_decide_eq_true hq).symm⟩
            rw [hq, this]; rfl
          · rw [Bool.eq_false_iff.mpr hq]; rfl
        rw [e, ← all_congr (ps := A) he, ← all_congr (ps := B) he]
        exact h p hp
      · rw [all_nil fun p hp he => hn ⟨p, hp, he⟩, all_nil fun q hq he => ?_]
        obtain ⟨p, hp, hpe⟩ := of_decide_eq_true (List.mem_filter.1 hq).2
        exact hn ⟨p, hp, hpe.trans he⟩
    have hlen : (B.filter f).length = B.length := by rw [← hl, ← lowF_len A, hB.length, lowF_len]
    have hall : B.filter f = B := List.filter_eq_self.mpr (List.length_filter_eq_length_iff.mp hlen)
    rwa [hall] at hB
/-- Two sorted lists are equal just if their sources are the same. -/
theorem srt_iff {Za Zb A B : Flds} (ha : Srt Za) (hb : Srt Zb) (sa : SameF Za A) (sb : SameF Zb B) : Za = Zb ↔ SameF A B :=
  ⟨fun h => by subst h; exact sa.symm.trans sb, fun h => srt_unique ha hb (sa.trans (h.trans sb.symm))⟩
theorem same_take {A B : Flds} {k : Nat} {p : List UInt8 × List UInt8} (hp : A[k]? = some p) (h : ∀ q ∈ A.take k, allL A q.1 = allL B q.1) (he : allL A p.1 = allL B p.1) : ∀ q ∈ A.take (k + 1), allL A q.1 = allL B q.1 := by
  rw [take_more hp]
  intro q hq
  rcases List.mem_append.1 hq with hq | hq
  · exact h q hq
  · simp at hq; subst hq; exact he
end Go.Proofs.Ythpjemihbobjfaa
