/- What Number says of a text, in plain words. -/
import Derived.Test.YthjkneifffdglaaDoorJPure
import Derived.Test.YthjkneifffdglaaDoorNumber
namespace Go.Proofs.YthjkneifffdglaaDoor
open Go.RowKit

theorem fdB_eq (c : UInt8) : fdB c = digB c := by
  rw [Bool.eq_iff_iff]; simp [fdB, digB]
theorem numO_yes {l : List UInt8} {n : Nat} (h : numO l = some n) : numGood (strB l) ∧ (strB l).size ≤ 15 ∧ numV (strB l).data.toList = n := by
  obtain ⟨h1, h2, h3, h4⟩ := numO_digits h
  refine ⟨⟨?_, ?_⟩, by rw [strB_size]; exact h2, by rw [strB_list, h4]; rfl⟩
  · rw [strB_list]; rintro rfl; simp at h1
  · rw [strB_list, List.all_eq_true] at *
    intro c hc; rw [← fdB_eq]; exact h3 c hc
theorem numO_no {l : List UInt8} (h : numO l = none) : ¬ numGood (strB l) ∨ 15 < (strB l).size := by
  by_cases h15 : 15 < (strB l).size
  · exact .inr h15
  · refine .inl fun hg => ?_
    obtain ⟨g1, g2⟩ := hg
    rw [strB_list] at g1 g2
    unfold numO at h
    rw [if_pos] at h
    · cases h
    · refine ⟨?_, by rw [strB_size] at h15; omega, ?_⟩
      · cases l with
        | nil => exact absurd rfl g1
        | cons a t => simp
      · rw [List.all_eq_true] at *
        intro c hc; rw [fdB_eq]; exact g2 c hc
theorem numO_lt {l : List UInt8} {n : Nat} (h : numO l = some n) : n < 1000000000000000 := by
  obtain ⟨h1, h2, h3, h4⟩ := numO_digits h
  rw [h4]
  exact numV_le l (by rw [List.all_eq_true] at *; intro c hc; rw [← fdB_eq]; exact h3 c hc) h2
def NumPost (l : List UInt8) (w : World) (e : Ending) (w' : World) : Prop :=
  w = w' ∧ match numO l with
  | some n => e = .returned (.tuple #[.int .i64 n, .nilIface])
  | none => ∃ c : Int, e = .returned (.tuple #[.int .i64 0, .iface 59 (.int .i64 c)])
theorem number_num (l : List UInt8) (w : World) (hl : l.length ≤ 1000000) : Calls Tryd.prog 40 #[.string (strB l)] w (NumPost l w) := by
  have hz : (strB l).size ≤ maxLen := by rw [strB_size]; unfold maxLen; omega
  unfold NumPost
  cases h : numO l with
  | some n =>
    obtain ⟨h1, h2, h3⟩ := numO_yes h
    refine (number_small (strB l) w h1 h2).mono fun e w' ⟨he, hw⟩ => ⟨hw, ?_⟩
    rw [he, h3]
  | none =>
    rcases numO_no h with h1 | h1
    · exact (number_form (strB l) w hz h1).mono fun e w' ⟨he, hw⟩ => ⟨hw, _, he⟩
    · by_cases hg : numGood (strB l)
      · exact (number_large (strB l) w hz hg h1).mono fun e w' ⟨he, hw⟩ => ⟨hw, _, he⟩
      · exact (number_form (strB l) w hz hg).mono fun e w' ⟨he, hw⟩ => ⟨hw, _, he⟩
end Go.Proofs.YthjkneifffdglaaDoor
