/- What the reference's Of returns. -/
import Derived.Test.YthjkneifffdglaaDoorFAll
import Derived.Test.YthjkneifffdglaaDoorRefLower
namespace Go.Proofs.YthjkneifffdglaaDoor
open Go.RowKit

set_option maxHeartbeats 400000 in
set_option maxRecDepth 100000 in
theorem of_any (a b n : List UInt8) (w : World) (ha : a.length ≤ 1000000000) (hn : n.length ≤ 1000000000) :
    Calls Tryd.prog 47 #[.agg #[.string (strB a), .string (strB b)], .string (strB n)] w fun e w' => e = .returned (.bool (ofN n (a, b))) ∧ Below w.heap.size w w' := by
  have za : (strB a).size ≤ 1000000000 := by rw [strB_size]; exact ha
  have zn : (strB n).size ≤ 1000000000 := by rw [strB_size]; exact hn
  have L1 := fun w => refLower_any (strB a) w za
  have L2 := fun w => refLower_any (strB n) w zn
  rw [strB_list] at L1 L2
  by_cases h : lowS a = lowS n
  · have heq := toList_same h
    have ho : ofN n (a, b) = true := decide_eq_true h
    rw [ho]
    clear h ho
    go_enter Tryd.func47, Tryd.ntmps47
    go_wp2_with fail
    refine (L1 _).mono ?_
    rintro e w1 ⟨rfl, hB⟩
    have hB' := below_pair' hB
    clear hB
    go_wp2_with fail
    refine (L2 _).mono ?_
    rintro e w2 ⟨rfl, hB2⟩
    go_wp2_with fail
    go_ret
    exact ⟨by first | rfl | simp, hB'.trans (hB2.mono hB'.size)⟩
  · have heq := toList_other h
    have ho : ofN n (a, b) = false := decide_eq_false h
    rw [ho]
    clear h ho
    go_enter Tryd.func47, Tryd.ntmps47
    go_wp2_with fail
    refine (L1 _).mono ?_
    rintro e w1 ⟨rfl, hB⟩
    have hB' := below_pair' hB
    clear hB
    go_wp2_with fail
    refine (L2 _).mono ?_
    rintro e w2 ⟨rfl, hB2⟩
    go_wp2_with fail
    go_ret
    exact ⟨by first | rfl | simp, hB'.trans (hB2.mono hB'.size)⟩

end Go.Proofs.YthjkneifffdglaaDoor
