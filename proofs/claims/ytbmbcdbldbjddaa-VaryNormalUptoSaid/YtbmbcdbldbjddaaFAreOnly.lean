/- What Are returns: whether two lists of fields are the same. -/
import Derived.Test.YtbmbcdbldbjddaaFAll
import Derived.Test.YtbmbcdbldbjddaaFOwn
import Derived.Deep.QuietTactic
import Derived.BigQuiet
namespace Go.Proofs.Ytbmbcdbldbjddaa
open Go.RowKit

theorem same_step {la lb : Flds} {k : Nat} {l : List UInt8 × List UInt8} (h : la.take k = lb.take k) (ha : la[k]? = some l) (hb : lb[k]? = some l) : la.take (k + 1) = lb.take (k + 1) := by
  rw [List.take_add_one, List.take_add_one, h, ha, hb]
theorem same_no {la lb : Flds} {k : Nat} {l m : List UInt8 × List UInt8} (ha : la[k]? = some l) (hb : lb[k]? = some m) (h : l ≠ m) : false = decide (la = lb) := by
  rw [eq_comm, decide_eq_false_iff_not]; intro e; rw [e, hb] at ha; simp at ha; exact h ha.symm
theorem same_end {la lb : Flds} {k : Nat} (h : la.take k = lb.take k) (ha : la.length ≤ k) (hb : lb.length ≤ k) : true = decide (la = lb) := by
  rw [List.take_of_length_le ha, List.take_of_length_le hb] at h; simp [h]

end Go.Proofs.Ytbmbcdbldbjddaa
