/- What the reference's Remove returns; what Are says of two lists; an append of one list of fields to another. -/
import Derived.Test.YtbmbcdbldbjddaaFWithout
import Derived.Test.YtbmbcdbldbjddaaRefAll
import Derived.Test.YtbmbcdbldbjddaaFSmall
import Derived.Test.YtbmbcdbldbjddaaFAreOnly
import Derived.Deep.QuietTactic
import Derived.BigQuiet
import Derived.BigFrame
namespace Go.Proofs.Ytbmbcdbldbjddaa
open Go.RowKit

theorem own_made (w : World) (T : TypeId) : OwnsP T w.heap.size (w.alloc (.cells #[] T)) (.slice (some ⟨w.heap.size, 0, none⟩) 0 0) [] :=
  World.ownsRow_made w #[] 0 (Nat.le_refl _) (Nat.zero_le _) (by simp)
theorem own_app {T : TypeId} {B : Nat} {w : World} {v : Value} {ps qs : Flds} {n : Nat} (h : w.ownsRow B T 2 v n (flatP ps ++ flatP qs)) (hn : n = ps.length + qs.length) : OwnsP T B w v (ps ++ qs) := by
  unfold OwnsP
  have e : flatP (ps ++ qs) = flatP ps ++ flatP qs := by simp [flatP]
  rw [e, List.length_append, ← hn]; exact h

theorem Try.infoG : (Try.prog.info? 34).map (fun i => (i.zero, i.size, i.bytes)) = some (some (.agg #[.string ByteArray.empty, .string ByteArray.empty]), 2, 32) := by kernel_rfl
end Go.Proofs.Ytbmbcdbldbjddaa
