/- The table of powers of ten, for Itoa; Itoa of a number that is not negative. -/
import Derived.Test.YtdcnoegnkopfdaaDoorRCut
import Derived.Lib.AppendIntMem
import Derived.Lib.SmallJoins
import Derived.Stop.LaidErr
namespace Go.Proofs.YtdcnoegnkopfdaaDoor
open Go.RowKit

/-- The table of powers of ten, for Itoa. -/
def HasTab (w : World) : Prop := Lib.TabIs Tryd.prog w "internal/strconv.uint64pow10" .u64 Lib.pow10Tab
theorem gTab : Tryd.prog.globalNamed "internal/strconv.uint64pow10" = some 1 := by kernel_rfl
theorem HasTab.below {w w' : World} (h : HasTab w) (hb : Below w.heap.size w w') : HasTab w' := Joins.tab_stays gTab h hb (Nat.le_refl _)
theorem itoa_dec (n : Int) (h1 : 0 ≤ n) (h2 : n ≤ 9223372036854775807) (w : World) (hT : HasTab w) :
    Calls Tryd.prog 45 #[.int .i64 n] w fun e w' => e = .returned (.string (strB (decT n))) ∧ Below w.heap.size w w' := by
  refine (Tryd.strconv_Itoa n (by omega) h2 w hT).mono ?_
  rintro e w' ⟨rfl, k, os, rfl⟩
  refine ⟨?_, Lib.below_grow _ _ (Nat.le_refl _) _ _⟩
  obtain ⟨m, rfl⟩ : ∃ m : Nat, n = m := ⟨n.toNat, by omega⟩
  rw [Lib.itoa_nonneg]; rfl
end Go.Proofs.YtdcnoegnkopfdaaDoor
