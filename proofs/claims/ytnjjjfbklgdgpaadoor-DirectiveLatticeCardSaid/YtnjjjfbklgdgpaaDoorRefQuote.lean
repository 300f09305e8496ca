/- What the reference's Quote returns, for every string up to a bound. -/
import Derived.Test.YtnjjjfbklgdgpaaDoorQuote
namespace Go.Proofs.YtnjjjfbklgdgpaaDoor
open Go.RowKit

theorem conv92 (W : World) :
    (convert 72 9 (.slice (some ⟨W.heap.size, 0, none⟩) 1 1)).run Tryd.prog (W.alloc (.cells #[.int .u8 92] 5)) = .ok (.string ⟨#[92]⟩) (W.alloc (.cells #[.int .u8 92] 5)) :=
  run_convert_bytes_back _ _ _ 5 ⟨W.heap.size, 0, none⟩ 1 [92] Tryd.underlying72 Tryd.underlying5 Tryd.underlying9 (fun j hj => by
    have : j = 0 := by simp at hj; omega
    subst this
    simp [Addr.add])
def RQuoRel (s : ByteArray) (w : World) (o i : Value) (wr : World) : Prop :=
  ∃ k : Nat, i = .int .i64 k ∧ k ≤ s.size ∧ o = .string (strB (34 :: escS (s.data.toList.take k))) ∧ Below w.heap.size w wr
end Go.Proofs.YtnjjjfbklgdgpaaDoor
