/- Appends of strings that are read to a slice of strings that the call made. -/
import Derived.Test.YtdpadeopebndeaaDoorFOwn
import Derived.BigFrame
import Derived.Deep.RegionLaw
import Derived.Deep.AppendLies
namespace Go.Proofs.YtdpadeopebndeaaDoor
open Go.RowKit

theorem saneS {B : Nat} {w : World} {v : Value} {ls : List (List UInt8)} (h : OwnsS B w v ls) : Sane v := by
  rcases h with ⟨hl, ⟨hv, hn⟩ | ⟨g, cap, cur, hv, hb, hg, hn, _⟩⟩
  · intro a n c e; rw [hv] at e; cases e; exact ⟨Nat.le_refl _, fun _ => rfl⟩
  · intro a n c e; rw [hv] at e; cases e; exact ⟨hn, fun h => by cases h⟩
theorem own_appS {B : Nat} {w : World} {v : Value} {ls ms : List (List UInt8)} (h : w.ownsRow B 9 1 v (ls.length + ms.length) (ls.map strV ++ ms.map strV)) : OwnsS B w v (ls ++ ms) := by
  unfold OwnsS; rw [List.length_append, List.map_append]; exact h
/-- What was there is as it was, behind an append that makes no new variable. -/
theorem below_appendS {B : Nat} {a w w2 : World} {v : Value} {ls : List (List UInt8)} (hB : Below B a w) (hBs : B ≤ w.heap.size) (hown : OwnsS B w v ls) (hgrow : w.grownBy w2 v.ownBlock) : Below B a w2 :=
  hB.grown hgrow hBs (fun q hq => (World.ownsRow.lt hown q hq).1)
/-- The end of a slice of strings. -/
theorem OwnsS.isSlice {B : Nat} {w : World} {v : Value} {ls : List (List UInt8)} (h : OwnsS B w v ls) : ∃ a c, v = .slice a ls.length c := by
  obtain ⟨ao, cap, rfl, _⟩ := h.reads; exact ⟨ao, cap, rfl⟩
end Go.Proofs.YtdpadeopebndeaaDoor
