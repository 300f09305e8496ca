/- What the code's List returns: the parts between commas that are not empty, or ErrForm. What Texts says of two slices of strings. -/
import Derived.Test.YtkpeaghbacoehaaGreatDoorDiv
namespace Go.Proofs.YtkpeaghbacoehaaGreatDoor
open Go.RowKit

def listO (l : List UInt8) : Option (List (List UInt8)) := (partsO 44 l).map (·.filter (!·.isEmpty))

def fil (ls : List (List UInt8)) : List (List UInt8) := ls.filter (!·.isEmpty)
def ListRel (ls : List (List UInt8)) (w : World) (u i : Value) (wr : World) : Prop :=
  ∃ k : Nat, i = .int .i64 k ∧ k ≤ ls.length ∧ OwnsS w.heap.size wr u (fil (ls.take k)) ∧ Below w.heap.size w wr
theorem ListRel0 (ls : List (List UInt8)) (w : World) : ListRel ls w (.slice none 0 0) (.int .i64 0) w :=
  ⟨0, rfl, Nat.zero_le _, World.ownsRow_nil _ _ _ _, Below.refl _ _⟩
theorem fil_le (ls : List (List UInt8)) (k : Nat) : (fil (ls.take k)).length ≤ k :=
  Nat.le_trans (List.length_filter_le _ _) (List.length_take_le _ _)
theorem fil_keep {ls : List (List UInt8)} {k : Nat} {l : List UInt8} (h : ls[k]? = some l) (hl : l ≠ []) : fil (ls.take (k + 1)) = fil (ls.take k) ++ [l] := by
  unfold fil; rw [List.take_add_one, List.filter_append, h]
  cases l with
  | nil => exact absurd rfl hl
  | cons a t => rfl
theorem fil_drop {ls : List (List UInt8)} {k : Nat} {l : List UInt8} (h : ls[k]? = some l) (hl : l = []) : fil (ls.take (k + 1)) = fil (ls.take k) := by
  unfold fil; rw [List.take_add_one, List.filter_append, h]; subst hl; simp
def ListPost (s : ByteArray) (w : World) (e : Ending) (w' : World) : Prop :=
  Below w.heap.size w w' ∧
  match listO s.data.toList with
  | none => e = .returned (.tuple #[.slice none 0 0, errForm])
  | some ls => ∃ v, e = .returned (.tuple #[v, .nilIface]) ∧ OwnsS w.heap.size w' v ls ∧ ls.length ≤ 100002

end Go.Proofs.YtkpeaghbacoehaaGreatDoor
