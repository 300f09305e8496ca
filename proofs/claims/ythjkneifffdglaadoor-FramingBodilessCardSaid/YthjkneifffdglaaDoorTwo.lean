/- A new variable of two strings, kept over calls. -/
import Derived.Test.YthjkneifffdglaaDoorBase
namespace Go.Proofs.YthjkneifffdglaaDoor
open Go.RowKit

theorem below_draw {B : Nat} {a w : World} (h : Below B a w) (n : Nat) : Below B a (w.drewN n) := ⟨h.os, h.tape, h.output, h.size, h.block⟩
theorem below_two {w w' : World} (h : Below w.heap.size w w') (u v : Value) : Below w.heap.size w ((w'.setCell ⟨w.heap.size, 0, none⟩ u).setCell ⟨w.heap.size, 1, none⟩ v) :=
  (h.setCell (p := ⟨w.heap.size, 0, none⟩) (Nat.le_refl _) u).setCell (p := ⟨w.heap.size, 1, none⟩) (Nat.le_refl _) v
theorem below_over {a w w' : World} (h : Below a.heap.size a w) (hw : Below w.heap.size w w') : Below a.heap.size a w' := h.trans (hw.mono h.size)
/-- A new variable of two strings is as it was behind a call that leaves what was there. -/
theorem two_kept (w : World) (n : Nat) {t : TypeId} {w' : World} (h : Below ((w.alloc (.cells #[.string ⟨#[]⟩, .string ⟨#[]⟩] t)).drewN n).heap.size ((w.alloc (.cells #[.string ⟨#[]⟩, .string ⟨#[]⟩] t)).drewN n) w') :
    w'.cell? ⟨w.heap.size, 0, none⟩ = some (.string ⟨#[]⟩) ∧ w'.cell? ⟨w.heap.size, 1, none⟩ = some (.string ⟨#[]⟩) ∧ w'.frozen? ⟨w.heap.size, 0, none⟩ = false ∧ w'.frozen? ⟨w.heap.size, 1, none⟩ = false ∧ w.heap.size < w'.heap.size := by
  have hs : w.heap.size < ((w.alloc (.cells #[.string ⟨#[]⟩, .string ⟨#[]⟩] t)).drewN n).heap.size := by show w.heap.size < (w.heap.push _).size; simp
  have c : ∀ j, ((w.alloc (.cells #[.string ⟨#[]⟩, .string ⟨#[]⟩] t)).drewN n).cell? ⟨w.heap.size, j, none⟩ = (#[.string ⟨#[]⟩, .string ⟨#[]⟩] : Array Value)[j]? := fun j => by
    show (w.alloc _).cell? _ = _
    rw [World.cell?_alloc_at _ _ _ _ rfl]
  have f : ∀ j, ((w.alloc (.cells #[.string ⟨#[]⟩, .string ⟨#[]⟩] t)).drewN n).frozen? ⟨w.heap.size, j, none⟩ = false := fun j => by
    show (w.alloc _).frozen? _ = _
    exact World.frozen?_alloc_at _ _ _ _ rfl
  refine ⟨(h.cell (p := ⟨w.heap.size, 0, none⟩) hs).trans (c 0), (h.cell (p := ⟨w.heap.size, 1, none⟩) hs).trans (c 1), (h.frozen (p := ⟨w.heap.size, 0, none⟩) hs).trans (f 0), (h.frozen (p := ⟨w.heap.size, 1, none⟩) hs).trans (f 1), Nat.lt_of_lt_of_le hs h.size⟩
theorem box_kept (w : World) {a b : Value} {t : TypeId} {w' : World} (h : Below (w.alloc (.cells #[a, b] t)).heap.size (w.alloc (.cells #[a, b] t)) w') :
    w'.cell? ⟨w.heap.size, 0, none⟩ = some a ∧ w'.cell? ⟨w.heap.size, 1, none⟩ = some b ∧ w'.frozen? ⟨w.heap.size, 0, none⟩ = false ∧ w'.frozen? ⟨w.heap.size, 1, none⟩ = false ∧ w.heap.size < w'.heap.size := by
  have hs : w.heap.size < (w.alloc (.cells #[a, b] t)).heap.size := by simp
  have hc : ∀ j, (w.alloc (.cells #[a, b] t)).cell? ⟨w.heap.size, j, none⟩ = (#[a, b] : Array Value)[j]? := fun j => by rw [World.cell?_alloc_at _ _ _ _ rfl]
  have hf : ∀ j, (w.alloc (.cells #[a, b] t)).frozen? ⟨w.heap.size, j, none⟩ = false := fun j => World.frozen?_alloc_at _ _ _ _ rfl
  exact ⟨(h.cell (p := ⟨w.heap.size, 0, none⟩) hs).trans (hc 0), (h.cell (p := ⟨w.heap.size, 1, none⟩) hs).trans (hc 1),
    (h.frozen (p := ⟨w.heap.size, 0, none⟩) hs).trans (hf 0), (h.frozen (p := ⟨w.heap.size, 1, none⟩) hs).trans (hf 1), Nat.lt_of_lt_of_le hs h.size⟩
theorem two_newG (W : World) (a b : List UInt8) (T : TypeId) : ∀ (j : Nat) (u : Value), [strV a, strV b][j]? = some u →
    (W.alloc (.cells #[.string (strB a), .string (strB b)] T)).cell? ((⟨W.heap.size, 0, none⟩ : Addr).add j) = some u := by
  intro j u h
  rw [Addr.add_lit, Nat.zero_add, World.cell?_alloc_at _ _ _ _ rfl]
  match j, h with
  | 0, h => simpa using h
  | 1, h => simpa using h
  | j + 2, h => simp at h
theorem two_newS (W : World) (a b : List UInt8) (T : TypeId) (m : Nat) (hm : m = W.heap.size) : ∀ (j : Nat) (u : Value), [strV a, strV b][j]? = some u →
    (W.alloc (.cells #[.string (strB a), .string (strB b)] T)).cell? ((⟨m, 0, none⟩ : Addr).add j) = some u := by
  subst hm; exact two_newG W a b T
end Go.Proofs.YthjkneifffdglaaDoor
