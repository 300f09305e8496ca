/- Slices of fields that a call made, as slices that are read; appending one field. -/
import Derived.Test.YthjkneifffdglaaDoorFSpec
namespace Go.Proofs.YthjkneifffdglaaDoor
open Go.RowKit

theorem ReadsP.q {w : World} {v : Value} {ps : Flds} (h : ReadsP w v ps) : ReadsQ w v ps := by
  obtain ⟨ao, cap, rfl, hc⟩ := h
  refine ⟨ao, cap, rfl, fun j p hj => ?_⟩
  obtain ⟨g, h1, h2, h3, h4⟩ := hc j p hj
  exact ⟨g, 0, h1, h2, by rw [Nat.zero_add]; exact h3, by rw [Nat.zero_add]; exact h4⟩
theorem OwnsP.q {T : TypeId} {B : Nat} {w : World} {v : Value} {ps : Flds} (h : OwnsP T B w v ps) : ReadsQ w v ps := h.reads.q
/-- A slice's length is within its room; a slice that is nil has none. -/
def Sane (v : Value) : Prop := ∀ a n c, v = .slice a n c → n ≤ c ∧ (a = none → c = 0)
theorem OwnsP.sane {T : TypeId} {B : Nat} {w : World} {v : Value} {ps : Flds} (h : OwnsP T B w v ps) : Sane v := by
  rcases h with ⟨hl, ⟨hv, hn⟩ | ⟨g, cap, cur, hv, hb, hg, hn, _⟩⟩
  · intro a n c e; rw [hv] at e; cases e; exact ⟨Nat.le_refl _, fun _ => rfl⟩
  · intro a n c e; rw [hv] at e; cases e; exact ⟨hn, fun h => by cases h⟩
theorem Tryd.infoF : (Tryd.prog.info? 57).map (fun i => (i.zero, i.size, i.bytes)) = some (some (.agg #[.string ByteArray.empty, .string ByteArray.empty]), 2, 32) := by kernel_rfl
theorem own_more {T : TypeId} {B : Nat} {w : World} {v : Value} {ps : Flds} {k : Nat} {p : List UInt8 × List UInt8} (hp : ps[k]? = some p)
    (h : w.ownsRow B T 2 v ((ps.take k).length + 1) (flatP (ps.take k) ++ [strV p.1, strV p.2])) : OwnsP T B w v (ps.take (k + 1)) := by
  have := OwnsP.snoc h
  rw [take_more hp]; exact this
theorem two_new (W : World) (a b : List UInt8) (T : TypeId) : ∀ (j : Nat) (u : Value), [strV a, strV b][j]? = some u →
    (W.alloc (.cells #[.string (strB a), .string (strB b)] T)).cell? ((⟨W.heap.size, 0, none⟩ : Addr).add j) = some u := by
  intro j u h
  rw [Addr.add_lit, Nat.zero_add, World.cell?_alloc_at _ _ _ _ rfl]
  match j, h with
  | 0, h => simpa using h
  | 1, h => simpa using h
  | j + 2, h => simp at h
theorem two_new' (W : World) (a b : List UInt8) (T T' : TypeId) : ∀ (j : Nat) (u : Value), [strV a, strV b][j]? = some u →
    ((W.alloc (.cells #[.string (strB a), .string (strB b)] T)).alloc (.cells #[.string (strB a), .string (strB b)] T')).cell? ((⟨W.heap.size + 1, 0, none⟩ : Addr).add j) = some u := by
  intro j u h
  have := two_new (W.alloc (.cells #[.string (strB a), .string (strB b)] T)) a b T' j u h
  simpa using this

end Go.Proofs.YthjkneifffdglaaDoor
