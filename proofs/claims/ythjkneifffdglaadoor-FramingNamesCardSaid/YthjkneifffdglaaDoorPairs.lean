/- Slices of two-string structs in memory: those that a call makes, and those that it reads. -/
import Derived.Test.YthjkneifffdglaaDoorBase
namespace Go.Proofs.YthjkneifffdglaaDoor
open Go.RowKit

def flatP (ps : List (List UInt8 × List UInt8)) : List Value := ps.flatMap fun p => [strV p.1, strV p.2]
theorem flatP_len (ps : List (List UInt8 × List UInt8)) : (flatP ps).length = ps.length * 2 := by
  induction ps with
  | nil => rfl
  | cons p r ih =>
    have e : flatP (p :: r) = strV p.1 :: strV p.2 :: flatP r := rfl
    rw [e, List.length_cons, List.length_cons, ih, List.length_cons]; omega
/-- The value v is a slice of the call's own, of parameters of type T, that holds ps. -/
def OwnsP (T : TypeId) (B : Nat) (w : World) (v : Value) (ps : List (List UInt8 × List UInt8)) : Prop := w.ownsRow B T 2 v ps.length (flatP ps)
theorem OwnsP.nil (T : TypeId) (B : Nat) (w : World) : OwnsP T B w (.slice none 0 0) [] := World.ownsRow_nil _ _ _ _
theorem OwnsP.below {T : TypeId} {B : Nat} {w w' : World} {v : Value} {ps : List (List UInt8 × List UInt8)} (h : OwnsP T B w v ps) (hb : Below w.heap.size w w') : OwnsP T B w' v ps :=
  World.ownsRow.kept h (grown_of_below hb none) (by cases hv : v.ownBlock <;> simp)
theorem OwnsP.mono {T : TypeId} {B C : Nat} {w : World} {v : Value} {ps : List (List UInt8 × List UInt8)} (hBC : B ≤ C) (h : OwnsP T C w v ps) : OwnsP T B w v ps := by
  rcases h with ⟨hl, hv | ⟨g, cap, cur, hv, hb, hg, hn, hm, hs, ht⟩⟩
  · exact ⟨hl, .inl hv⟩
  · exact ⟨hl, .inr ⟨g, cap, cur, hv, Nat.le_trans hBC hb, hg, hn, hm, hs, ht⟩⟩
theorem OwnsP.snoc {T : TypeId} {B : Nat} {w : World} {v : Value} {ps : List (List UInt8 × List UInt8)} {p : List UInt8 × List UInt8} (h : w.ownsRow B T 2 v (ps.length + 1) (flatP ps ++ [strV p.1, strV p.2])) : OwnsP T B w v (ps ++ [p]) := by
  unfold OwnsP
  have e : flatP (ps ++ [p]) = flatP ps ++ [strV p.1, strV p.2] := by simp [flatP]
  rw [e, List.length_append]; exact h
theorem below_appendP {T : TypeId} {B : Nat} {a w w1 w2 : World} {v : Value} {ps : List (List UInt8 × List UInt8)} {o : Obj} (hB : Below B a w) (hBs : B ≤ w.heap.size) (hb1 : Below w.heap.size w w1) (hown : OwnsP T B w v ps)
    (hgrow : (w1.alloc o).grownBy w2 v.ownBlock) : Below B a w2 :=
  ((hB.trans (hb1.mono hBs)).alloc (by have := hb1.size; omega) o).grown hgrow (by have := hb1.size; simp; omega) (fun q hq => (World.ownsRow.lt hown q hq).1)
theorem flatP_at : ∀ (ps : List (List UInt8 × List UInt8)) (j : Nat) (p : List UInt8 × List UInt8), ps[j]? = some p → (flatP ps)[j * 2]? = some (strV p.1) ∧ (flatP ps)[j * 2 + 1]? = some (strV p.2) := by
  intro ps
  induction ps with
  | nil => intro j p h; simp at h
  | cons q r ih =>
    intro j p h
    cases j with
    | zero => simp at h; subst h; exact ⟨rfl, rfl⟩
    | succ j =>
      have := ih j p (by simpa using h)
      have e : flatP (q :: r) = strV q.1 :: strV q.2 :: flatP r := rfl
      rw [e, show (j + 1) * 2 = j * 2 + 1 + 1 by omega]
      exact ⟨by simpa using this.1, by simpa using this.2⟩
/-- The value v is a slice of parameters that reads as ps in the world w. -/
def ReadsP (w : World) (v : Value) (ps : List (List UInt8 × List UInt8)) : Prop :=
  ∃ ao cap, v = .slice ao ps.length cap ∧ ∀ j p, ps[j]? = some p → ∃ g, ao = some ⟨g, 0, none⟩ ∧ g < w.heap.size ∧ w.cell? ⟨g, j * 2, none⟩ = some (.string (strB p.1)) ∧ w.cell? ⟨g, j * 2 + 1, none⟩ = some (.string (strB p.2))
theorem OwnsP.reads {T : TypeId} {B : Nat} {w : World} {v : Value} {ps : List (List UInt8 × List UInt8)} (h : OwnsP T B w v ps) : ReadsP w v ps := by
  have h0 := h
  rcases h with ⟨hl, ⟨hv, hn⟩ | ⟨g, cap, cur, hv, hb, hg, hn, hm, hs, ht⟩⟩
  · have : ps = [] := List.eq_nil_of_length_eq_zero hn
    subst this
    exact ⟨none, 0, hv, fun j p h => by simp at h⟩
  · refine ⟨_, cap, hv, fun j p hj => ⟨g, rfl, ?_, ?_, ?_⟩⟩
    · exact (World.ownsRow.lt h0 g (by rw [hv]; rfl)).2
    all_goals
      subst hv
      have hj' : j < ps.length := (List.getElem?_eq_some_iff.mp hj).1
      have hf := flatP_at ps j p hj
    · rw [World.ownsRow.cellAt h0 (j * 2) (by omega), hf.1]
    · rw [World.ownsRow.cellAt h0 (j * 2 + 1) (by omega), hf.2]
theorem ReadsP.below {w w' : World} {v : Value} {ps : List (List UInt8 × List UInt8)} (h : ReadsP w v ps) (hb : Below w.heap.size w w') : ReadsP w' v ps := by
  obtain ⟨ao, cap, rfl, hc⟩ := h
  refine ⟨ao, cap, rfl, fun j p hj => ?_⟩
  obtain ⟨g, h1, h2, h3, h4⟩ := hc j p hj
  exact ⟨g, h1, Nat.lt_of_lt_of_le h2 hb.size, (hb.cell (p := ⟨g, j * 2, none⟩) h2).trans h3, (hb.cell (p := ⟨g, j * 2 + 1, none⟩) h2).trans h4⟩
/-- The value v, an argument, is a slice of parameters that reads as ps in the world w. -/
def ReadsQ (w : World) (v : Value) (ps : List (List UInt8 × List UInt8)) : Prop :=
  ∃ ao cap, v = .slice ao ps.length cap ∧ ∀ j p, ps[j]? = some p → ∃ g off, ao = some ⟨g, off, none⟩ ∧ g < w.heap.size ∧ w.cell? ⟨g, off + j * 2, none⟩ = some (.string (strB p.1)) ∧ w.cell? ⟨g, off + j * 2 + 1, none⟩ = some (.string (strB p.2))
theorem ReadsQ.below {w w' : World} {v : Value} {ps : List (List UInt8 × List UInt8)} (h : ReadsQ w v ps) (hb : Below w.heap.size w w') : ReadsQ w' v ps := by
  obtain ⟨ao, cap, rfl, hc⟩ := h
  refine ⟨ao, cap, rfl, fun j p hj => ?_⟩
  obtain ⟨g, off, h1, h2, h3, h4⟩ := hc j p hj
  exact ⟨g, off, h1, Nat.lt_of_lt_of_le h2 hb.size, (hb.cell (p := ⟨g, off + j * 2, none⟩) h2).trans h3, (hb.cell (p := ⟨g, off + j * 2 + 1, none⟩) h2).trans h4⟩
end Go.Proofs.YthjkneifffdglaaDoor
