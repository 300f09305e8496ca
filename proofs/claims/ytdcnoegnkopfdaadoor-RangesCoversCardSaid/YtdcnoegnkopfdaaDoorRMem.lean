/- Slices of ranges (structs of two ints) in memory: those that a call makes, and those that it reads. -/
import Derived.Test.YtdcnoegnkopfdaaDoorBase
import Derived.Test.YtdcnoegnkopfdaaDoorRMerge
namespace Go.Proofs.YtdcnoegnkopfdaaDoor
open Go.RowKit

def encR (r : Rg) : List Value := [.int .i64 r.1, .int .i64 r.2]
abbrev rgV (r : Rg) : Value := .agg #[.int .i64 r.1, .int .i64 r.2]
def flatI (ps : List Rg) : List Value := ps.flatMap encR
theorem flatI_cons (p : Rg) (r : List Rg) : flatI (p :: r) = .int .i64 p.1 :: .int .i64 p.2 :: flatI r := rfl
theorem flatI_len (ps : List Rg) : (flatI ps).length = ps.length * 2 := by
  induction ps with
  | nil => rfl
  | cons p r ih => rw [flatI_cons, List.length_cons, List.length_cons, ih, List.length_cons]; omega
theorem flatI_app (a b : List Rg) : flatI (a ++ b) = flatI a ++ flatI b := by simp [flatI]
theorem flatI_at : ∀ (ps : List Rg) (j : Nat) (p : Rg), ps[j]? = some p → (flatI ps)[j * 2]? = some (.int .i64 p.1) ∧ (flatI ps)[j * 2 + 1]? = some (.int .i64 p.2) := by
  intro ps
  induction ps with
  | nil => intro j p h; simp at h
  | cons q r ih =>
    intro j p h
    cases j with
    | zero => simp at h; subst h; exact ⟨rfl, rfl⟩
    | succ j =>
      have := ih j p (by simpa using h)
      rw [flatI_cons, show (j + 1) * 2 = j * 2 + 1 + 1 by omega]
      exact ⟨by simpa using this.1, by simpa using this.2⟩
/-- The value v is a slice of the call's own, of ranges of type T, that holds ps. -/
def OwnsI (T : TypeId) (B : Nat) (w : World) (v : Value) (ps : List Rg) : Prop := w.ownsRow B T 2 v ps.length (flatI ps)
theorem OwnsI.nil (T : TypeId) (B : Nat) (w : World) : OwnsI T B w (.slice none 0 0) [] := World.ownsRow_nil _ _ _ _
theorem OwnsI.below {T : TypeId} {B : Nat} {w w' : World} {v : Value} {ps : List Rg} (h : OwnsI T B w v ps) (hb : Below w.heap.size w w') : OwnsI T B w' v ps :=
  World.ownsRow.kept h (grown_of_below hb none) (by cases hv : v.ownBlock <;> simp)
theorem OwnsI.mono {T : TypeId} {B C : Nat} {w : World} {v : Value} {ps : List Rg} (hBC : B ≤ C) (h : OwnsI T C w v ps) : OwnsI T B w v ps := by
  rcases h with ⟨hl, hv | ⟨g, cap, cur, hv, hb, hg, hn, hm, hs, ht⟩⟩
  · exact ⟨hl, .inl hv⟩
  · exact ⟨hl, .inr ⟨g, cap, cur, hv, Nat.le_trans hBC hb, hg, hn, hm, hs, ht⟩⟩
theorem OwnsI.snoc {T : TypeId} {B : Nat} {w : World} {v : Value} {ps : List Rg} {p : Rg} (h : w.ownsRow B T 2 v (ps.length + 1) (flatI ps ++ [.int .i64 p.1, .int .i64 p.2])) : OwnsI T B w v (ps ++ [p]) := by
  unfold OwnsI
  rw [flatI_app, List.length_append]; exact h
theorem OwnsI.app {T : TypeId} {B : Nat} {w : World} {v : Value} {ps qs : List Rg} (h : w.ownsRow B T 2 v (ps.length + qs.length) (flatI ps ++ flatI qs)) : OwnsI T B w v (ps ++ qs) := by
  unfold OwnsI
  rw [flatI_app, List.length_append]; exact h
theorem below_appendI {T : TypeId} {B : Nat} {a w w1 w2 : World} {v : Value} {ps : List Rg} {o : Obj} (hB : Below B a w) (hBs : B ≤ w.heap.size) (hb1 : Below w.heap.size w w1) (hown : OwnsI T B w v ps)
    (hgrow : (w1.alloc o).grownBy w2 v.ownBlock) : Below B a w2 :=
  ((hB.trans (hb1.mono hBs)).alloc (by have := hb1.size; omega) o).grown hgrow (by have := hb1.size; simp; omega) (fun q hq => (World.ownsRow.lt hown q hq).1)
/-- The value v is a slice of ranges that reads as ps in the world w. -/
def ReadsI (w : World) (v : Value) (ps : List Rg) : Prop :=
  ∃ ao cap, v = .slice ao ps.length cap ∧ ∀ j p, ps[j]? = some p → ∃ g off, ao = some ⟨g, off, none⟩ ∧ g < w.heap.size ∧ w.cell? ⟨g, off + j * 2, none⟩ = some (.int .i64 p.1) ∧ w.cell? ⟨g, off + j * 2 + 1, none⟩ = some (.int .i64 p.2)
theorem ReadsI.below {w w' : World} {v : Value} {ps : List Rg} (h : ReadsI w v ps) (hb : Below w.heap.size w w') : ReadsI w' v ps := by
  obtain ⟨ao, cap, rfl, hc⟩ := h
  refine ⟨ao, cap, rfl, fun j p hj => ?_⟩
  obtain ⟨g, off, h1, h2, h3, h4⟩ := hc j p hj
  exact ⟨g, off, h1, Nat.lt_of_lt_of_le h2 hb.size, (hb.cell (p := ⟨g, off + j * 2, none⟩) h2).trans h3, (hb.cell (p := ⟨g, off + j * 2 + 1, none⟩) h2).trans h4⟩
theorem OwnsI.reads {T : TypeId} {B : Nat} {w : World} {v : Value} {ps : List Rg} (h : OwnsI T B w v ps) : ReadsI w v ps := by
  have h0 := h
  rcases h with ⟨hl, ⟨hv, hn⟩ | ⟨g, cap, cur, hv, hb, hg, hn, hm, hs, ht⟩⟩
  · have : ps = [] := List.eq_nil_of_length_eq_zero hn
    subst this
    exact ⟨none, 0, hv, fun j p h => by simp at h⟩
  · refine ⟨_, cap, hv, fun j p hj => ⟨g, 0, rfl, ?_, ?_, ?_⟩⟩
    · exact (World.ownsRow.lt h0 g (by rw [hv]; rfl)).2
    all_goals
      subst hv
      have hj' : j < ps.length := (List.getElem?_eq_some_iff.mp hj).1
      have hf := flatI_at ps j p hj
      rw [Nat.zero_add]
    · rw [World.ownsRow.cellAt h0 (j * 2) (by omega), hf.1]
    · rw [World.ownsRow.cellAt h0 (j * 2 + 1) (by omega), hf.2]
theorem ReadsI.nilOf {w : World} {v : Value} (h : ReadsI w v []) : ∃ ao cap, v = .slice ao 0 cap := by
  obtain ⟨ao, cap, rfl, _⟩ := h
  exact ⟨ao, cap, rfl⟩
/-- What an append of one range to a slice of the call's own asks of a type. -/
structure TyI (P : Program) (S T : TypeId) (i0 : TypeInfo) : Prop where
  u : P.underlying S = some (.slice T)
  i : P.info? T = some i0
  z : i0.zero = some (.agg #[.int .i64 0, .int .i64 0])
  s : i0.size = 2
  b : i0.bytes = 16
theorem info_range {P : Program} {T : TypeId} (h : (P.info? T).map (fun i => (i.zero, i.size, i.bytes)) = some (some (.agg #[.int .i64 0, .int .i64 0]), 2, 16)) :
    ∃ i0, P.info? T = some i0 ∧ i0.zero = some (.agg #[.int .i64 0, .int .i64 0]) ∧ i0.size = 2 ∧ i0.bytes = 16 := by
  cases hi : P.info? T with
  | none => rw [hi] at h; cases h
  | some i0 =>
    rw [hi] at h
    simp only [Option.map_some, Option.some.injEq, Prod.mk.injEq] at h
    exact ⟨i0, rfl, h.1, h.2.1, h.2.2⟩
end Go.Proofs.YtdcnoegnkopfdaaDoor
