/- Slices of tags (structs of a bool and a string) in memory: those that a call makes, and those that it reads. -/
import Derived.Test.YtkpeaghbacoehaaGreatDoorBase
import Derived.Test.YtkpeaghbacoehaaGreatDoorYSpec
namespace Go.Proofs.YtkpeaghbacoehaaGreatDoor
open Go.RowKit

def encT (t : Tg) : List Value := [.bool t.1, strV t.2]
abbrev tgV (t : Tg) : Value := .agg #[.bool t.1, strV t.2]
def flatT (ps : List Tg) : List Value := ps.flatMap encT
theorem flatT_cons (p : Tg) (r : List Tg) : flatT (p :: r) = .bool p.1 :: strV p.2 :: flatT r := rfl
theorem flatT_len (ps : List Tg) : (flatT ps).length = ps.length * 2 := by
  induction ps with
  | nil => rfl
  | cons p r ih => rw [flatT_cons, List.length_cons, List.length_cons, ih, List.length_cons]; omega
theorem flatT_app (a b : List Tg) : flatT (a ++ b) = flatT a ++ flatT b := by simp [flatT]
theorem flatT_at : ∀ (ps : List Tg) (j : Nat) (p : Tg), ps[j]? = some p → (flatT ps)[j * 2]? = some (.bool p.1) ∧ (flatT ps)[j * 2 + 1]? = some (strV p.2) := by
  intro ps
  induction ps with
  | nil => intro j p h; simp at h
  | cons q r ih =>
    intro j p h
    cases j with
    | zero => simp at h; subst h; exact ⟨rfl, rfl⟩
    | succ j =>
      have := ih j p (by simpa using h)
      rw [flatT_cons, show (j + 1) * 2 = j * 2 + 1 + 1 by omega]
      exact ⟨by simpa using this.1, by simpa using this.2⟩
/-- The value v is a slice of the call's own, of tags of type T, that holds ps. -/
def OwnsT (T : TypeId) (B : Nat) (w : World) (v : Value) (ps : List Tg) : Prop := w.ownsRow B T 2 v ps.length (flatT ps)
theorem OwnsT.nil (T : TypeId) (B : Nat) (w : World) : OwnsT T B w (.slice none 0 0) [] := World.ownsRow_nil _ _ _ _
theorem OwnsT.below {T : TypeId} {B : Nat} {w w' : World} {v : Value} {ps : List Tg} (h : OwnsT T B w v ps) (hb : Below w.heap.size w w') : OwnsT T B w' v ps :=
  World.ownsRow.kept h (grown_of_below hb none) (by cases hv : v.ownBlock <;> simp)
theorem OwnsT.mono {T : TypeId} {B C : Nat} {w : World} {v : Value} {ps : List Tg} (hBC : B ≤ C) (h : OwnsT T C w v ps) : OwnsT T B w v ps := by
  rcases h with ⟨hl, hv | ⟨g, cap, cur, hv, hb, hg, hn, hm, hs, ht⟩⟩
  · exact ⟨hl, .inl hv⟩
  · exact ⟨hl, .inr ⟨g, cap, cur, hv, Nat.le_trans hBC hb, hg, hn, hm, hs, ht⟩⟩
theorem OwnsT.snoc {T : TypeId} {B : Nat} {w : World} {v : Value} {ps : List Tg} {p : Tg} (h : w.ownsRow B T 2 v (ps.length + 1) (flatT ps ++ [.bool p.1, strV p.2])) : OwnsT T B w v (ps ++ [p]) := by
  unfold OwnsT
  rw [flatT_app, List.length_append]; exact h
theorem below_appendT {T : TypeId} {B : Nat} {a w w1 w2 : World} {v : Value} {ps : List Tg} {o : Obj} (hB : Below B a w) (hBs : B ≤ w.heap.size) (hb1 : Below w.heap.size w w1) (hown : OwnsT T B w v ps)
    (hgrow : (w1.alloc o).grownBy w2 v.ownBlock) : Below B a w2 :=
  ((hB.trans (hb1.mono hBs)).alloc (by have := hb1.size; omega) o).grown hgrow (by have := hb1.size; simp; omega) (fun q hq => (World.ownsRow.lt hown q hq).1)
/-- The value v is a slice of tags that reads as ps in the world w. -/
def ReadsT (w : World) (v : Value) (ps : List Tg) : Prop :=
  ∃ ao cap, v = .slice ao ps.length cap ∧ ∀ j p, ps[j]? = some p → ∃ g off, ao = some ⟨g, off, none⟩ ∧ g < w.heap.size ∧ w.cell? ⟨g, off + j * 2, none⟩ = some (.bool p.1) ∧ w.cell? ⟨g, off + j * 2 + 1, none⟩ = some (.string (strB p.2))
theorem ReadsT.below {w w' : World} {v : Value} {ps : List Tg} (h : ReadsT w v ps) (hb : Below w.heap.size w w') : ReadsT w' v ps := by
  obtain ⟨ao, cap, rfl, hc⟩ := h
  refine ⟨ao, cap, rfl, fun j p hj => ?_⟩
  obtain ⟨g, off, h1, h2, h3, h4⟩ := hc j p hj
  exact ⟨g, off, h1, Nat.lt_of_lt_of_le h2 hb.size, (hb.cell (p := ⟨g, off + j * 2, none⟩) h2).trans h3, (hb.cell (p := ⟨g, off + j * 2 + 1, none⟩) h2).trans h4⟩
theorem OwnsT.reads {T : TypeId} {B : Nat} {w : World} {v : Value} {ps : List Tg} (h : OwnsT T B w v ps) : ReadsT w v ps := by
  have h0 := h
  rcases h with ⟨hl, ⟨hv, hn⟩ | ⟨g, cap, cur, hv, hb, hg, hn, hm, hs, ht⟩⟩
  · have : ps = [] := List.eq_nil_of_length_eq_zero hn
    subst this
    exact ⟨none, 0, hv, fun j p h => by simp at h⟩
  · refine ⟨_, cap, hv, fun j p hj => ⟨g, 0, rfl, ?_, ?_, ?_⟩⟩
    · exact (World.ownsRow.lt h0 g (by rw [hv]; rfl)).2
    all_goals
      subst hv
      have hj' : j < ps.length := (List.getElem?_eq_some_iff.mp hj).1
      have hf := flatT_at ps j p hj
      rw [Nat.zero_add]
    · rw [World.ownsRow.cellAt h0 (j * 2) (by omega), hf.1]
    · rw [World.ownsRow.cellAt h0 (j * 2 + 1) (by omega), hf.2]
theorem info_tag {P : Program} {T : TypeId} (h : (P.info? T).map (fun i => (i.zero, i.size, i.bytes)) = some (some (.agg #[.bool false, .string ByteArray.empty]), 2, 24)) :
    ∃ i0, P.info? T = some i0 ∧ i0.zero = some (.agg #[.bool false, .string ByteArray.empty]) ∧ i0.size = 2 ∧ i0.bytes = 24 := by
  cases hi : P.info? T with
  | none => rw [hi] at h; cases h
  | some i0 =>
    rw [hi] at h
    simp only [Option.map_some, Option.some.injEq, Prod.mk.injEq] at h
    exact ⟨i0, rfl, h.1, h.2.1, h.2.2⟩
theorem new_tg (w : World) (x : Bool) (y : List UInt8) (T : TypeId) : ∀ j u, [Value.bool x, strV y][j]? = some u → (w.alloc (.cells #[.bool x, strV y] T)).cell? ((⟨w.heap.size, 0, none⟩ : Addr).add j) = some u := by
  intro j u hj
  rw [Addr.add_lit, Nat.zero_add]
  match j, hj with
  | 0, hj => rw [World.cell?_alloc_at _ _ _ _ rfl]; simpa using hj
  | 1, hj => rw [World.cell?_alloc_at _ _ _ _ rfl]; simpa using hj
  | j + 2, hj => simp at hj
end Go.Proofs.YtkpeaghbacoehaaGreatDoor
