/- A decoder in memory: what its block holds, and the rows that are its own. -/
import Derived.Test.YthlfhbhjiofneaaDoorKOnly
import Derived.Test.YthlfhbhjiofneaaDoorKSpec
import Derived.Test.YthlfhbhjiofneaaDoorPairs
namespace Go.Proofs.YthlfhbhjiofneaaDoor
open Go.RowKit

/-- The decoder at the block P holds s; its blocks are those of X, all from B on. -/
def Dec (B P : Nat) (X : Nat → Prop) (s : Dc) (w : World) : Prop :=
  ∃ lv tv, w.heap[P]? = some (.cells #[.int .i64 (s.pl : Int), errV s.er, .int .i64 (s.sz : Int), .int .i64 (s.tot : Int), .int .i64 (s.len : Int), lv, tv] 67 (0, 0)) ∧
    w.ownsRow B 5 1 lv s.line.length (Lib.byteCells s.line) ∧ OwnsP 52 B w tv s.trs ∧ X P ∧ (∀ k, lv.ownBlock = some k → X k) ∧ (∀ k, tv.ownBlock = some k → X k) ∧ (∀ k, X k → B ≤ k ∧ k < w.heap.size)
/-- The seven cells of a decoder: what the walks read. -/
def DecC (P : Nat) (s : Dc) (lv tv : Value) (w : World) : Prop :=
  w.cell? ⟨P, 0, none⟩ = some (.int .i64 (s.pl : Int)) ∧ w.cell? ⟨P, 1, none⟩ = some (errV s.er) ∧ w.cell? ⟨P, 2, none⟩ = some (.int .i64 (s.sz : Int)) ∧ w.cell? ⟨P, 3, none⟩ = some (.int .i64 (s.tot : Int)) ∧
    w.cell? ⟨P, 4, none⟩ = some (.int .i64 (s.len : Int)) ∧ w.cell? ⟨P, 5, none⟩ = some lv ∧ w.cell? ⟨P, 6, none⟩ = some tv ∧ (∀ j, w.frozen? ⟨P, j, none⟩ = false)
theorem dec_cells {P : Nat} {s : Dc} {lv tv : Value} {w : World} (h : w.heap[P]? = some (.cells #[.int .i64 (s.pl : Int), errV s.er, .int .i64 (s.sz : Int), .int .i64 (s.tot : Int), .int .i64 (s.len : Int), lv, tv] 67 (0, 0))) : DecC P s lv tv w := by
  refine ⟨?_, ?_, ?_, ?_, ?_, ?_, ?_, fun j => Lib.frozen_of_heap h j⟩ <;> rw [Lib.cell_of_heap h] <;> rfl
theorem Dec.lt {B P : Nat} {X : Nat → Prop} {s : Dc} {w : World} (h : Dec B P X s w) : P < w.heap.size ∧ X P ∧ (∀ k, X k → B ≤ k ∧ k < w.heap.size) := by
  obtain ⟨lv, tv, h1, _, _, h4, _, _, h7⟩ := h
  exact ⟨(h7 P h4).2, h4, h7⟩
/-- A decoder stands as it is where its blocks do. -/
theorem Dec.only {B P : Nat} {X Y : Nat → Prop} {s : Dc} {w w' : World} (h : Dec B P X s w) (hO : Only Y w w') (hd : ∀ k, X k → ¬ Y k) : Dec B P X s w' := by
  obtain ⟨lv, tv, h1, h2, h3, h4, h5, h6, h7⟩ := h
  exact ⟨lv, tv, (hO.block P (h7 P h4).2 (hd P h4)).trans h1, hO.owns h2 (fun k hk => hd k (h5 k hk)), hO.owns h3 (fun k hk => hd k (h6 k hk)), h4, h5, h6, fun k hk => ⟨(h7 k hk).1, Nat.lt_of_lt_of_le (h7 k hk).2 hO.size⟩⟩
theorem Dec.below {B P : Nat} {X : Nat → Prop} {s : Dc} {w w' : World} (h : Dec B P X s w) (hb : Below w.heap.size w w') : Dec B P X s w' :=
  h.only (Y := fun _ => False) (Only.below hb) (fun _ _ h => h)
theorem Dec.alloc {B P : Nat} {X : Nat → Prop} {s : Dc} {w : World} (h : Dec B P X s w) (o : Obj) : Dec B P X s (w.alloc o) := h.below (below_new w o)
/-- A store into the decoder's own block. -/
theorem dec_set {B P : Nat} {X : Nat → Prop} {s s' : Dc} {w : World} (h : Dec B P X s w) (j : Nat) (u : Value)
    (hl : s'.line = s.line) (ht : s'.trs = s.trs)
    (hc : ∀ lv tv, (#[.int .i64 (s.pl : Int), errV s.er, .int .i64 (s.sz : Int), .int .i64 (s.tot : Int), .int .i64 (s.len : Int), lv, tv] : Array Value).setIfInBounds j u = #[.int .i64 (s'.pl : Int), errV s'.er, .int .i64 (s'.sz : Int), .int .i64 (s'.tot : Int), .int .i64 (s'.len : Int), lv, tv]) :
    Dec B P X s' (w.setCell ⟨P, j, none⟩ u) := by
  obtain ⟨lv, tv, h1, h2, h3, h4, h5, h6, h7⟩ := h
  have hg : w.grownBy (w.setCell ⟨P, j, none⟩ u) (some P) := ⟨rfl, rfl, rfl, by simp, fun k _ hk => Below.heap_setCell _ _ _ _ (fun e => hk (by rw [e]))⟩
  refine ⟨lv, tv, ?_, ?_, ?_, h4, h5, h6, fun k hk => ⟨(h7 k hk).1, by simpa using (h7 k hk).2⟩⟩
  · rw [heap_setCell_same w P j _ _ u h1, hc]
  · rw [hl]; exact h2.kept hg (.inr (ownBlock_other h2 h1 (by decide)))
  · rw [ht]; exact World.ownsRow.kept h3 hg (.inr (ownBlock_other h3 h1 (by decide)))
theorem dec_pl {B P : Nat} {X : Nat → Prop} {s : Dc} {w : World} (h : Dec B P X s w) {n : Nat} {z : Int} (hz : z = n) : Dec B P X { s with pl := n } (w.setCell ⟨P, 0, none⟩ (.int .i64 z)) := dec_set h _ _ rfl rfl fun _ _ => by rw [hz]; rfl
theorem dec_er {B P : Nat} {X : Nat → Prop} {s : Dc} {w : World} (h : Dec B P X s w) {n : Nat} {v : Value} (hv : v = errV n) : Dec B P X { s with er := n } (w.setCell ⟨P, 1, none⟩ v) := dec_set h _ _ rfl rfl fun _ _ => by rw [hv]; rfl
theorem dec_sz {B P : Nat} {X : Nat → Prop} {s : Dc} {w : World} (h : Dec B P X s w) {n : Nat} {z : Int} (hz : z = n) : Dec B P X { s with sz := n } (w.setCell ⟨P, 2, none⟩ (.int .i64 z)) := dec_set h _ _ rfl rfl fun _ _ => by rw [hz]; rfl
theorem dec_tot {B P : Nat} {X : Nat → Prop} {s : Dc} {w : World} (h : Dec B P X s w) {n : Nat} {z : Int} (hz : z = n) : Dec B P X { s with tot := n } (w.setCell ⟨P, 3, none⟩ (.int .i64 z)) := dec_set h _ _ rfl rfl fun _ _ => by rw [hz]; rfl
theorem dec_len {B P : Nat} {X : Nat → Prop} {s : Dc} {w : World} (h : Dec B P X s w) {n : Nat} {z : Int} (hz : z = n) : Dec B P X { s with len := n } (w.setCell ⟨P, 4, none⟩ (.int .i64 z)) := dec_set h _ _ rfl rfl fun _ _ => by rw [hz]; rfl
/-- What a call leaves that changes the decoder: its new state, and nothing else that was there is changed. -/
def DecTo (B P : Nat) (X : Nat → Prop) (s' : Dc) (w w' : World) : Prop := ∃ X', (∀ k, X' k → X k ∨ w.heap.size ≤ k) ∧ Dec B P X' s' w' ∧ Only X w w'
theorem DecTo.same {B P : Nat} {X : Nat → Prop} {s' : Dc} {w w' : World} (h : Dec B P X s' w') (hO : Only X w w') : DecTo B P X s' w w' := ⟨X, fun _ h => .inl h, h, hO⟩
theorem DecTo.refl {B P : Nat} {X : Nat → Prop} {s : Dc} {w : World} (h : Dec B P X s w) : DecTo B P X s w w := .same h (Only.refl _ _)
/-- What a step returns: the error's number, and the decoder in its new state. -/
def StepPost (B P : Nat) (X : Nat → Prop) (r : Nat × Dc) (w : World) (e : Ending) (w' : World) : Prop := e = .returned (errV r.1) ∧ DecTo B P X r.2 w w'
end Go.Proofs.YthlfhbhjiofneaaDoor
