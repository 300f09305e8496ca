/- What the reference's Write returns. -/
import Derived.Test.YtikkaakgehaenaaDoorKRefG
import Derived.Test.YtikkaakgehaenaaDoorKRefR
namespace Go.Proofs.YtikkaakgehaenaaDoor
open Go.RowKit

/-- The cells of a state. -/
abbrev stC (r : Rs) (fv : Value) : Array Value := #[.int .i64 (r.p : Int), .int .i64 (r.d : Int), .int .i64 (r.n : Int), .int .i64 (r.ln : Int), .int .i64 (r.tt : Int), .int .i64 (r.lf : Int), .int .i64 (r.se : Int), .string (strB r.tx), fv, .int .i64 (r.bad : Int)]
/-- A state in a block. -/
def StAt (N : Nat) (r : Rs) (fv : Value) (w : World) : Prop := w.heap[N]? = some (.cells (stC r fv) 47 (0, 0))
theorem StAt.below {N : Nat} {r : Rs} {fv : Value} {w w' : World} (h : StAt N r fv w) (hb : Below w.heap.size w w') : StAt N r fv w' := (hb.block N (Array.getElem?_eq_some_iff.1 h).1).trans h
theorem StAt.lt {N : Nat} {r : Rs} {fv : Value} {w : World} (h : StAt N r fv w) : N < w.heap.size := (Array.getElem?_eq_some_iff.1 h).1
structure StCells (N : Nat) (r : Rs) (fv : Value) (w : World) : Prop where
  c0 : w.cell? ⟨N, 0, none⟩ = some (.int .i64 (r.p : Int))
  c1 : w.cell? ⟨N, 1, none⟩ = some (.int .i64 (r.d : Int))
  c2 : w.cell? ⟨N, 2, none⟩ = some (.int .i64 (r.n : Int))
  c3 : w.cell? ⟨N, 3, none⟩ = some (.int .i64 (r.ln : Int))
  c4 : w.cell? ⟨N, 4, none⟩ = some (.int .i64 (r.tt : Int))
  c5 : w.cell? ⟨N, 5, none⟩ = some (.int .i64 (r.lf : Int))
  c6 : w.cell? ⟨N, 6, none⟩ = some (.int .i64 (r.se : Int))
  c7 : w.cell? ⟨N, 7, none⟩ = some (.string (strB r.tx))
  c8 : w.cell? ⟨N, 8, none⟩ = some fv
  c9 : w.cell? ⟨N, 9, none⟩ = some (.int .i64 (r.bad : Int))
  f : ∀ j, w.frozen? ⟨N, j, none⟩ = false
theorem StAt.cells {N : Nat} {r : Rs} {fv : Value} {w : World} (h : StAt N r fv w) : StCells N r fv w := by
  have hh : w.heap[N]? = some (.cells (stC r fv) 47 (0, 0)) := h
  constructor
  case f => exact fun j => Lib.frozen_of_heap hh j
  all_goals (rw [Lib.cell_of_heap hh]; rfl)
/-- What the reference's Write leaves. -/
def WrPost (fv : Value) (r : Rs) (l : List UInt8) (w : World) (e : Ending) (w' : World) : Prop :=
  ∃ fa fn fc ov, (∀ j, (Value.slice fa fn fc).ownBlock = some j → j < w'.heap.size ∧ (fv.ownBlock = some j ∨ w.heap.size ≤ j)) ∧ e = .returned (.tuple #[stV (wrR r l).1 (.slice fa fn fc), ov, .int .i64 ((wrR r l).2.2 : Int)]) ∧ ReadsQ w' (.slice fa fn fc) (wrR r l).1.fs ∧ Sane (.slice fa fn fc) ∧ OwnB w.heap.size w' ov (wrR r l).2.1 ∧ Below w.heap.size w w'
def rs0 : Rs := ⟨0, 0, 0, 0, 0, 0, 0, [], [], 0⟩
/-- The loop: behind k bytes. -/
def WrRel (fv : Value) (r : Rs) (l : List UInt8) (w : World) (u i : Value) (wr : World) : Prop :=
  ∃ k r' fa fn fc out, i = .int .i64 ((k : Nat) : Int) ∧ k ≤ l.length ∧ wrR r (l.take k) = (r', out, k) ∧ StAt w.heap.size r' (.slice fa fn fc) wr ∧ StAt (w.heap.size + 1) rs0 (.slice none 0 0) wr ∧ ReadsQ wr (.slice fa fn fc) r'.fs ∧ Sane (.slice fa fn fc) ∧ OwnB (w.heap.size + 2) wr u out ∧ Below w.heap.size w wr ∧ (∀ j, (Value.slice fa fn fc).ownBlock = some j → j < wr.heap.size ∧ u.ownBlock ≠ some j ∧ (fv.ownBlock = some j ∨ w.heap.size ≤ j))
/-- What is left when the loop stops. -/
theorem wr_end {r r' : Rs} {l out : List UInt8} {k : Nat} (h : wrR r (l.take k) = (r', out, k)) (hs : r'.bad ≠ 0 ∨ r'.p = 8 ∨ l.length ≤ k) : wrR r l = (r', out, k) := by
  have h2 := wrR_app (l.take k) r (l.drop k)
  rw [List.take_append_drop, h] at h2
  simp only at h2
  have h3 : wrR r' (l.drop k) = (r', [], 0) := by
    rcases hs with h | h | h
    · exact wrR_stop (.inl h) _
    · exact wrR_stop (.inr h) _
    · rw [List.drop_eq_nil_of_le h]; rfl
  rw [h3] at h2
  simpa using h2
theorem wr_one {r' : Rs} {c : UInt8} (hb : r'.bad = 0) (h8 : r'.p ≠ 8) : wrR r' [c] = if (stepR r' c).bad ≠ 0 then (stepR r' c, [], 0) else if r'.p = 3 then (stepR r' c, [c], 1) else (stepR r' c, [], 1) := by
  rw [wrR, if_neg (by simp [hb, h8])]
  simp [wrR]
theorem wr_more {r r' : Rs} {l out : List UInt8} {k : Nat} {c : UInt8} (h : wrR r (l.take k) = (r', out, k)) (hc : l[k]? = some c) (hb : r'.bad = 0) (h8 : r'.p ≠ 8) (hz : (stepR r' c).bad = 0) :
    wrR r (l.take (k + 1)) = (stepR r' c, out ++ (if r'.p = 3 then [c] else []), k + 1) := by
  rw [List.take_add_one, hc, Option.toList_some, wrR_app, h, wr_one hb h8, if_neg (by rw [hz]; simp)]
  split <;> simp
theorem wr_bad {r r' : Rs} {l out : List UInt8} {k : Nat} {c : UInt8} (h : wrR r (l.take k) = (r', out, k)) (hc : l[k]? = some c) (hb : r'.bad = 0) (h8 : r'.p ≠ 8) (hz : (stepR r' c).bad ≠ 0) : wrR r l = (stepR r' c, out, k) := by
  have hk := (List.getElem?_eq_some_iff.mp hc).1
  have h2 := wrR_app (l.take k) r (l.drop k)
  rw [List.take_append_drop, h] at h2
  simp only at h2
  have hd : l.drop k = c :: l.drop (k + 1) := by
    rw [List.drop_eq_getElem_cons hk]
    rw [List.getElem?_eq_getElem hk] at hc
    rw [Option.some.inj hc]
  rw [hd, wrR, if_neg (by simp [hb, h8]), if_pos hz] at h2
  simpa using h2
/-- The result's block, and what it leaves as it was. -/
theorem wr_post {fv : Value} {r r' : Rs} {l out : List UInt8} {k : Nat} {w wr wF : World} {fa : Option Addr} {fn fc : Nat} {u : Value} (he : wrR r l = (r', out, k)) (hR : ReadsQ wr (.slice fa fn fc) r'.fs) (hS : Sane (.slice fa fn fc)) (hs : StAt (w.heap.size + 1) rs0 (.slice none 0 0) wr) (ho : OwnB (w.heap.size + 2) wr u out) (hb : Below w.heap.size w wr) (hsp : ∀ j, (Value.slice fa fn fc).ownBlock = some j → j < wr.heap.size ∧ u.ownBlock ≠ some j ∧ (fv.ownBlock = some j ∨ w.heap.size ≤ j)) (hF : Only (fun j => j = w.heap.size + 1) wr wF) :
    WrPost fv r l w (.returned (.tuple #[stV r' (.slice fa fn fc), u, .int .i64 (k : Int)])) wF := by
  have hh : wr.heap[w.heap.size + 1]? = some (.cells (stC rs0 (.slice none 0 0)) 47 (0, 0)) := hs
  refine ⟨fa, fn, fc, u, fun j hj => ⟨Nat.lt_of_lt_of_le (hsp j hj).1 hF.size, (hsp j hj).2.2⟩, by rw [he], ?_, hS, ?_, hb.trans (hF.to (fun j hj => by omega) hb.size)⟩
  · rw [he]; exact reads_not_box hh hR hF
  · rw [he]
    exact OwnB.mono (by omega) (ho.only hF (fun j hj h => by have := (World.ownsRow.lt ho j hj).1; omega))
/-- A new state's block. -/
def TenZ (N : Nat) (w1 : World) : Prop :=
  w1.cell? ⟨N, 0, none⟩ = some (.int .i64 0) ∧ w1.frozen? ⟨N, 0, none⟩ = false ∧ w1.cell? ⟨N, 1, none⟩ = some (.int .i64 0) ∧ w1.frozen? ⟨N, 1, none⟩ = false ∧ w1.cell? ⟨N, 2, none⟩ = some (.int .i64 0) ∧ w1.frozen? ⟨N, 2, none⟩ = false ∧ w1.cell? ⟨N, 3, none⟩ = some (.int .i64 0) ∧ w1.frozen? ⟨N, 3, none⟩ = false ∧ w1.cell? ⟨N, 4, none⟩ = some (.int .i64 0) ∧ w1.frozen? ⟨N, 4, none⟩ = false ∧ w1.cell? ⟨N, 5, none⟩ = some (.int .i64 0) ∧ w1.frozen? ⟨N, 5, none⟩ = false ∧ w1.cell? ⟨N, 6, none⟩ = some (.int .i64 0) ∧ w1.frozen? ⟨N, 6, none⟩ = false ∧ w1.cell? ⟨N, 7, none⟩ = some (.string ⟨#[]⟩) ∧ w1.frozen? ⟨N, 7, none⟩ = false ∧ w1.cell? ⟨N, 8, none⟩ = some (.slice none 0 0) ∧ w1.frozen? ⟨N, 8, none⟩ = false ∧ w1.cell? ⟨N, 9, none⟩ = some (.int .i64 0) ∧ w1.frozen? ⟨N, 9, none⟩ = false
theorem ten_atE {W w1 : World} {N : Nat} {t : TypeId} (h : Below (W.alloc (.cells #[.int .i64 0, .int .i64 0, .int .i64 0, .int .i64 0, .int .i64 0, .int .i64 0, .int .i64 0, .string ⟨#[]⟩, .slice none 0 0, .int .i64 0] t)).heap.size (W.alloc (.cells #[.int .i64 0, .int .i64 0, .int .i64 0, .int .i64 0, .int .i64 0, .int .i64 0, .int .i64 0, .string ⟨#[]⟩, .slice none 0 0, .int .i64 0] t)) w1) (hN : N = W.heap.size) :
    TenZ N w1 := by
  subst hN
  have hs : W.heap.size < (W.alloc (.cells #[.int .i64 0, .int .i64 0, .int .i64 0, .int .i64 0, .int .i64 0, .int .i64 0, .int .i64 0, .string ⟨#[]⟩, .slice none 0 0, .int .i64 0] t)).heap.size := by simp
  have hh := heap_alloc_new W (.cells #[.int .i64 0, .int .i64 0, .int .i64 0, .int .i64 0, .int .i64 0, .int .i64 0, .int .i64 0, .string ⟨#[]⟩, .slice none 0 0, .int .i64 0] t)
  have key : ∀ j, w1.cell? ⟨W.heap.size, j, none⟩ = (#[.int .i64 0, .int .i64 0, .int .i64 0, .int .i64 0, .int .i64 0, .int .i64 0, .int .i64 0, .string ⟨#[]⟩, .slice none 0 0, .int .i64 0] : Array Value)[j]? ∧ w1.frozen? ⟨W.heap.size, j, none⟩ = false := fun j =>
    ⟨(h.cell (p := ⟨W.heap.size, j, none⟩) hs).trans (by rw [Lib.cell_of_heap hh]), (h.frozen (p := ⟨W.heap.size, j, none⟩) hs).trans (Lib.frozen_of_heap hh j)⟩
  exact ⟨(key 0).1, (key 0).2, (key 1).1, (key 1).2, (key 2).1, (key 2).2, (key 3).1, (key 3).2, (key 4).1, (key 4).2, (key 5).1, (key 5).2, (key 6).1, (key 6).2, (key 7).1, (key 7).2, (key 8).1, (key 8).2, (key 9).1, (key 9).2⟩
theorem bel_ten {Z w : World} {N : Nat} {a0 a1 a2 a3 a4 a5 a6 a7 a8 a9 : Value} (h : Below Z.heap.size Z w) (hN : Z.heap.size ≤ N) : Below Z.heap.size Z ((((((((((w.setCell ⟨N, 0, none⟩ a0).setCell ⟨N, 1, none⟩ a1).setCell ⟨N, 2, none⟩ a2).setCell ⟨N, 3, none⟩ a3).setCell ⟨N, 4, none⟩ a4).setCell ⟨N, 5, none⟩ a5).setCell ⟨N, 6, none⟩ a6).setCell ⟨N, 7, none⟩ a7).setCell ⟨N, 8, none⟩ a8).setCell ⟨N, 9, none⟩ a9) :=
  ((((((((((h.setCell (p := ⟨N, 0, none⟩) hN a0).setCell (p := ⟨N, 1, none⟩) hN a1).setCell (p := ⟨N, 2, none⟩) hN a2).setCell (p := ⟨N, 3, none⟩) hN a3).setCell (p := ⟨N, 4, none⟩) hN a4).setCell (p := ⟨N, 5, none⟩) hN a5).setCell (p := ⟨N, 6, none⟩) hN a6).setCell (p := ⟨N, 7, none⟩) hN a7).setCell (p := ⟨N, 8, none⟩) hN a8).setCell (p := ⟨N, 9, none⟩) hN a9)
theorem stAt_ten {w : World} {N : Nat} {z0 z1 z2 z3 z4 z5 z6 z7 z8 z9 a0 a1 a2 a3 a4 a5 a6 a7 a8 a9 : Value} {t : TypeId} (h : w.heap[N]? = some (.cells #[z0, z1, z2, z3, z4, z5, z6, z7, z8, z9] t (0, 0))) : ((((((((((w.setCell ⟨N, 0, none⟩ a0).setCell ⟨N, 1, none⟩ a1).setCell ⟨N, 2, none⟩ a2).setCell ⟨N, 3, none⟩ a3).setCell ⟨N, 4, none⟩ a4).setCell ⟨N, 5, none⟩ a5).setCell ⟨N, 6, none⟩ a6).setCell ⟨N, 7, none⟩ a7).setCell ⟨N, 8, none⟩ a8).setCell ⟨N, 9, none⟩ a9).heap[N]? = some (.cells #[a0, a1, a2, a3, a4, a5, a6, a7, a8, a9] t (0, 0)) := by
  have h0 : (w.setCell ⟨N, 0, none⟩ a0).heap[N]? = some (.cells #[a0, z1, z2, z3, z4, z5, z6, z7, z8, z9] t (0, 0)) := by rw [heap_setCell_same w N 0 _ _ a0 h]; rfl
  have h1 : ((w.setCell ⟨N, 0, none⟩ a0).setCell ⟨N, 1, none⟩ a1).heap[N]? = some (.cells #[a0, a1, z2, z3, z4, z5, z6, z7, z8, z9] t (0, 0)) := by rw [heap_setCell_same (w.setCell ⟨N, 0, none⟩ a0) N 1 _ _ a1 h0]; rfl
  have h2 : (((w.setCell ⟨N, 0, none⟩ a0).setCell ⟨N, 1, none⟩ a1).setCell ⟨N, 2, none⟩ a2).heap[N]? = some (.cells #[a0, a1, a2, z3, z4, z5, z6, z7, z8, z9] t (0, 0)) := by rw [heap_setCell_same ((w.setCell ⟨N, 0, none⟩ a0).setCell ⟨N, 1, none⟩ a1) N 2 _ _ a2 h1]; rfl
  have h3 : ((((w.setCell ⟨N, 0, none⟩ a0).setCell ⟨N, 1, none⟩ a1).setCell ⟨N, 2, none⟩ a2).setCell ⟨N, 3, none⟩ a3).heap[N]? = some (.cells #[a0, a1, a2, a3, z4, z5, z6, z7, z8, z9] t (0, 0)) := by rw [heap_setCell_same (((w.setCell ⟨N, 0, none⟩ a0).setCell ⟨N, 1, none⟩ a1).setCell ⟨N, 2, none⟩ a2) N 3 _ _ a3 h2]; rfl
  have h4 : (((((w.setCell ⟨N, 0, none⟩ a0).setCell ⟨N, 1, none⟩ a1).setCell ⟨N, 2, none⟩ a2).setCell ⟨N, 3, none⟩ a3).setCell ⟨N, 4, none⟩ a4).heap[N]? = some (.cells #[a0, a1, a2, a3, a4, z5, z6, z7, z8, z9] t (0, 0)) := by rw [heap_setCell_same ((((w.setCell ⟨N, 0, none⟩ a0).setCell ⟨N, 1, none⟩ a1).setCell ⟨N, 2, none⟩ a2).setCell ⟨N, 3, none⟩ a3) N 4 _ _ a4 h3]; rfl
  have h5 : ((((((w.setCell ⟨N, 0, none⟩ a0).setCell ⟨N, 1, none⟩ a1).setCell ⟨N, 2, none⟩ a2).setCell ⟨N, 3, none⟩ a3).setCell ⟨N, 4, none⟩ a4).setCell ⟨N, 5, none⟩ a5).heap[N]? = some (.cells #[a0, a1, a2, a3, a4, a5, z6, z7, z8, z9] t (0, 0)) := by rw [heap_setCell_same (((((w.setCell ⟨N, 0, none⟩ a0).setCell ⟨N, 1, none⟩ a1).setCell ⟨N, 2, none⟩ a2).setCell ⟨N, 3, none⟩ a3).setCell ⟨N, 4, none⟩ a4) N 5 _ _ a5 h4]; rfl
  have h6 : (((((((w.setCell ⟨N, 0, none⟩ a0).setCell ⟨N, 1, none⟩ a1).setCell ⟨N, 2, none⟩ a2).setCell ⟨N, 3, none⟩ a3).setCell ⟨N, 4, none⟩ a4).setCell ⟨N, 5, none⟩ a5).setCell ⟨N, 6, none⟩ a6).heap[N]? = some (.cells #[a0, a1, a2, a3, a4, a5, a6, z7, z8, z9] t (0, 0)) := by rw [heap_setCell_same ((((((w.setCell ⟨N, 0, none⟩ a0).setCell ⟨N, 1, none⟩ a1).setCell ⟨N, 2, none⟩ a2).setCell ⟨N, 3, none⟩ a3).setCell ⟨N, 4, none⟩ a4).setCell ⟨N, 5, none⟩ a5) N 6 _ _ a6 h5]; rfl
  have h7 : ((((((((w.setCell ⟨N, 0, none⟩ a0).setCell ⟨N, 1, none⟩ a1).setCell ⟨N, 2, none⟩ a2).setCell ⟨N, 3, none⟩ a3).setCell ⟨N, 4, none⟩ a4).setCell ⟨N, 5, none⟩ a5).setCell ⟨N, 6, none⟩ a6).setCell ⟨N, 7, none⟩ a7).heap[N]? = some (.cells #[a0, a1, a2, a3, a4, a5, a6, a7, z8, z9] t (0, 0)) := by rw [heap_setCell_same (((((((w.setCell ⟨N, 0, none⟩ a0).setCell ⟨N, 1, none⟩ a1).setCell ⟨N, 2, none⟩ a2).setCell ⟨N, 3, none⟩ a3).setCell ⟨N, 4, none⟩ a4).setCell ⟨N, 5, none⟩ a5).setCell ⟨N, 6, none⟩ a6) N 7 _ _ a7 h6]; rfl
  have h8 : (((((((((w.setCell ⟨N, 0, none⟩ a0).setCell ⟨N, 1, none⟩ a1).setCell ⟨N, 2, none⟩ a2).setCell ⟨N, 3, none⟩ a3).setCell ⟨N, 4, none⟩ a4).setCell ⟨N, 5, none⟩ a5).setCell ⟨N, 6, none⟩ a6).setCell ⟨N, 7, none⟩ a7).setCell ⟨N, 8, none⟩ a8).heap[N]? = some (.cells #[a0, a1, a2, a3, a4, a5, a6, a7, a8, z9] t (0, 0)) := by rw [heap_setCell_same ((((((((w.setCell ⟨N, 0, none⟩ a0).setCell ⟨N, 1, none⟩ a1).setCell ⟨N, 2, none⟩ a2).setCell ⟨N, 3, none⟩ a3).setCell ⟨N, 4, none⟩ a4).setCell ⟨N, 5, none⟩ a5).setCell ⟨N, 6, none⟩ a6).setCell ⟨N, 7, none⟩ a7) N 8 _ _ a8 h7]; rfl
  have h9 : ((((((((((w.setCell ⟨N, 0, none⟩ a0).setCell ⟨N, 1, none⟩ a1).setCell ⟨N, 2, none⟩ a2).setCell ⟨N, 3, none⟩ a3).setCell ⟨N, 4, none⟩ a4).setCell ⟨N, 5, none⟩ a5).setCell ⟨N, 6, none⟩ a6).setCell ⟨N, 7, none⟩ a7).setCell ⟨N, 8, none⟩ a8).setCell ⟨N, 9, none⟩ a9).heap[N]? = some (.cells #[a0, a1, a2, a3, a4, a5, a6, a7, a8, a9] t (0, 0)) := by rw [heap_setCell_same (((((((((w.setCell ⟨N, 0, none⟩ a0).setCell ⟨N, 1, none⟩ a1).setCell ⟨N, 2, none⟩ a2).setCell ⟨N, 3, none⟩ a3).setCell ⟨N, 4, none⟩ a4).setCell ⟨N, 5, none⟩ a5).setCell ⟨N, 6, none⟩ a6).setCell ⟨N, 7, none⟩ a7).setCell ⟨N, 8, none⟩ a8) N 9 _ _ a9 h8]; rfl
  exact h9
theorem meet_one {r' : Rs} {c : UInt8} {w1 wS : World} {ga : Option Addr} {gn gc : Nat} (hR : ReadsQ wS (.slice ga gn gc) (stepR r' c).fs) (hS : Sane (.slice ga gn gc)) (hb : Below w1.heap.size w1 wS) {fv : Value} {W : World} (hW : w1.heap.size ≤ W.heap.size) (hsep : ∀ j, (Value.slice ga gn gc).ownBlock = some j → fv.ownBlock = some j ∨ (W.heap.size ≤ j ∧ j < wS.heap.size)) :
    (∀ j, (Value.slice ga gn gc).ownBlock = some j → fv.ownBlock = some j ∨ (w1.heap.size ≤ j ∧ j < (wS.alloc (.cells (stC (stepR r' c) (.slice ga gn gc)) 47)).heap.size)) ∧ w1.heap.size ≤ wS.heap.size ∧ StAt wS.heap.size (stepR r' c) (.slice ga gn gc) (wS.alloc (.cells (stC (stepR r' c) (.slice ga gn gc)) 47)) ∧ ReadsQ (wS.alloc (.cells (stC (stepR r' c) (.slice ga gn gc)) 47)) (.slice ga gn gc) (stepR r' c).fs ∧ Sane (.slice ga gn gc) ∧ Below w1.heap.size w1 (wS.alloc (.cells (stC (stepR r' c) (.slice ga gn gc)) 47)) :=
  ⟨fun j hj => (hsep j hj).imp (fun h => h) (fun h => ⟨Nat.le_trans hW h.1, by have := h.2; simp; omega⟩), hb.size, heap_alloc_new wS _, hR.below (below_new _ _), hS, hb.alloc hb.size _⟩
theorem meet_two {r' : Rs} {c : UInt8} {w1 wS wF : World} {N : Nat} {ga : Option Addr} {gn gc : Nat} (hR : ReadsQ wS (.slice ga gn gc) (stepR r' c).fs) (hS : Sane (.slice ga gn gc)) (hb : Below w1.heap.size w1 wS) (hN : N = w1.heap.size) (hst : StAt N rs0 (.slice none 0 0) wS) (hF : Only (fun k => k = N) wS wF) (hT : StAt N (stepR r' c) (.slice ga gn gc) wF) {fv : Value} {W : World} (hW : w1.heap.size ≤ W.heap.size) (hsep : ∀ j, (Value.slice ga gn gc).ownBlock = some j → fv.ownBlock = some j ∨ (W.heap.size ≤ j ∧ j < wS.heap.size)) :
    (∀ j, (Value.slice ga gn gc).ownBlock = some j → fv.ownBlock = some j ∨ (w1.heap.size ≤ j ∧ j < wF.heap.size)) ∧ w1.heap.size ≤ N ∧ StAt N (stepR r' c) (.slice ga gn gc) wF ∧ ReadsQ wF (.slice ga gn gc) (stepR r' c).fs ∧ Sane (.slice ga gn gc) ∧ Below w1.heap.size w1 wF := by
  have hh : wS.heap[N]? = some (.cells (stC rs0 (.slice none 0 0)) 47 (0, 0)) := hst
  exact ⟨fun j hj => (hsep j hj).imp (fun h => h) (fun h => ⟨Nat.le_trans hW h.1, Nat.lt_of_lt_of_le h.2 hF.size⟩), by omega, hT, reads_not_box hh hR hF, hS, hb.trans (hF.to (fun k hk => by omega) hb.size)⟩
theorem wr_round {fv0 : Value} {r r' nx : Rs} {l out2 : List UInt8} {k : Nat} {w wy wF : World} {fv u : Value} {ga : Option Addr} {gn gc : Nat} (hw : wrR r (l.take (k + 1)) = (nx, out2, k + 1)) (hk : k < l.length) (hst : StAt w.heap.size r' fv wy) (hfv : ∃ a x y, fv = .slice a x y) (hst1 : StAt (w.heap.size + 1) rs0 (.slice none 0 0) wy) (hR : ReadsQ wy (.slice ga gn gc) nx.fs) (hS : Sane (.slice ga gn gc)) (hO : OwnB (w.heap.size + 2) wy u out2) (hB : Below w.heap.size w wy) (hsp : ∀ j, (Value.slice ga gn gc).ownBlock = some j → j < wy.heap.size ∧ u.ownBlock ≠ some j ∧ (fv0.ownBlock = some j ∨ w.heap.size ≤ j)) (hF : Only (fun j => j = w.heap.size) wy wF) (hT : StAt w.heap.size nx (.slice ga gn gc) wF) :
    WrRel fv0 r l w u (.int .i64 ((k : Int) + 1)) wF := by
  obtain ⟨a, x, y, rfl⟩ := hfv
  have hh : wy.heap[w.heap.size]? = some (.cells (stC r' (.slice a x y)) 47 (0, 0)) := hst
  refine ⟨k + 1, nx, ga, gn, gc, out2, by go_num, hk, hw, hT, (hF.block _ hst1.lt (by omega)).trans hst1, reads_not_box hh hR hF, hS, hO.only hF (fun j hj h => by have := (World.ownsRow.lt hO j hj).1; omega), hB.trans (hF.to (fun j hj => by omega) hB.size), fun j hj => ⟨Nat.lt_of_lt_of_le (hsp j hj).1 hF.size, (hsp j hj).2⟩⟩
theorem reads_oneD (W : World) (c : UInt8) : ReadsD (W.alloc (.cells #[.int .u8 (c.toNat : Int)] 5)) (.slice (some ⟨W.heap.size, 0, none⟩) 1 1) [c] := by
  refine ⟨_, _, rfl, Nat.le_refl _, by unfold maxLen; omega, fun h => (by cases h), fun j d hj => ⟨W.heap.size, 0, rfl, by simp, ?_⟩⟩
  cases j with
  | zero => cases hj; rw [World.cell?_alloc_at _ _ _ _ rfl]; rfl
  | succ j => simp at hj
theorem reads_only {w wF : World} {v : Value} {ps : Flds} {Y : Nat → Prop} (h : ReadsQ w v ps) (hs : ∀ j, v.ownBlock = some j → ¬ Y j) (hF : Only Y w wF) : ReadsQ wF v ps := by
  obtain ⟨ao, c, rfl, hc⟩ := h
  refine ⟨ao, c, rfl, fun j p hj => ?_⟩
  obtain ⟨g, off, ha, hg, h1, h2⟩ := hc j p hj
  have hne : ¬ Y g := hs g (by rw [ha]; rfl)
  exact ⟨g, off, ha, Nat.lt_of_lt_of_le hg hF.size, (hF.cell (p := ⟨g, _, none⟩) hg hne).trans h1, (hF.cell (p := ⟨g, _, none⟩) hg hne).trans h2⟩
theorem reads_apart {w wF : World} {u v : Value} {ps : Flds} (h : ReadsQ w v ps) (hs : ∀ j, v.ownBlock = some j → u.ownBlock ≠ some j) (hF : Only (fun j => u.ownBlock = some j) w wF) : ReadsQ wF v ps := by
  obtain ⟨ao, c, rfl, hc⟩ := h
  refine ⟨ao, c, rfl, fun j p hj => ?_⟩
  obtain ⟨g, off, ha, hg, h1, h2⟩ := hc j p hj
  have hne : ¬ u.ownBlock = some g := hs g (by rw [ha]; rfl)
  exact ⟨g, off, ha, Nat.lt_of_lt_of_le hg hF.size, (hF.cell (p := ⟨g, _, none⟩) hg hne).trans h1, (hF.cell (p := ⟨g, _, none⟩) hg hne).trans h2⟩
theorem app_cells {A N : Nat} {r' nx : Rs} {fv fv' u : Value} {out : List UInt8} {wx w2 : World} {o : Obj} (hO : OwnB (A + 2) wx u out) (hN : StAt N nx fv wx) (hA : StAt A r' fv' wx) (hne : ∀ j, u.ownBlock = some j → j ≠ N) (hg : (wx.alloc o).grownBy w2 u.ownBlock) : StCells N nx fv w2 ∧ StCells A r' fv' w2 := by
  have hgN : Only (fun j => u.ownBlock = some j) wx w2 := (Only.alloc _ wx o).trans' (Only.grown hg (fun j hj => .inl hj))
  have h1 : StAt N nx fv w2 := (hgN.block _ hN.lt (fun e => hne N e rfl)).trans hN
  have h2 : StAt A r' fv' w2 := (hgN.block _ hA.lt (fun e => by have := (World.ownsRow.lt hO A e).1; omega)).trans hA
  exact ⟨h1.cells, h2.cells⟩
end Go.Proofs.YtikkaakgehaenaaDoor
