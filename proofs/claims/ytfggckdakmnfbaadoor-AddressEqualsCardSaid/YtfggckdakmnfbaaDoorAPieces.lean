/- A slice of the law's pieces (structs of a string, a byte, a bool, a byte) among the arguments, opened. -/
import Derived.Test.YtfggckdakmnfbaaDoorAOpen
import Derived.Deep.SlicePairs
namespace Go.Proofs.YtfggckdakmnfbaaDoor
open Go.ChangeShapes Go.WideShapes Go.ChangeAt Go.RowKit

structure Piece where
  t : ByteArray
  e : UInt8
  l : Bool
  b : UInt8
deriving Inhabited
/-- The value is a slice that reads as these pieces. -/
def ReadsPc (w : World) (v : Value) (ps : List Piece) : Prop :=
  ∃ ao cap, v = .slice ao ps.length cap ∧ ∀ j p, ps[j]? = some p → ∃ g off, ao = some ⟨g, off, none⟩ ∧ g < w.heap.size ∧ w.cell? ⟨g, off + j * 4, none⟩ = some (.string p.t) ∧ w.cell? ⟨g, off + j * 4 + 1, none⟩ = some (.int .u8 (p.e.toNat : Int)) ∧
    w.cell? ⟨g, off + j * 4 + 2, none⟩ = some (.bool p.l) ∧ w.cell? ⟨g, off + j * 4 + 3, none⟩ = some (.int .u8 (p.b.toNat : Int))
theorem ReadsPc.below {w w' : World} {v : Value} {ps : List Piece} (h : ReadsPc w v ps) (hb : Below w.heap.size w w') : ReadsPc w' v ps := by
  obtain ⟨ao, cap, rfl, hc⟩ := h
  refine ⟨ao, cap, rfl, fun j p hj => ?_⟩
  obtain ⟨g, off, h1, h2, h3, h4, h5, h6⟩ := hc j p hj
  exact ⟨g, off, h1, Nat.lt_of_lt_of_le h2 hb.size, (hb.cell (p := ⟨g, off + j * 4, none⟩) h2).trans h3, (hb.cell (p := ⟨g, off + j * 4 + 1, none⟩) h2).trans h4, (hb.cell (p := ⟨g, off + j * 4 + 2, none⟩) h2).trans h5, (hb.cell (p := ⟨g, off + j * 4 + 3, none⟩) h2).trans h6⟩
theorem u8_of {n : Int} (h : (Lit.int .u8 n).wf = true) : ∃ c : UInt8, n = (c.toNat : Int) := by
  have hb : 0 ≤ n ∧ n < 256 := by
    have h' := h
    simp only [Lit.wf, IntKind.min, IntKind.max, IntKind.signed, IntKind.bits, Bool.and_eq_true, decide_eq_true_eq, Bool.false_eq_true, if_false] at h'
    omega
  exact ⟨UInt8.ofNat n.toNat, by simp; omega⟩
set_option maxRecDepth 100000 in
/-- A slice of pieces among the arguments. -/
theorem open_pieces {H : Type} {enc : TypeId × Value → H} {w : World} {v : Value} {d : DataW H} {p : List MemPlace} {base : Nat} (hv : Value.okWide Tryd.prog w .any base 22 v)
    (h : DataW.Trod enc Tryd.prog w 0 (fun _ => true) true 22 v d p) :
    ∃ ps : List Piece, ReadsPc w v ps ∧ ps.length ≤ maxLen ∧ (∀ q ∈ ps, q.t.size ≤ maxLen) := by
  obtain ⟨a0, len, cap, rfl⟩ := okWide_slice Tryd.underlying22 hv
  obtain ⟨fuel, hf⟩ := h
  have hc4 : Tryd.prog.cellsOf 25 = 4 := by kernel_rfl
  have hcs1 : Tryd.prog.cellsOf 9 = 1 := by kernel_rfl
  have hcb1 : Tryd.prog.cellsOf 4 = 1 := by kernel_rfl
  have hcu1 : Tryd.prog.cellsOf 5 = 1 := by kernel_rfl
  rcases Go.Deep.open_slice Tryd.underlying22 (by simpa [Value.cells] using hf) with ⟨hcs, hx⟩ | ⟨a, len', cap', m, n, D, Pl, hcs, _, hl, hm, hmm, hx, hall⟩
  · simp only [List.cons.injEq, Value.slice.injEq, and_true] at hcs
    obtain ⟨rfl, rfl, rfl⟩ := hcs
    exact ⟨[], ⟨none, 0, rfl, fun j l h => by simp at h⟩, by simp, by simp⟩
  · simp only [List.cons.injEq, Value.slice.injEq, and_true] at hcs
    obtain ⟨rfl, rfl, rfl⟩ := hcs
    simp only [if_true] at hmm
    subst hmm
    rw [hc4] at hall
    have each : ∀ i, i < len → ∃ q : Piece, w.cell? (a.add (i * 4)) = some (.string q.t) ∧ w.cell? (a.add (i * 4 + 1)) = some (.int .u8 (q.e.toNat : Int)) ∧ w.cell? (a.add (i * 4 + 2)) = some (.bool q.l) ∧ w.cell? (a.add (i * 4 + 3)) = some (.int .u8 (q.b.toNat : Int)) ∧ q.t.size ≤ maxLen := by
      intro i hi
      obtain ⟨cs', h1, h2⟩ := hall i (by omega)
      obtain ⟨_, hlen, hcell⟩ := World.cells?_some h1
      obtain ⟨y0, y1, y2, y3, k, _, _, g0, g1, g2, g3⟩ := trod_struct4 Tryd.underlying25 h2
      match cs', hlen with
      | [v0, v1, v2, v3], _ =>
        simp [hcs1, hcb1, hcu1] at g0 g1 g2 g3
        obtain ⟨s0, e0, _, z0⟩ := DataW.trod_string Tryd.underlying9 g0
        obtain ⟨n1, e1, _, z1⟩ := DataW.trod_int Tryd.underlying5 g1
        obtain ⟨b2, e2, _⟩ := DataW.trod_bool Tryd.underlying4 g2
        obtain ⟨n3, e3, _, z3⟩ := DataW.trod_int Tryd.underlying5 g3
        simp only [List.cons.injEq, and_true] at e0 e1 e2 e3
        obtain ⟨c1, rfl⟩ := u8_of z1
        obtain ⟨c3, rfl⟩ := u8_of z3
        have k0 := hcell 0 (by omega)
        have k1 := hcell 1 (by omega)
        have k2 := hcell 2 (by omega)
        have k3 := hcell 3 (by omega)
        rw [Go.Deep.add_add] at k0 k1 k2 k3
        exact ⟨⟨s0, c1, b2, c3⟩, by simpa [e0] using k0, by simpa [e1] using k1, by simpa [e2] using k2, by simpa [e3] using k3, z0⟩
    obtain ⟨q, hq⟩ := Go.Deep.choose_lt each
    refine ⟨(List.range len).map q, ⟨some a, _, by simp; rfl, fun j l hj => ?_⟩, by simp; omega, ?_⟩
    · have hjl : j < len := by have := (List.getElem?_eq_some_iff.mp hj).1; simpa using this
      have hj' : q j = l := by
        rw [List.getElem?_map, List.getElem?_range hjl] at hj
        exact Option.some.inj hj
      obtain ⟨c0, c1, c2, c3, _⟩ := hq j hjl
      obtain ⟨z0, _⟩ := hq 0 (by omega)
      obtain ⟨b, off, spot⟩ := a
      have hspot : spot = none := by simpa [Addr.add] using World.cell?_spot z0
      subst hspot
      have hlt : b < w.heap.size := by have := World.block_lt_of_cell? w _ z0; simpa [Addr.add] using this
      rw [Go.WideShapes.add_plain] at c0 c1 c2 c3
      rw [← Nat.add_assoc] at c1 c2 c3
      subst hj'
      exact ⟨b, off, rfl, hlt, c0, c1, c2, c3⟩
    · intro x hx
      obtain ⟨i, hi, rfl⟩ := List.mem_map.mp hx
      exact (hq i (List.mem_range.mp hi)).2.2.2.2
end Go.Proofs.YtfggckdakmnfbaaDoor
