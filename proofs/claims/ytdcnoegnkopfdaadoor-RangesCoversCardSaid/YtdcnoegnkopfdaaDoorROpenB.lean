/- A pair of bytes, or a slice of them, among the arguments, opened. -/
import Derived.Test.YtdcnoegnkopfdaaDoorROpen
import Derived.Test.YtdcnoegnkopfdaaDoorRLaw5
namespace Go.Proofs.YtdcnoegnkopfdaaDoor
open Go.ChangeShapes Go.WideShapes Go.ChangeAt Go.RowKit

section
variable {H : Type} {enc : TypeId × Value → H} {w : World} {base : Nat} {spare : Nat → Bool} {held : Bool}
theorem byte_of {s : Int} (h0 : 0 ≤ s) (h1 : s ≤ 255) : ((UInt8.ofNat s.toNat).toNat : Int) = s := by
  rw [UInt8.toNat_ofNat']; omega
set_option maxRecDepth 100000 in
theorem cells_b2 {fuel : Nat} {cs : List Value} {x : DataW H × List MemPlace} (h : DataW.trod enc Tryd.prog w base spare held fuel 57 cs = some x) :
    ∃ p : UInt8 × UInt8, cs = [.int .u8 (p.1.toNat : Int), .int .u8 (p.2.toNat : Int)] := by
  obtain ⟨xs, m, _, _, hl, hlen, hf⟩ := DataW.trod_array Tryd.underlying57 h
  have ce : Tryd.prog.cellsOf 57 = 2 := by kernel_rfl
  have c1 : Tryd.prog.cellsOf 5 = 1 := by kernel_rfl
  rw [ce] at hl
  match cs, hl, xs, hlen with
  | [v0, v1], _, [y0, y1], _ =>
    have g0 := hf 0 (by decide)
    have g1 := hf 1 (by decide)
    simp [c1] at g0 g1
    obtain ⟨s0, e0, _, w0⟩ := DataW.trod_int Tryd.underlying5 g0
    obtain ⟨s1, e1, _, w1⟩ := DataW.trod_int Tryd.underlying5 g1
    simp only [List.cons.injEq, and_true] at e0 e1
    have b0 := bounds_u8 w0
    have b1 := bounds_u8 w1
    exact ⟨(UInt8.ofNat s0.toNat, UInt8.ofNat s1.toNat), by rw [e0, e1, byte_of b0.1 b0.2, byte_of b1.1 b1.2]⟩
end
set_option maxRecDepth 100000 in
theorem open_b2 {H : Type} {enc : TypeId × Value → H} {w : World} {v : Value} {d : DataW H} {p : List MemPlace} {base : Nat} (hv : Value.okWide Tryd.prog w .any base 57 v)
    (h : DataW.Trod enc Tryd.prog w 0 (fun _ => true) true 57 v d p) : ∃ x y : UInt8, v = .agg #[.int .u8 (x.toNat : Int), .int .u8 (y.toNat : Int)] := by
  obtain ⟨cs, rfl⟩ : ∃ cs, v = .agg cs := by
    simp only [Value.okWide, Tryd.underlying57] at hv
    obtain ⟨cs, h1, _⟩ := hv
    exact ⟨cs, h1⟩
  obtain ⟨fuel, hf⟩ := h
  have hf' : DataW.trod enc Tryd.prog w 0 (fun _ => true) true fuel 57 cs.toList = some (d, p) := by simpa [Value.cells] using hf
  obtain ⟨q, hq⟩ := cells_b2 hf'
  refine ⟨q.1, q.2, ?_⟩
  have : cs = (cs.toList).toArray := by simp
  rw [this, hq]
set_option maxRecDepth 100000 in
theorem open_b2s {H : Type} {enc : TypeId × Value → H} {w : World} {v : Value} {d : DataW H} {p : List MemPlace} {base : Nat} (hv : Value.okWide Tryd.prog w .any base 56 v) (h : DataW.Trod enc Tryd.prog w 0 (fun _ => true) true 56 v d p) :
    ∃ ps : List (UInt8 × UInt8), ReadsB2 w v ps ∧ ps.length ≤ maxLen := by
  obtain ⟨a0, len0, cap0, rfl⟩ := okWide_slice Tryd.underlying56 hv
  obtain ⟨fuel, hf⟩ := h
  have hf' : DataW.trod enc Tryd.prog w 0 (fun _ => true) true fuel 56 [.slice a0 len0 cap0] = some (d, p) := by simpa [Value.cells] using hf
  rcases Go.Deep.open_slice Tryd.underlying56 hf' with ⟨hcs, hx⟩ | ⟨a, len, cap, m, n, D, Pl, hcs, hb, hl, hm, hmm, _, hx⟩
  · simp only [List.cons.injEq, and_true] at hcs
    rw [hcs]
    exact ⟨[], ⟨none, 0, rfl, fun j l h => by simp at h⟩, by simp⟩
  · simp only [List.cons.injEq, and_true] at hcs
    rw [hcs]
    simp only [if_true] at hmm
    subst hmm
    have ce : Tryd.prog.cellsOf 57 = 2 := by kernel_rfl
    have each : ∀ i, i < len → ∃ q : UInt8 × UInt8, w.cell? (a.add (i * 2)) = some (.int .u8 (q.1.toNat : Int)) ∧ w.cell? (a.add (i * 2 + 1)) = some (.int .u8 (q.2.toNat : Int)) := by
      intro i hi
      obtain ⟨cs', h1, h2⟩ := hx i (by omega)
      rw [ce] at h1
      obtain ⟨_, hlen, hcell⟩ := World.cells?_some h1
      obtain ⟨q, rfl⟩ := cells_b2 h2
      have e0 := hcell 0 (by omega)
      have e1 := hcell 1 (by omega)
      rw [Go.Deep.add_add] at e0 e1
      exact ⟨q, by simpa using e0, by simpa using e1⟩
    obtain ⟨q, hq⟩ := Go.Deep.choose_lt each
    have hlen : ((List.range len).map q).length = len := by simp
    refine ⟨(List.range len).map q, ⟨some a, m, by rw [hlen], fun j l hj => ?_⟩, ?_⟩
    · have hjl : j < len := by have := (List.getElem?_eq_some_iff.mp hj).1; omega
      have hj' : q j = l := by
        rw [List.getElem?_map, List.getElem?_range hjl] at hj
        exact Option.some.inj hj
      obtain ⟨c0, c1⟩ := hq j hjl
      obtain ⟨z0, _⟩ := hq 0 (by omega)
      obtain ⟨b, off, spot⟩ := a
      have hspot : spot = none := by simpa [Addr.add] using World.cell?_spot z0
      subst hspot
      have hlt : b < w.heap.size := by have := World.block_lt_of_cell? w _ z0; simpa [Addr.add] using this
      rw [Go.WideShapes.add_plain] at c0
      rw [Go.WideShapes.add_plain, ← Nat.add_assoc] at c1
      subst hj'
      exact ⟨b, off, rfl, hlt, c0, c1⟩
    · rw [hlen]; omega
end Go.Proofs.YtdcnoegnkopfdaaDoor
