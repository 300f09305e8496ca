/- Times, a moment, a slice of hops among the arguments, opened. -/
import Derived.Test.YtnbjkgkkefjaoaaCOpen
import Derived.Test.YtnbjkgkkefjaoaaZSeen
import Derived.Deep.SlicePairs
namespace Go.Proofs.Ytnbjkgkkefjaoaa
open Go.ChangeShapes Go.WideShapes Go.ChangeAt Go.RowKit

section
variable {H : Type} {enc : TypeId × Value → H} {w : World} {base : Nat} {spare : Nat → Bool} {held : Bool}
set_option maxRecDepth 100000 in
theorem cells_tm {fuel : Nat} {cs : List Value} {x : DataW H × List MemPlace} (h : DataW.trod enc Try.prog w base spare held fuel 52 cs = some x) :
    ∃ o n d : Int, cs = [.int .i64 o, .int .i64 n, .int .i64 d] := by
  obtain ⟨xs, m, _, _, hl, hlen, hf⟩ := DataW.trod_struct Try.underlying52 h
  have ce : Try.prog.cellsOf 52 = 3 := by kernel_rfl
  have c1 : Try.prog.cellsOf 3 = 1 := by kernel_rfl
  rw [ce] at hl
  match cs, hl, xs, hlen with
  | [v0, v1, v2], _, [y0, y1, y2], _ =>
    have g0 := hf 0 _ rfl
    have g1 := hf 1 _ rfl
    have g2 := hf 2 _ rfl
    simp [c1] at g0 g1 g2
    obtain ⟨s0, e0, _, w0⟩ := DataW.trod_int Try.underlying3 g0
    obtain ⟨s1, e1, _, w1⟩ := DataW.trod_int Try.underlying3 g1
    obtain ⟨s2, e2, _, w2⟩ := DataW.trod_int Try.underlying3 g2
    simp only [List.cons.injEq, and_true] at e0 e1 e2
    exact ⟨s0, s1, s2, by rw [e0, e1, e2]⟩
set_option maxRecDepth 100000 in
theorem cells_mo {fuel : Nat} {cs : List Value} {x : DataW H × List MemPlace} (h : DataW.trod enc Try.prog w base spare held fuel 54 cs = some x) :
    ∃ o n : Int, cs = [.int .i64 o, .int .i64 n] := by
  obtain ⟨xs, m, _, _, hl, hlen, hf⟩ := DataW.trod_struct Try.underlying54 h
  have ce : Try.prog.cellsOf 54 = 2 := by kernel_rfl
  have c1 : Try.prog.cellsOf 3 = 1 := by kernel_rfl
  rw [ce] at hl
  match cs, hl, xs, hlen with
  | [v0, v1], _, [y0, y1], _ =>
    have g0 := hf 0 _ rfl
    have g1 := hf 1 _ rfl
    simp [c1] at g0 g1
    obtain ⟨s0, e0, _, w0⟩ := DataW.trod_int Try.underlying3 g0
    obtain ⟨s1, e1, _, w1⟩ := DataW.trod_int Try.underlying3 g1
    simp only [List.cons.injEq, and_true] at e0 e1
    exact ⟨s0, s1, by rw [e0, e1]⟩
set_option maxRecDepth 100000 in
theorem cells_hp {fuel : Nat} {cs : List Value} {x : DataW H × List MemPlace} (h : DataW.trod enc Try.prog w base spare held fuel 70 cs = some x) :
    ∃ p : Hp, cs = [.int .u8 p.part, .bool p.slow, .int .u16 p.to, .int .u16 p.back, .int .u16 p.kept] ∧ p.Ok := by
  obtain ⟨xs, m, _, _, hl, hlen, hf⟩ := DataW.trod_struct Try.underlying70 h
  have ce : Try.prog.cellsOf 70 = 5 := by kernel_rfl
  have c1 : Try.prog.cellsOf 5 = 1 := by kernel_rfl
  have c2 : Try.prog.cellsOf 4 = 1 := by kernel_rfl
  have c3 : Try.prog.cellsOf 48 = 1 := by kernel_rfl
  rw [ce] at hl
  match cs, hl, xs, hlen with
  | [v0, v1, v2, v3, v4], _, [y0, y1, y2, y3, y4], _ =>
    have g0 := hf 0 _ rfl
    have g1 := hf 1 _ rfl
    have g2 := hf 2 _ rfl
    have g3 := hf 3 _ rfl
    have g4 := hf 4 _ rfl
    simp [c1, c2, c3] at g0 g1 g2 g3 g4
    obtain ⟨s0, e0, _, w0⟩ := DataW.trod_int Try.underlying5 g0
    obtain ⟨s1, e1, _⟩ := DataW.trod_bool Try.underlying4 g1
    obtain ⟨s2, e2, _, w2⟩ := DataW.trod_int Try.underlying48 g2
    obtain ⟨s3, e3, _, w3⟩ := DataW.trod_int Try.underlying48 g3
    obtain ⟨s4, e4, _, w4⟩ := DataW.trod_int Try.underlying48 g4
    simp only [List.cons.injEq, and_true] at e0 e1 e2 e3 e4
    exact ⟨⟨s0, s1, s2, s3, s4⟩, by rw [e0, e1, e2, e3, e4], bounds_u8 w0, bounds_u16 w2, bounds_u16 w3, bounds_u16 w4⟩
end
section
variable {H : Type} {enc : TypeId × Value → H} {w : World} {base : Nat} {v : Value} {d : DataW H} {p : List MemPlace}
theorem open_tm (hv : Value.okWide Try.prog w .any base 52 v) (h : DataW.Trod enc Try.prog w 0 (fun _ => true) true 52 v d p) : ∃ o n e : Int, v = tmV o n e := by
  obtain ⟨cs, rfl⟩ : ∃ cs, v = .agg cs := by
    simp only [Value.okWide, Try.underlying52] at hv
    obtain ⟨cs, h1, _⟩ := hv
    exact ⟨cs, h1⟩
  obtain ⟨fuel, hf⟩ := h
  obtain ⟨o, n, e, hq⟩ := cells_tm (show DataW.trod enc Try.prog w 0 (fun _ => true) true fuel 52 cs.toList = some (d, p) by simpa [Value.cells] using hf)
  exact ⟨o, n, e, by rw [show cs = (cs.toList).toArray by simp, hq]⟩
theorem open_mo (hv : Value.okWide Try.prog w .any base 54 v) (h : DataW.Trod enc Try.prog w 0 (fun _ => true) true 54 v d p) : ∃ o n : Int, v = moV o n := by
  obtain ⟨cs, rfl⟩ : ∃ cs, v = .agg cs := by
    simp only [Value.okWide, Try.underlying54] at hv
    obtain ⟨cs, h1, _⟩ := hv
    exact ⟨cs, h1⟩
  obtain ⟨fuel, hf⟩ := h
  obtain ⟨o, n, hq⟩ := cells_mo (show DataW.trod enc Try.prog w 0 (fun _ => true) true fuel 54 cs.toList = some (d, p) by simpa [Value.cells] using hf)
  exact ⟨o, n, by rw [show cs = (cs.toList).toArray by simp, hq]⟩
instance : Inhabited Hp := ⟨⟨0, false, 0, 0, 0⟩⟩
set_option maxRecDepth 100000 in
theorem open_hps (hv : Value.okWide Try.prog w .any base 68 v) (h : DataW.Trod enc Try.prog w 0 (fun _ => true) true 68 v d p) :
    ∃ hs : List Hp, ReadsH w v hs ∧ ∀ h ∈ hs, h.Ok := by
  obtain ⟨a0, len0, cap0, rfl⟩ := okWide_slice Try.underlying68 hv
  obtain ⟨fuel, hf⟩ := h
  have hf' : DataW.trod enc Try.prog w 0 (fun _ => true) true fuel 68 [.slice a0 len0 cap0] = some (d, p) := by simpa [Value.cells] using hf
  rcases Go.Deep.open_slice Try.underlying68 hf' with ⟨hcs, hx⟩ | ⟨a, len, cap, m, n, D, Pl, hcs, hb, hl, hm, hmm, _, hx⟩
  · simp only [List.cons.injEq, and_true] at hcs
    rw [hcs]
    exact ⟨[], ⟨none, 0, rfl, fun j l h => by simp at h⟩, by simp⟩
  · simp only [List.cons.injEq, and_true] at hcs
    rw [hcs]
    simp only [if_true] at hmm
    subst hmm
    have ce : Try.prog.cellsOf 70 = 5 := by kernel_rfl
    have each : ∀ i, i < len → ∃ q : Hp, (w.cell? (a.add (i * 5)) = some (.int .u8 q.part) ∧ w.cell? (a.add (i * 5 + 1)) = some (.bool q.slow) ∧ w.cell? (a.add (i * 5 + 2)) = some (.int .u16 q.to) ∧ w.cell? (a.add (i * 5 + 3)) = some (.int .u16 q.back) ∧ w.cell? (a.add (i * 5 + 4)) = some (.int .u16 q.kept)) ∧ q.Ok := by
      intro i hi
      obtain ⟨cs', h1, h2⟩ := hx i (by omega)
      rw [ce] at h1
      obtain ⟨_, hlen, hcell⟩ := World.cells?_some h1
      obtain ⟨q, rfl, hq⟩ := cells_hp h2
      have e0 := hcell 0 (by omega)
      have e1 := hcell 1 (by omega)
      have e2 := hcell 2 (by omega)
      have e3 := hcell 3 (by omega)
      have e4 := hcell 4 (by omega)
      rw [Go.Deep.add_add] at e0 e1 e2 e3 e4
      exact ⟨q, ⟨by simpa using e0, by simpa using e1, by simpa using e2, by simpa using e3, by simpa using e4⟩, hq⟩
    obtain ⟨q, hq⟩ := Go.Deep.choose_lt each
    have hlen : ((List.range len).map q).length = len := by simp
    refine ⟨(List.range len).map q, ⟨some a, m, by rw [hlen], fun j l hj => ?_⟩, ?_⟩
    · have hjl : j < len := by have := (List.getElem?_eq_some_iff.mp hj).1; omega
      have hj' : q j = l := by
        rw [List.getElem?_map, List.getElem?_range hjl] at hj
        exact Option.some.inj hj
      obtain ⟨⟨c0, c1, c2, c3, c4⟩, _⟩ := hq j hjl
      obtain ⟨⟨z0, _⟩, _⟩ := hq 0 (by omega)
      obtain ⟨b, off, spot⟩ := a
      have hspot : spot = none := by simpa [Addr.add] using World.cell?_spot z0
      subst hspot
      have hlt : b < w.heap.size := by have := World.block_lt_of_cell? w _ z0; simpa [Addr.add] using this
      rw [Go.WideShapes.add_plain] at c0 c1 c2 c3 c4
      rw [← Nat.add_assoc] at c1 c2 c3 c4
      subst hj'
      exact ⟨b, off, rfl, hlt, c0, c1, c2, c3, c4⟩
    · intro x hx
      obtain ⟨i, hi, rfl⟩ := List.mem_map.mp hx
      exact (hq i (List.mem_range.mp hi)).2
end
end Go.Proofs.Ytnbjkgkkefjaoaa
