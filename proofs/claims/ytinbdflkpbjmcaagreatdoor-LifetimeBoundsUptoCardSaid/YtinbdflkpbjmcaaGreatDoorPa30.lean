import Derived.Test.YtinbdflkpbjmcaaGreatDoorPa29
import Derived.Test.YtinbdflkpbjmcaaGreatDoorPa20
import Derived.Deep.SlicePairs
import Derived.Carry
/- A slice of the reference's fields (with its bulk), dates, ages among the arguments, opened. -/
namespace Go.Proofs.YtinbdflkpbjmcaaGreatDoor
open Go.ChangeShapes Go.WideShapes Go.ChangeAt Go.RowKit
open Go.ChangeMaps (shut_string open_string)

theorem laidOut : laidOutB Tryz.prog = true := by kernel_rfl
theorem bulkL_part {H : Type} {d : DataW H} {l : List (DataW H)} (h : d ∈ l) : Rows.uptoBulk d ≤ Rows.uptoBulkAll l := by
  induction l with
  | nil => cases h
  | cons x r ih =>
    simp only [Rows.uptoBulkAll]
    rcases List.mem_cons.1 h with e | e
    · subst e; omega
    · have := ih e; omega
theorem bulkL_bound {H : Type} {l : List (DataW H)} (hk : Rows.uptoSmall H l = true) : Rows.uptoBulkAll l ≤ 1048576 := of_decide_eq_true hk
theorem bulkL_elems {H : Type} (elems spare : List (DataW H)) : Rows.uptoBulkAll elems ≤ Rows.uptoBulk (.slice elems spare) := by
  simp only [Rows.uptoBulk]; omega
theorem bulkL_pairs {H : Type} (q : Nat → ByteArray × ByteArray) (D0 D1 : Nat → DataW H) : ∀ L : List Nat, (∀ i ∈ L, D0 i = .lit (.string (q i).1.data.toList) ∧ D1 i = .lit (.string (q i).2.data.toList)) →
    3 * L.length + totL (L.map fun i => ((q i).1.data.toList, (q i).2.data.toList)) ≤ Rows.uptoBulkAll (L.map fun i => DataW.agg [D0 i, D1 i])
  | [], _ => by simp [totL]
  | i :: r, h => by
    have ih := bulkL_pairs q D0 D1 r (fun j hj => h j (List.mem_cons_of_mem _ hj))
    obtain ⟨e0, e1⟩ := h i (List.mem_cons_self ..)
    rw [List.map_cons, List.map_cons, Rows.uptoBulkAll]
    have e : Rows.uptoBulk (DataW.agg [D0 i, D1 i]) = (q i).1.data.toList.length + 1 + ((q i).2.data.toList.length + 1 + 0) + 1 := by
      rw [e0, e1]; simp only [Rows.uptoBulk, Rows.uptoBulkAll]
    have e2 : totL (((q i).1.data.toList, (q i).2.data.toList) :: r.map fun i => ((q i).1.data.toList, (q i).2.data.toList)) = (q i).1.data.toList.length + (q i).2.data.toList.length + totL (r.map fun i => ((q i).1.data.toList, (q i).2.data.toList)) := rfl
    rw [e2, e, List.length_cons]
    omega
set_option maxRecDepth 100000 in
/-- A slice of the reference's fields among the arguments. -/
theorem open_flds {H : Type} {enc : TypeId × Value → H} {w : World} {v : Value} {d : DataW H} {p : List MemPlace} {base : Nat} (hv : Value.okWide Tryz.prog w .any base 22 v)
    (h : DataW.Trod enc Tryz.prog w 0 (fun _ => true) true 22 v d p) :
    ∃ ps : List (List UInt8 × List UInt8), ReadsQ w v ps ∧ 2 * ps.length + totL ps ≤ Rows.uptoBulk d := by
  obtain ⟨a0, len, cap, rfl⟩ := okWide_slice Tryz.underlying22 hv
  obtain ⟨fuel, hf⟩ := h
  rcases Go.Deep.open_slice_pairs Tryz.underlying22 Tryz.underlying58 (by kernel_rfl) rfl rfl (by kernel_rfl) (by kernel_rfl) (by simpa [Value.cells] using hf) with ⟨hcs, hx⟩ | ⟨a, len', cap', m, n, V0, V1, D0, D1, P0, P1, hcs, _, hl, hm, hmm, hx, hall⟩
  · simp only [List.cons.injEq, Value.slice.injEq, and_true] at hcs
    obtain ⟨rfl, rfl, rfl⟩ := hcs
    exact ⟨[], ⟨none, 0, rfl, fun j l h => by simp at h⟩, by simp [totL]⟩
  · simp only [List.cons.injEq, Value.slice.injEq, and_true] at hcs
    obtain ⟨rfl, rfl, rfl⟩ := hcs
    simp only [Prod.mk.injEq] at hx
    obtain ⟨rfl, _⟩ := hx
    simp only [if_true] at hmm
    subst hmm
    have each : ∀ i, i < len → ∃ q : ByteArray × ByteArray, V0 i = .string q.1 ∧ V1 i = .string q.2 ∧ D0 i = .lit (.string q.1.data.toList) ∧ D1 i = .lit (.string q.2.data.toList) := by
      intro i hi
      obtain ⟨_, _, t0, t1⟩ := hall i (by omega)
      obtain ⟨s0, e0, f0, _⟩ := DataW.trod_string Tryz.underlying9 t0
      obtain ⟨s1, e1, f1, _⟩ := DataW.trod_string Tryz.underlying9 t1
      simp only [List.cons.injEq, and_true, Prod.mk.injEq] at e0 e1 f0 f1
      exact ⟨(s0, s1), e0, e1, f0.1, f1.1⟩
    obtain ⟨q, hq⟩ := Go.Deep.choose_lt each
    have hlen : ((List.range len).map fun i => ((q i).1.data.toList, (q i).2.data.toList)).length = len := by simp
    have hbk := bulkL_pairs (H := H) q D0 D1 (List.range len) (fun i hi => ⟨(hq i (List.mem_range.mp hi)).2.2.1, (hq i (List.mem_range.mp hi)).2.2.2⟩)
    rw [List.length_range] at hbk
    refine ⟨(List.range len).map fun i => ((q i).1.data.toList, (q i).2.data.toList), ⟨some a, m, by rw [hlen], fun j l hj => ?_⟩, ?_⟩
    · have hjl : j < len := by have := (List.getElem?_eq_some_iff.mp hj).1; omega
      have hj' : ((q j).1.data.toList, (q j).2.data.toList) = l := by
        rw [List.getElem?_map, List.getElem?_range hjl] at hj
        exact Option.some.inj hj
      obtain ⟨c0, c1, _, _⟩ := hall j (by omega)
      obtain ⟨v0, v1, _, _⟩ := hq j hjl
      obtain ⟨z0, _, _, _⟩ := hall 0 (by omega)
      obtain ⟨b, off, spot⟩ := a
      have hspot : spot = none := by simpa [Addr.add] using World.cell?_spot z0
      subst hspot
      have hlt : b < w.heap.size := by have := World.block_lt_of_cell? w _ z0; simpa [Addr.add] using this
      rw [v0, Go.WideShapes.add_plain] at c0
      rw [v1, Go.WideShapes.add_plain, ← Nat.add_assoc] at c1
      subst hj'
      exact ⟨b, off, rfl, hlt, by rw [strB_of]; exact c0, by rw [strB_of]; exact c1⟩
    · rw [hlen]
      refine Nat.le_trans ?_ (bulkL_elems _ _)
      omega
section
variable {H : Type} {enc : TypeId × Value → H} {w : World} {base : Nat} {spare : Nat → Bool} {held : Bool}
set_option maxRecDepth 100000 in
theorem cells_dt {fuel : Nat} {cs : List Value} {x : DataW H × List MemPlace} (h : DataW.trod enc Tryz.prog w base spare held fuel 37 cs = some x) :
    ∃ o n d : Int, cs = [.int .i64 o, .int .i64 n, .int .i64 d] := by
  obtain ⟨xs, m, _, _, hl, hlen, hf⟩ := DataW.trod_struct Tryz.underlying37 h
  have ce : Tryz.prog.cellsOf 37 = 3 := by kernel_rfl
  have c1 : Tryz.prog.cellsOf 3 = 1 := by kernel_rfl
  rw [ce] at hl
  match cs, hl, xs, hlen with
  | [v0, v1, v2], _, [y0, y1, y2], _ =>
    have g0 := hf 0 _ rfl
    have g1 := hf 1 _ rfl
    have g2 := hf 2 _ rfl
    simp [c1] at g0 g1 g2
    obtain ⟨s0, e0, _, w0⟩ := DataW.trod_int Tryz.underlying3 g0
    obtain ⟨s1, e1, _, w1⟩ := DataW.trod_int Tryz.underlying3 g1
    obtain ⟨s2, e2, _, w2⟩ := DataW.trod_int Tryz.underlying3 g2
    simp only [List.cons.injEq, and_true] at e0 e1 e2
    exact ⟨s0, s1, s2, by rw [e0, e1, e2]⟩
set_option maxRecDepth 100000 in
theorem cells_u16s {fuel : Nat} {cs : List Value} {x : DataW H × List MemPlace} (h : DataW.trod enc Tryz.prog w base spare held fuel 43 cs = some x) :
    ∃ a b : Int, cs = [.int .u16 a, .int .u16 b] ∧ (0 ≤ a ∧ a ≤ 65535) ∧ (0 ≤ b ∧ b ≤ 65535) := by
  obtain ⟨xs, m, _, _, hl, hlen, hf⟩ := DataW.trod_array Tryz.underlying43 h
  have ce : Tryz.prog.cellsOf 43 = 2 := by kernel_rfl
  have c1 : Tryz.prog.cellsOf 42 = 1 := by kernel_rfl
  rw [ce] at hl
  match cs, hl, xs, hlen with
  | [v0, v1], _, [y0, y1], _ =>
    have g0 := hf 0 (by decide)
    have g1 := hf 1 (by decide)
    simp [c1] at g0 g1
    obtain ⟨s0, e0, _, w0⟩ := DataW.trod_int Tryz.underlying42 g0
    obtain ⟨s1, e1, _, w1⟩ := DataW.trod_int Tryz.underlying42 g1
    simp only [List.cons.injEq, and_true] at e0 e1
    exact ⟨s0, s1, by rw [e0, e1], bounds_u16 w0, bounds_u16 w1⟩
end
section
variable {H : Type} {enc : TypeId × Value → H} {w : World} {base : Nat} {v : Value} {d : DataW H} {p : List MemPlace}
set_option maxRecDepth 100000 in
theorem open_dt (hv : Value.okWide Tryz.prog w .any base 37 v) (h : DataW.Trod enc Tryz.prog w 0 (fun _ => true) true 37 v d p) : ∃ o n e : Int, v = .agg #[.int .i64 o, .int .i64 n, .int .i64 e] := by
  obtain ⟨cs, rfl⟩ : ∃ cs, v = .agg cs := by
    simp only [Value.okWide, Tryz.underlying37] at hv
    obtain ⟨cs, h1, _⟩ := hv
    exact ⟨cs, h1⟩
  obtain ⟨fuel, hf⟩ := h
  obtain ⟨o, n, e, hq⟩ := cells_dt (show DataW.trod enc Tryz.prog w 0 (fun _ => true) true fuel 37 cs.toList = some (d, p) by simpa [Value.cells] using hf)
  exact ⟨o, n, e, by rw [show cs = (cs.toList).toArray by simp, hq]⟩
set_option maxRecDepth 100000 in
theorem open_u16s (hv : Value.okWide Tryz.prog w .any base 43 v) (h : DataW.Trod enc Tryz.prog w 0 (fun _ => true) true 43 v d p) : ∃ a b : Int, v = .agg #[.int .u16 a, .int .u16 b] ∧ (0 ≤ a ∧ a ≤ 65535) ∧ (0 ≤ b ∧ b ≤ 65535) := by
  obtain ⟨cs, rfl⟩ : ∃ cs, v = .agg cs := by
    simp only [Value.okWide, Tryz.underlying43] at hv
    obtain ⟨cs, h1, _⟩ := hv
    exact ⟨cs, h1⟩
  obtain ⟨fuel, hf⟩ := h
  obtain ⟨a, b, hq, ha, hb⟩ := cells_u16s (show DataW.trod enc Tryz.prog w 0 (fun _ => true) true fuel 43 cs.toList = some (d, p) by simpa [Value.cells] using hf)
  exact ⟨a, b, by rw [show cs = (cs.toList).toArray by simp, hq], ha, hb⟩
end
end Go.Proofs.YtinbdflkpbjmcaaGreatDoor
