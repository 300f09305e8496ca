/- Slices of strings, of fields, steps and slices of steps among the arguments, opened. -/
import Derived.Test.YtbmbcdbldbjddaaCRow
import Derived.Test.YtbmbcdbldbjddaaVyStep
import Derived.Deep.DeepHandedRow
import Derived.Deep.SlicePairs
import Derived.Deep.Slices
import Derived.Carry
namespace Go.Proofs.Ytbmbcdbldbjddaa
open Go.ChangeShapes Go.WideShapes Go.ChangeAt Go.RowKit
open Go.ChangeMaps (shut_string open_string)

theorem laidOut : laidOutB Try.prog = true := by kernel_rfl
theorem bulkL_part {H : Type} {d : DataW H} {l : List (DataW H)} (h : d ∈ l) : Rows.uptoBulk d ≤ Rows.uptoBulkAll l := by
  induction l with
  | nil => cases h
  | cons x r ih =>
    simp only [Rows.uptoBulkAll]
    rcases List.mem_cons.1 h with e | e
    · subst e; omega
    · have := ih e; omega
theorem bulkL_bound {H : Type} {l : List (DataW H)} (hk : Rows.uptoSmall H l = true) : Rows.uptoBulkAll l ≤ 1048576 := of_decide_eq_true hk
theorem bulkL_elems {H : Type} (elems spare : List (DataW H)) : Rows.uptoBulkAll elems ≤ Rows.uptoBulk (.slice elems spare) := by
  simp only [Rows.uptoBulk]; omega
theorem bulkL_pos {H : Type} (d : DataW H) : 1 ≤ Rows.uptoBulk d := by
  cases d with
  | lit l => cases l <;> simp [Rows.uptoBulk]
  | _ => simp [Rows.uptoBulk]
theorem bulkL_len {H : Type} (l : List (DataW H)) : l.length ≤ Rows.uptoBulkAll l := by
  induction l with
  | nil => simp
  | cons x r ih =>
    have h := bulkL_pos x
    simp only [Rows.uptoBulkAll, List.length_cons]
    omega
theorem bulkL_pairs {H : Type} (q : Nat → ByteArray × ByteArray) (D0 D1 : Nat → DataW H) : ∀ L : List Nat, (∀ i ∈ L, D0 i = .lit (.string (q i).1.data.toList) ∧ D1 i = .lit (.string (q i).2.data.toList)) →
    3 * L.length + totL (L.map fun i => ((q i).1.data.toList, (q i).2.data.toList)) ≤ Rows.uptoBulkAll (L.map fun i => DataW.agg [D0 i, D1 i])
  | [], _ => by simp [totL]
  | i :: r, h => by
    have ih := bulkL_pairs q D0 D1 r (fun j hj => h j (List.mem_cons_of_mem _ hj))
    obtain ⟨e0, e1⟩ := h i (List.mem_cons_self ..)
    rw [List.map_cons, List.map_cons, Rows.uptoBulkAll]
    have e : Rows.uptoBulk (DataW.agg [D0 i, D1 i]) = (q i).1.data.toList.length + 1 + ((q i).2.data.toList.length + 1 + 0) + 1 := by
      rw [e0, e1]; simp only [Rows.uptoBulk, Rows.uptoBulkAll]
    have e2 : totL (((q i).1.data.toList, (q i).2.data.toList) :: r.map fun i => ((q i).1.data.toList, (q i).2.data.toList)) = (q i).1.data.toList.length + (q i).2.data.toList.length + totL (r.map fun i => ((q i).1.data.toList, (q i).2.data.toList)) := rfl
    rw [e2, e, List.length_cons]
    omega
theorem bulkL_strs {H : Type} (q : Nat → ByteArray) (D : Nat → DataW H) : ∀ L : List Nat, (∀ i ∈ L, D i = .lit (.string (q i).data.toList)) →
    L.length + sumL (L.map fun i => (q i).data.toList) ≤ Rows.uptoBulkAll (L.map D)
  | [], _ => by simp [sumL]
  | i :: r, h => by
    have ih := bulkL_strs q D r (fun j hj => h j (List.mem_cons_of_mem _ hj))
    have e0 := h i (List.mem_cons_self ..)
    rw [List.map_cons, List.map_cons, Rows.uptoBulkAll]
    have e : Rows.uptoBulk (D i) = (q i).data.toList.length + 1 := by rw [e0]; simp only [Rows.uptoBulk]
    have e2 : sumL ((q i).data.toList :: r.map fun i => (q i).data.toList) = (q i).data.toList.length + sumL (r.map fun i => (q i).data.toList) := rfl
    rw [e2, e, List.length_cons]
    omega
set_option maxRecDepth 100000 in
theorem open_fl {H : Type} {enc : TypeId × Value → H} {w : World} {v : Value} {d : DataW H} {p : List MemPlace} (h : ∃ fuel, DataW.trod enc Try.prog w 0 (fun _ => true) true fuel 23 [v] = some (d, p)) :
    ∃ (ps : List (List UInt8 × List UInt8)) (a : Option Addr) (c : Nat), v = .slice a ps.length c ∧ ReadsQ w v ps ∧ Sane v ∧ 2 * ps.length + totL ps ≤ Rows.uptoBulk d := by
  obtain ⟨fuel, hf⟩ := h
  rcases Go.Deep.open_slice_pairs Try.underlying23 Try.underlying34 (by kernel_rfl) rfl rfl (by kernel_rfl) (by kernel_rfl) hf with ⟨hcs, hx⟩ | ⟨a, len, cap, m, n, V0, V1, D0, D1, P0, P1, hcs, _, hl, hm, hmm, hx, hall⟩
  · simp only [List.cons.injEq, and_true] at hcs
    subst hcs
    exact ⟨[], none, 0, rfl, ⟨none, 0, rfl, fun j l h => by simp at h⟩, fun a n c e => by cases e; exact ⟨Nat.le_refl _, fun _ => rfl⟩, by simp [totL]⟩
  · simp only [List.cons.injEq, and_true] at hcs
    subst hcs
    simp only [Prod.mk.injEq] at hx
    obtain ⟨rfl, _⟩ := hx
    simp only [if_true] at hmm
    subst hmm
    have each : ∀ i, i < len → ∃ q : ByteArray × ByteArray, V0 i = .string q.1 ∧ V1 i = .string q.2 ∧ D0 i = .lit (.string q.1.data.toList) ∧ D1 i = .lit (.string q.2.data.toList) := by
      intro i hi
      obtain ⟨_, _, t0, t1⟩ := hall i (by omega)
      obtain ⟨s0, e0, f0, _⟩ := DataW.trod_string Try.underlying9 t0
      obtain ⟨s1, e1, f1, _⟩ := DataW.trod_string Try.underlying9 t1
      simp only [List.cons.injEq, and_true, Prod.mk.injEq] at e0 e1 f0 f1
      exact ⟨(s0, s1), e0, e1, f0.1, f1.1⟩
    obtain ⟨q, hq⟩ := Go.Deep.choose_lt each
    have hlen : ((List.range len).map fun i => ((q i).1.data.toList, (q i).2.data.toList)).length = len := by simp
    have hbk := bulkL_pairs (H := H) q D0 D1 (List.range len) (fun i hi => ⟨(hq i (List.mem_range.mp hi)).2.2.1, (hq i (List.mem_range.mp hi)).2.2.2⟩)
    rw [List.length_range] at hbk
    refine ⟨(List.range len).map fun i => ((q i).1.data.toList, (q i).2.data.toList), some a, m, by rw [hlen], ⟨some a, m, by rw [hlen], fun j l hj => ?_⟩, fun a' n' c' e => by cases e; exact ⟨hl, fun h => by cases h⟩, ?_⟩
    · have hjl : j < len := by have := (List.getElem?_eq_some_iff.mp hj).1; omega
      have hj' : ((q j).1.data.toList, (q j).2.data.toList) = l := by
        rw [List.getElem?_map, List.getElem?_range hjl] at hj
        exact Option.some.inj hj
      obtain ⟨c0, c1, _, _⟩ := hall j (by omega)
      obtain ⟨v0, v1, _, _⟩ := hq j hjl
      obtain ⟨z0, _, _, _⟩ := hall 0 (by omega)
      obtain ⟨b, off, spot⟩ := a
      have hspot : spot = none := by simpa [Addr.add] using World.cell?_spot z0
      subst hspot
      have hlt : b < w.heap.size := by have := World.block_lt_of_cell? w _ z0; simpa [Addr.add] using this
      rw [v0, Go.WideShapes.add_plain] at c0
      rw [v1, Go.WideShapes.add_plain, ← Nat.add_assoc] at c1
      subst hj'
      exact ⟨b, off, rfl, hlt, by rw [strB_of]; exact c0, by rw [strB_of]; exact c1⟩
    · rw [hlen]
      refine Nat.le_trans ?_ (bulkL_elems _ _)
      omega
set_option maxRecDepth 100000 in
theorem open_st {H : Type} {enc : TypeId × Value → H} {w : World} {v : Value} {d : DataW H} {p : List MemPlace} (h : ∃ fuel, DataW.trod enc Try.prog w 0 (fun _ => true) true fuel 22 [v] = some (d, p)) :
    ∃ (ns : List (List UInt8)) (a : Option Addr) (c : Nat), v = .slice a ns.length c ∧ ReadsS w v ns ∧ ns.length + sumL ns ≤ Rows.uptoBulk d := by
  obtain ⟨fuel, hf⟩ := h
  rcases Go.Deep.open_slice1 Try.underlying22 (by kernel_rfl) hf with ⟨hcs, hx⟩ | ⟨a, len, cap, m, n, V, D, Pl, hcs, _, hl, hm, hmm, hx, hall⟩
  · simp only [List.cons.injEq, and_true] at hcs
    subst hcs
    exact ⟨[], none, 0, rfl, ⟨none, 0, rfl, fun j l h => by simp at h⟩, by simp [sumL]⟩
  · simp only [List.cons.injEq, and_true] at hcs
    subst hcs
    simp only [Prod.mk.injEq] at hx
    obtain ⟨rfl, _⟩ := hx
    simp only [if_true] at hmm
    subst hmm
    have each : ∀ i, i < len → ∃ q : ByteArray, V i = .string q ∧ D i = .lit (.string q.data.toList) := by
      intro i hi
      obtain ⟨_, t0⟩ := hall i (by omega)
      obtain ⟨s0, e0, f0, _⟩ := DataW.trod_string Try.underlying9 t0
      simp only [List.cons.injEq, and_true, Prod.mk.injEq] at e0 f0
      exact ⟨s0, e0, f0.1⟩
    obtain ⟨q, hq⟩ := Go.Deep.choose_lt each
    have hlen : ((List.range len).map fun i => (q i).data.toList).length = len := by simp
    have hbk := bulkL_strs (H := H) q D (List.range len) (fun i hi => (hq i (List.mem_range.mp hi)).2)
    rw [List.length_range] at hbk
    refine ⟨(List.range len).map fun i => (q i).data.toList, some a, m, by rw [hlen], ⟨some a, m, by rw [hlen], fun j l hj => ?_⟩, ?_⟩
    · have hjl : j < len := by have := (List.getElem?_eq_some_iff.mp hj).1; omega
      have hj' : (q j).data.toList = l := by
        rw [List.getElem?_map, List.getElem?_range hjl] at hj
        exact Option.some.inj hj
      obtain ⟨c0, _⟩ := hall j (by omega)
      obtain ⟨v0, _⟩ := hq j hjl
      obtain ⟨z0, _⟩ := hall 0 (by omega)
      obtain ⟨b, off, spot⟩ := a
      have hspot : spot = none := by simpa [Addr.add] using World.cell?_spot z0
      subst hspot
      have hlt : b < w.heap.size := by have := World.block_lt_of_cell? w _ z0; simpa [Addr.add] using this
      rw [v0, Go.WideShapes.add_plain] at c0
      subst hj'
      exact ⟨b, off, rfl, hlt, by rw [strB_of]; exact c0⟩
    · rw [hlen]
      exact Nat.le_trans hbk (bulkL_elems _ _)
section
variable {H : Type} {enc : TypeId × Value → H} {w : World} {v : Value} {d : DataW H} {p : List MemPlace} {base : Nat}
set_option maxRecDepth 100000 in
theorem open_flds (hv : Value.okWide Try.prog w .any base 23 v) (h : DataW.Trod enc Try.prog w 0 (fun _ => true) true 23 v d p) :
    ∃ (ps : List (List UInt8 × List UInt8)) (a : Option Addr) (c : Nat), v = .slice a ps.length c ∧ ReadsQ w v ps ∧ Sane v ∧ 2 * ps.length + totL ps ≤ Rows.uptoBulk d := by
  obtain ⟨a0, len, cap, rfl⟩ := okWide_slice Try.underlying23 hv
  obtain ⟨fuel, hf⟩ := h
  exact open_fl ⟨fuel, by simpa [Value.cells] using hf⟩
set_option maxRecDepth 100000 in
theorem open_strs (hv : Value.okWide Try.prog w .any base 22 v) (h : DataW.Trod enc Try.prog w 0 (fun _ => true) true 22 v d p) :
    ∃ (ns : List (List UInt8)) (a : Option Addr) (c : Nat), v = .slice a ns.length c ∧ ReadsS w v ns ∧ ns.length + sumL ns ≤ Rows.uptoBulk d := by
  obtain ⟨a0, len, cap, rfl⟩ := okWide_slice Try.underlying22 hv
  obtain ⟨fuel, hf⟩ := h
  exact open_st ⟨fuel, by simpa [Value.cells] using hf⟩
end
section
variable {H : Type} {enc : TypeId × Value → H} {w : World}
set_option maxRecDepth 100000 in
theorem cells_stp {fuel : Nat} {cs : List Value} {d : DataW H} {p : List MemPlace} (h : DataW.trod enc Try.prog w 0 (fun _ => true) true fuel 45 cs = some (d, p)) :
    ∃ (s : Stp) (na : Option Addr) (nc : Nat) (fa : Option Addr) (fc : Nat), cs = [.int .u8 s.what, .slice na s.ns.length nc, .slice fa s.ps.length fc, .int .i8 s.id] ∧ ReadsS w (.slice na s.ns.length nc) s.ns ∧ ReadsQ w (.slice fa s.ps.length fc) s.ps ∧ s.Ok ∧ s.ns.length + sumL s.ns ≤ Rows.uptoBulk d ∧ 2 * s.ps.length + totL s.ps ≤ Rows.uptoBulk d := by
  obtain ⟨xs, m, _, hx, hl, hlen, hf⟩ := DataW.trod_struct Try.underlying45 h
  have ce : Try.prog.cellsOf 45 = 4 := by kernel_rfl
  have c1 : Try.prog.cellsOf 5 = 1 := by kernel_rfl
  have c2 : Try.prog.cellsOf 22 = 1 := by kernel_rfl
  have c3 : Try.prog.cellsOf 23 = 1 := by kernel_rfl
  have c4 : Try.prog.cellsOf 43 = 1 := by kernel_rfl
  rw [ce] at hl
  match cs, hl, xs, hlen, hx with
  | [v0, v1, v2, v3], _, [y0, y1, y2, y3], _, hx =>
    have g0 := hf 0 _ rfl
    have g1 := hf 1 _ rfl
    have g2 := hf 2 _ rfl
    have g3 := hf 3 _ rfl
    simp [c1, c2, c3, c4] at g0 g1 g2 g3
    obtain ⟨s0, e0, _, w0⟩ := DataW.trod_int Try.underlying5 g0
    obtain ⟨ns, na, nc, e1, r1, u1⟩ := open_st ⟨m, g1⟩
    obtain ⟨ps, fa, fc, e2, r2, _, u2⟩ := open_fl ⟨m, g2⟩
    obtain ⟨s3, e3, _, w3⟩ := DataW.trod_int Try.underlying43 g3
    simp only [List.cons.injEq, and_true] at e0 e3
    subst e1 e2
    have hd := congrArg Prod.fst hx
    simp only [List.map_cons, List.map_nil] at hd
    have hb : Rows.uptoBulk d = Rows.uptoBulk y0.1 + (Rows.uptoBulk y1.1 + (Rows.uptoBulk y2.1 + (Rows.uptoBulk y3.1 + 0))) + 1 := by
      rw [hd]; simp only [Rows.uptoBulk, Rows.uptoBulkAll]
    exact ⟨⟨s0, ns, ps, s3⟩, na, nc, fa, fc, by rw [e0, e3], r1, r2, ⟨bounds_u8 w0, bounds_i8 w3⟩, by show ns.length + sumL ns ≤ _; omega, by show 2 * ps.length + totL ps ≤ _; omega⟩
end
section
variable {H : Type} {enc : TypeId × Value → H} {w : World} {v : Value} {d : DataW H} {p : List MemPlace} {base : Nat}
set_option maxRecDepth 100000 in
theorem open_step (hv : Value.okWide Try.prog w .any base 45 v) (h : DataW.Trod enc Try.prog w 0 (fun _ => true) true 45 v d p) :
    ∃ (s : Stp) (na : Option Addr) (nc : Nat) (fa : Option Addr) (fc : Nat), v = .agg #[.int .u8 s.what, .slice na s.ns.length nc, .slice fa s.ps.length fc, .int .i8 s.id] ∧ ReadsS w (.slice na s.ns.length nc) s.ns ∧ ReadsQ w (.slice fa s.ps.length fc) s.ps ∧ s.Ok ∧ s.ns.length + sumL s.ns ≤ Rows.uptoBulk d ∧ 2 * s.ps.length + totL s.ps ≤ Rows.uptoBulk d := by
  obtain ⟨cs, rfl⟩ : ∃ cs, v = .agg cs := by
    simp only [Value.okWide, Try.underlying45] at hv
    obtain ⟨cs, h1, _⟩ := hv
    exact ⟨cs, h1⟩
  obtain ⟨fuel, hf⟩ := h
  obtain ⟨s, na, nc, fa, fc, hq, r⟩ := cells_stp (show DataW.trod enc Try.prog w 0 (fun _ => true) true fuel 45 cs.toList = some (d, p) by simpa [Value.cells] using hf)
  exact ⟨s, na, nc, fa, fc, by rw [show cs = (cs.toList).toArray by simp, hq], r⟩
instance : Inhabited Stp := ⟨⟨0, [], [], 0⟩⟩
theorem bulkL_each {H : Type} (B : Nat → Nat) (D : Nat → DataW H) : ∀ L : List Nat, (∀ i ∈ L, B i ≤ Rows.uptoBulk (D i)) → ∀ i ∈ L, B i ≤ Rows.uptoBulkAll (L.map D) := by
  intro L h i hi
  exact Nat.le_trans (h i hi) (bulkL_part (List.mem_map.mpr ⟨i, hi, rfl⟩))
set_option maxRecDepth 100000 in
theorem open_steps (hv : Value.okWide Try.prog w .any base 39 v) (h : DataW.Trod enc Try.prog w 0 (fun _ => true) true 39 v d p) :
    ∃ (ss : List Stp) (a : Option Addr) (c : Nat), v = .slice a ss.length c ∧ ReadsT w v ss ∧ (∀ s ∈ ss, s.Ok ∧ s.ns.length + sumL s.ns ≤ Rows.uptoBulk d ∧ 2 * s.ps.length + totL s.ps ≤ Rows.uptoBulk d) ∧ ss.length ≤ Rows.uptoBulk d := by
  obtain ⟨a0, len0, cap0, rfl⟩ := okWide_slice Try.underlying39 hv
  obtain ⟨fuel, hf⟩ := h
  have hf' : DataW.trod enc Try.prog w 0 (fun _ => true) true fuel 39 [.slice a0 len0 cap0] = some (d, p) := by simpa [Value.cells] using hf
  rcases Go.Deep.open_slice Try.underlying39 hf' with ⟨hcs, hx⟩ | ⟨a, len, cap, m, n, D, Pl, hcs, hb, hl, hm, hmm, hxx, hx⟩
  · simp only [List.cons.injEq, and_true] at hcs
    rw [hcs]
    exact ⟨[], none, 0, rfl, ⟨none, 0, rfl, fun j l h => by simp at h⟩, by simp, by simp⟩
  · simp only [List.cons.injEq, and_true] at hcs
    rw [hcs]
    simp only [Prod.mk.injEq] at hxx
    obtain ⟨rfl, _⟩ := hxx
    simp only [if_true] at hmm
    subst hmm
    have ce : Try.prog.cellsOf 45 = 4 := by kernel_rfl
    have each : ∀ i, i < len → ∃ q : Stp, (∃ na nc fa fc, (w.cell? (a.add (i * 4)) = some (.int .u8 q.what) ∧ w.cell? (a.add (i * 4 + 1)) = some (.slice na q.ns.length nc) ∧ w.cell? (a.add (i * 4 + 2)) = some (.slice fa q.ps.length fc) ∧ w.cell? (a.add (i * 4 + 3)) = some (.int .i8 q.id)) ∧ ReadsS w (.slice na q.ns.length nc) q.ns ∧ ReadsQ w (.slice fa q.ps.length fc) q.ps) ∧ q.Ok ∧ q.ns.length + sumL q.ns ≤ Rows.uptoBulk (D i) ∧ 2 * q.ps.length + totL q.ps ≤ Rows.uptoBulk (D i) := by
      intro i hi
      obtain ⟨cs', h1, h2⟩ := hx i (by omega)
      rw [ce] at h1
      obtain ⟨_, hlen, hcell⟩ := World.cells?_some h1
      obtain ⟨q, na, nc, fa, fc, rfl, r1, r2, hq⟩ := cells_stp h2
      have e0 := hcell 0 (by omega)
      have e1 := hcell 1 (by omega)
      have e2 := hcell 2 (by omega)
      have e3 := hcell 3 (by omega)
      rw [Go.Deep.add_add] at e0 e1 e2 e3
      exact ⟨q, ⟨na, nc, fa, fc, ⟨by simpa using e0, by simpa using e1, by simpa using e2, by simpa using e3⟩, r1, r2⟩, hq⟩
    obtain ⟨q, hq⟩ := Go.Deep.choose_lt each
    have hlen : ((List.range len).map q).length = len := by simp
    refine ⟨(List.range len).map q, some a, m, by rw [hlen], ⟨some a, m, by rw [hlen], fun j l hj => ?_⟩, ?_, ?_⟩
    · have hjl : j < len := by have := (List.getElem?_eq_some_iff.mp hj).1; omega
      have hj' : q j = l := by
        rw [List.getElem?_map, List.getElem?_range hjl] at hj
        exact Option.some.inj hj
      obtain ⟨⟨na, nc, fa, fc, ⟨c0, c1, c2, c3⟩, r1, r2⟩, _⟩ := hq j hjl
      obtain ⟨⟨_, _, _, _, ⟨z0, _⟩, _⟩, _⟩ := hq 0 (by omega)
      obtain ⟨b, off, spot⟩ := a
      have hspot : spot = none := by simpa [Addr.add] using World.cell?_spot z0
      subst hspot
      have hlt : b < w.heap.size := by have := World.block_lt_of_cell? w _ z0; simpa [Addr.add] using this
      rw [Go.WideShapes.add_plain] at c0 c1 c2 c3
      rw [← Nat.add_assoc] at c1 c2 c3
      subst hj'
      exact ⟨b, off, na, nc, fa, fc, rfl, hlt, c0, c1, c2, c3, r1, r2⟩
    · intro s hs
      obtain ⟨i, hi, rfl⟩ := List.mem_map.mp hs
      obtain ⟨_, ho, b1, b2⟩ := hq i (List.mem_range.mp hi)
      have hin : Rows.uptoBulk (D i) ≤ Rows.uptoBulk (DataW.slice ((List.range len).map D) ((List.range (m - len)).map fun j => D (len + j))) := Nat.le_trans (bulkL_part (List.mem_map.mpr ⟨i, hi, rfl⟩)) (bulkL_elems _ _)
      exact ⟨ho, Nat.le_trans b1 hin, Nat.le_trans b2 hin⟩
    · rw [hlen]
      have h1 := bulkL_len ((List.range len).map D)
      rw [List.length_map, List.length_range] at h1
      exact Nat.le_trans h1 (bulkL_elems _ _)
end
end Go.Proofs.Ytbmbcdbldbjddaa
