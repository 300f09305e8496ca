/- Slices of strings, of fields, steps and slices of steps among the arguments, opened. -/
import Derived.Test.YtbmbcdbldbjddaaGreatDoorCRow
import Derived.Test.YtbmbcdbldbjddaaGreatDoorVyStep
import Derived.Deep.DeepHandedRow
import Derived.Deep.SlicePairs
import Derived.Deep.Slices
import Derived.Carry
namespace Go.Proofs.YtbmbcdbldbjddaaGreatDoor
open Go.ChangeShapes Go.WideShapes Go.ChangeAt Go.RowKit
open Go.ChangeMaps (shut_string open_string)

theorem laidOut : laidOutB Tryz.prog = true := by kernel_rfl
theorem bulkL_part {H : Type} {d : DataW H} {l : List (DataW H)} (h : d ∈ l) : Rows.uptoBulk d ≤ Rows.uptoBulkAll l := by
  induction l with
  | nil => cases h
  | cons x r ih =>
    simp only [Rows.uptoBulkAll]
    rcases List.mem_cons.1 h with e | e
    · subst e; omega
    · have := ih e; omega
theorem bulkL_bound {H : Type} {l : List (DataW H)} (hk : Rows.uptoSmall H l = true) : Rows.uptoBulkAll l ≤ 1048576 := of_decide_eq_true hk
theorem bulkL_elems {H : Type} (elems spare : List (DataW H)) : Rows.uptoBulkAll elems ≤ Rows.uptoBulk (.slice elems spare) := by
  simp only [Rows.uptoBulk]; omega
theorem bulkL_pos {H : Type} (d : DataW H) : 1 ≤ Rows.uptoBulk d := by
  cases d with
  | lit l => cases l <;> simp [Rows.uptoBulk]
  | _ => simp [Rows.uptoBulk]
theorem bulkL_len {H : Type} (l : List (DataW H)) : l.length ≤ Rows.uptoBulkAll l := by
  induction l with
  | nil => simp
  | cons x r ih =>
    have h := bulkL_pos x
    simp only [Rows.uptoBulkAll, List.length_cons]
    omega
theorem bulkL_pairs {H : Type} (q : Nat → ByteArray × ByteArray) (D0 D1 : Nat → DataW H) : ∀ L : List Nat, (∀ i ∈ L, D0 i = .lit (.string (q i).1.data.toList) ∧ D1 i = .lit (.string (q i).2.data.toList)) →
    3 * L.length + totL (L.map fun i => ((q i).1.data.toList, (q i).2.data.toList)) ≤ Rows.uptoBulkAll (L.map fun i => DataW.agg [D0 i, D1 i])
  | [], _ => by simp [totL]
  | i :: r, h => by
    have ih := bulkL_pairs q D0 D1 r (fun j hj => h j (List.mem_cons_of_mem _ hj))
    obtain ⟨e0, e1⟩ := h i (List.mem_cons_self ..)
    rw [List.map_cons, List.map_cons, Rows.uptoBulkAll]
    have e : Rows.uptoBulk (DataW.agg [D0 i, D1 i]) = (q i).1.data.toList.length + 1 + ((q i).2.data.toList.length + 1 + 0) + 1 := by
      rw [e0, e1]; simp only [Rows.uptoBulk, Rows.uptoBulkAll]
    have e2 : totL (((q i).1.data.toList, (q i).2.data.toList) :: r.map fun i => ((q i).1.data.toList, (q i).2.data.toList)) = (q i).1.data.toList.length + (q i).2.data.toList.length + totL (r.map fun i => ((q i).1.data.toList, (q i).2.data.toList)) := rfl
    rw [e2, e, List.length_cons]
    omega
theorem bulkL_strs {H : Type} (q : Nat → ByteArray) (D : Nat → DataW H) : ∀ L : List Nat, (∀ i ∈ L, D i = .lit (.string (q i).data.toList)) →
    L.length + sumL (L.map fun i => (q i).data.toList) ≤ Rows.uptoBulkAll (L.map D)
  | [], _ => by simp [sumL]
  | i :: r, h => by
    have ih := bulkL_strs q D r (fun j hj => h j (List.mem_cons_of_mem _ hj))
    have e0 := h i (List.mem_cons_self ..)
    rw [List.map_cons, List.map_cons, Rows.uptoBulkAll]
    have e : Rows.uptoBulk (D i) = (q i).data.toList.length + 1 := by rw [e0]; simp only [Rows.uptoBulk]
    have e2 : sumL ((q i).data.toList :: r.map fun i => (q i).data.toList) = (q i).data.toList.length + sumL (r.map fun i => (q i).data.toList) := rfl
    rw [e2, e, List.length_cons]
    omega
set_option maxRecDepth 100000 in
theorem open_fl {H : Type} {enc : TypeId × Value → H} {w : World} {v : Value} {d : DataW H} {p : List MemPlace} (h : ∃ fuel, DataW.trod enc Tryz.prog w 0 (fun _ => true) true fuel 22 [v] = some (d, p)) :
    ∃ (ps : List (List UInt8 × List UInt8)) (a : Option Addr) (c : Nat), v = .slice a ps.length c ∧ ReadsQ w v ps ∧ Sane v ∧ 2 * ps.length + totL ps ≤ Rows.uptoBulk d := by
  obtain ⟨fuel, hf⟩ := h
  rcases Go.Deep.open_slice_pairs Tryz.underlying22 Tryz.underlying36 (by kernel_rfl) rfl rfl (by kernel_rfl) (by kernel_rfl) hf with ⟨hcs, hx⟩ | ⟨a, len, cap, m, n, V0, V1, D0, D1, P0, P1, hcs, _, hl, hm, hmm, hx, hall⟩
  · simp only [List.cons.injEq, and_true] at hcs
    subst hcs
    exact ⟨[], none, 0, rfl, ⟨none, 0, rfl, fun j l h => by simp at h⟩, fun a n c e => by cases e; exact ⟨Nat.le_refl _, fun _ => rfl⟩, by simp [totL]⟩
  · simp only [List.cons.injEq, and_true] at hcs
    subst hcs
    simp only [Prod.mk.injEq] at hx
    obtain ⟨rfl, _⟩ := hx
    simp only [if_true] at hmm
    subst hmm
    have each : ∀ i, i < len → ∃ q : ByteArray × ByteArray, V0 i = .string q.1 ∧ V1 i = .string q.2 ∧ D0 i = .lit (.string q.1.data.toList) ∧ D1 i = .lit (.string q.2.data.toList) := by
      intro i hi
      obtain ⟨_, _, t0, t1⟩ := hall i (by omega)
      obtain ⟨s0, e0, f0, _⟩ := DataW.trod_string Tryz.underlying9 t0
      obtain ⟨s1, e1, f1, _⟩ := DataW.trod_string Tryz.underlying9 t1
      simp only [List.cons.injEq, and_true, Prod.mk.injEq] at e0 e1 f0 f1
      exact ⟨(s0, s1), e0, e1, f0.1, f1.1⟩
    obtain ⟨q, hq⟩ := Go.Deep.choose_lt each
    have hlen : ((List.range len).map fun i => ((q i).1.data.toList, (q i).2.data.toList)).length = len := by simp
    have hbk := bulkL_pairs (H := H) q D0 D1 (List.range len) (fun i hi => ⟨(hq i (List.mem_range.mp hi)).2.2.1, (hq i (List.mem_range.mp hi)).2.2.2⟩)
    rw [List.length_range] at hbk
    refine ⟨(List.range len).map fun i => ((q i).1.data.toList, (q i).2.data.toList), some a, m, by rw [hlen], ⟨some a, m, by rw [hlen], fun j l hj => ?_⟩, fun a' n' c' e => by cases e; exact ⟨hl, fun h => by cases h⟩, ?_⟩
    · have hjl : j < len := by have := (List.getElem?_eq_some_iff.mp hj).1; omega
      have hj' : ((q j).1.data.toList, (q j).2.data.toList) = l := by
        rw [List.getElem?_map, List.getElem?_range hjl] at hj
        exact Option.some.inj hj
      obtain ⟨c0, c1, _, _⟩ := hall j (by omega)
      obtain ⟨v0, v1, _, _⟩ := hq j hjl
      obtain ⟨z0, _, _, _⟩ := hall 0 (by omega)
      obtain ⟨b, off, spot⟩ := a
      have hspot : spot = none := by simpa [Addr.add] using World.cell?_spot z0
      subst hspot
      have hlt : b < w.heap.size := by have := World.block_lt_of_cell? w _ z0; simpa [Addr.add] using this
      rw [v0, Go.WideShapes.add_plain] at c0
      rw [v1, Go.WideShapes.add_plain, ← Nat.add_assoc] at c1
      subst hj'
      exact ⟨b, off, rfl, hlt, by rw [strB_of]; exact c0, by rw [strB_of]; exact c1⟩
    · rw [hlen]
      refine Nat.le_trans ?_ (bulkL_elems _ _)
      omega
set_option maxRecDepth 100000 in
theorem open_st {H : Type} {enc : TypeId × Value → H} {w : World} {v : Value} {d : DataW H} {p : List MemPlace} (h : ∃ fuel, DataW.trod enc Tryz.prog w 0 (fun _ => true) true fuel 25 [v] = some (d, p)) :
    ∃ (ns : List (List UInt8)) (a : Option Addr) (c : Nat), v = .slice a ns.length c ∧ ReadsS w v ns ∧ ns.length + sumL ns ≤ Rows.uptoBulk d := by
  obtain ⟨fuel, hf⟩ := h
  rcases Go.Deep.open_slice1 Tryz.underlying25 (by kernel_rfl) hf with ⟨hcs, hx⟩ | ⟨a, len, cap, m, n, V, D, Pl, hcs, _, hl, hm, hmm, hx, hall⟩
  · simp only [List.cons.injEq, and_true] at hcs
    subst hcs
    exact ⟨[], none, 0, rfl, ⟨none, 0, rfl, fun j l h => by simp at h⟩, by simp [sumL]⟩
  · simp only [List.cons.injEq, and_true] at hcs
    subst hcs
    simp only [Prod.mk.injEq] at hx
    obtain ⟨rfl, _⟩ := hx
    simp only [if_true] at hmm
    subst hmm
    have each : ∀ i, i < len → ∃ q : ByteArray, V i = .string q ∧ D i = .lit (.string q.data.toList) := by
      intro i hi
      obtain ⟨_, t0⟩ := hall i (by omega)
      obtain ⟨s0, e0, f0, _⟩ := DataW.trod_string Tryz.underlying9 t0
      simp only [List.cons.injEq, and_true, Prod.mk.injEq] at e0 f0
      exact ⟨s0, e0, f0.1⟩
    obtain ⟨q, hq⟩ := Go.Deep.choose_lt each
    have hlen : ((List.range len).map fun i => (q i).data.toList).length = len := by simp
    have hbk := bulkL_strs (H := H) q D (List.range len) (fun i hi => (hq i (List.mem_range.mp hi)).2)
    rw [List.length_range] at hbk
    refine ⟨(List.range len).map fun i => (q i).data.toList, some a, m, by rw [hlen], ⟨some a, m, by rw [hlen], fun j l hj => ?_⟩, ?_⟩
    · have hjl : j < len := by have := (List.getElem?_eq_some_iff.mp hj).1; omega
      have hj' : (q j).data.toList = l := by
        rw [List.getElem?_map, List.getElem?_range hjl] at hj
        exact Option.some.inj hj
      obtain ⟨c0, _⟩ := hall j (by omega)
      obtain ⟨v0, _⟩ := hq j hjl
      obtain ⟨z0, _⟩ := hall 0 (by omega)
      obtain ⟨b, off, spot⟩ := a
      have hspot : spot = none := by simpa [Addr.add] using World.cell?_spot z0
      subst hspot
      have hlt : b < w.heap.size := by have := World.block_lt_of_cell? w _ z0; simpa [Addr.add] using this
      rw [v0, Go.WideShapes.add_plain] at c0
      subst hj'
      exact ⟨b, off, rfl, hlt, by rw [strB_of]; exact c0⟩
    · rw [hlen]
      exact Nat.le_trans hbk (bulkL_elems _ _)
section
variable {H : Type} {enc : TypeId × Value → H} {w : World} {v : Value} {d : DataW H} {p : List MemPlace} {base : Nat}
set_option maxRecDepth 100000 in
theorem open_flds (hv : Value.okWide Tryz.prog w .any base 22 v) (h : DataW.Trod enc Tryz.prog w 0 (fun _ => true) true 22 v d p) :
    ∃ (ps : List (List UInt8 × List UInt8)) (a : Option Addr) (c : Nat), v = .slice a ps.length c ∧ ReadsQ w v ps ∧ Sane v ∧ 2 * ps.length + totL ps ≤ Rows.uptoBulk d := by
  obtain ⟨a0, len, cap, rfl⟩ := okWide_slice Tryz.underlying22 hv
  obtain ⟨fuel, hf⟩ := h
  exact open_fl ⟨fuel, by simpa [Value.cells] using hf⟩
set_option maxRecDepth 100000 in
theorem open_strs (hv : Value.okWide Tryz.prog w .any base 25 v) (h : DataW.Trod enc Tryz.prog w 0 (fun _ => true) true 25 v d p) :
    ∃ (ns : List (List UInt8)) (a : Option Addr) (c : Nat), v = .slice a ns.length c ∧ ReadsS w v ns ∧ ns.length + sumL ns ≤ Rows.uptoBulk d := by
  obtain ⟨a0, len, cap, rfl⟩ := okWide_slice Tryz.underlying25 hv
  obtain ⟨fuel, hf⟩ := h
  exact open_st ⟨fuel, by simpa [Value.cells] using hf⟩
end
section
variable {H : Type} {enc : TypeId × Value → H} {w : World}
end
section
variable {H : Type} {enc : TypeId × Value → H} {w : World} {v : Value} {d : DataW H} {p : List MemPlace} {base : Nat}
instance : Inhabited Stp := ⟨⟨0, [], [], 0⟩⟩
theorem bulkL_each {H : Type} (B : Nat → Nat) (D : Nat → DataW H) : ∀ L : List Nat, (∀ i ∈ L, B i ≤ Rows.uptoBulk (D i)) → ∀ i ∈ L, B i ≤ Rows.uptoBulkAll (L.map D) := by
  intro L h i hi
  exact Nat.le_trans (h i hi) (bulkL_part (List.mem_map.mpr ⟨i, hi, rfl⟩))
end
end Go.Proofs.YtbmbcdbldbjddaaGreatDoor
