/- A slice of the reference's fields among the arguments, opened. -/
import Derived.Test.YtjcekkgoohkomaaDoorFSmall
import Derived.Test.YtjcekkgoohkomaaDoorFRow
import Derived.Deep.DeepHandedRow
import Derived.Deep.SlicePairs
import Derived.Shelf.Vars
import Derived.Carry
namespace Go.Proofs.YtjcekkgoohkomaaDoor
open Go.ChangeShapes Go.WideShapes Go.ChangeAt Go.RowKit
open Go.ChangeMaps (shut_string open_string)

theorem weight_in {H : Type} {P : Program} {e : TypeId} {d : DataW H} {n : Nat} : ∀ {l : List (DataW H)}, d ∈ l → n ∈ d.weights P e → n ∈ DataW.weightsAll P e l
  | x :: r, hd, hn => by
    simp only [DataW.weightsAll, List.mem_append]
    rcases List.mem_cons.1 hd with e | e
    · subst e; exact .inl hn
    · exact .inr (weight_in e hn)
set_option maxRecDepth 100000 in
/-- A slice of the reference's fields among the arguments. -/
theorem open_fields {H : Type} {enc : TypeId × Value → H} {w : World} {v : Value} {d : DataW H} {p : List MemPlace} {base : Nat} (hv : Value.okWide Tryd.prog w .any base 58 v)
    (h : DataW.Trod enc Tryd.prog w 0 (fun _ => true) true 58 v d p) (hw : ∀ n ∈ d.weights Tryd.prog 58, n ≤ reachBytes) :
    ∃ ps : List (List UInt8 × List UInt8), ReadsQ w v ps ∧ ps.length ≤ maxLen ∧ (∀ q ∈ ps, q.1.length ≤ 140737488355328 ∧ q.2.length ≤ 140737488355328) ∧ Sane v := by
  obtain ⟨a0, len, cap, rfl⟩ := okWide_slice Tryd.underlying58 hv
  obtain ⟨fuel, hf⟩ := h
  rcases Go.Deep.open_slice_pairs Tryd.underlying58 Tryd.underlying87 (by kernel_rfl) rfl rfl (by kernel_rfl) (by kernel_rfl) (by simpa [Value.cells] using hf) with ⟨hcs, hx⟩ | ⟨a, len', cap', m, n, V0, V1, D0, D1, P0, P1, hcs, _, hl, hm, hmm, hx, hall⟩
  · simp only [List.cons.injEq, Value.slice.injEq, and_true] at hcs
    obtain ⟨rfl, rfl, rfl⟩ := hcs
    exact ⟨[], ⟨none, 0, rfl, fun j l h => by simp at h⟩, by simp, by simp, fun a n c e => by cases e; exact ⟨Nat.le_refl _, fun _ => rfl⟩⟩
  · simp only [List.cons.injEq, Value.slice.injEq, and_true] at hcs
    obtain ⟨rfl, rfl, rfl⟩ := hcs
    simp only [Prod.mk.injEq] at hx
    obtain ⟨rfl, _⟩ := hx
    simp only [if_true] at hmm
    subst hmm
    have each : ∀ i, i < len → ∃ q : ByteArray × ByteArray, V0 i = .string q.1 ∧ V1 i = .string q.2 ∧ D0 i = .lit (.string q.1.data.toList) ∧ D1 i = .lit (.string q.2.data.toList) := by
      intro i hi
      obtain ⟨_, _, t0, t1⟩ := hall i (by omega)
      obtain ⟨s0, e0, f0, _⟩ := DataW.trod_string Tryd.underlying9 t0
      obtain ⟨s1, e1, f1, _⟩ := DataW.trod_string Tryd.underlying9 t1
      simp only [List.cons.injEq, and_true, Prod.mk.injEq] at e0 e1 f0 f1
      exact ⟨(s0, s1), e0, e1, f0.1, f1.1⟩
    obtain ⟨q, hq⟩ := Go.Deep.choose_lt each
    have hlen : ((List.range len).map fun i => ((q i).1.data.toList, (q i).2.data.toList)).length = len := by simp
    have hwt : ∀ i, i < len → (q i).1.data.toList.length ≤ 140737488355328 ∧ (q i).2.data.toList.length ≤ 140737488355328 := by
      intro i hi
      obtain ⟨_, _, d0, d1⟩ := hq i hi
      have hin : (DataW.agg [D0 i, D1 i]) ∈ (List.range len).map fun i => DataW.agg [D0 i, D1 i] := List.mem_map.mpr ⟨i, List.mem_range.mpr hi, rfl⟩
      have key : ∀ k ∈ (DataW.agg [D0 i, D1 i]).weights Tryd.prog 87, k ≤ reachBytes := by
        intro k hk
        refine hw k ?_
        unfold DataW.weights
        rw [Tryd.underlying58]
        simp only [List.mem_cons, List.mem_append]
        exact .inr (.inl (weight_in hin hk))
      unfold DataW.weights at key
      rw [Tryd.underlying87] at key
      rw [d0, d1] at key
      simp only [DataW.weightsEach, DataW.weights, List.map_cons, List.map_nil, List.mem_append, List.mem_cons, List.not_mem_nil, or_false] at key
      have k0 := key _ (.inl rfl)
      have k1 := key _ (.inr rfl)
      unfold reachBytes at k0 k1
      omega
    refine ⟨(List.range len).map fun i => ((q i).1.data.toList, (q i).2.data.toList), ⟨some a, m, by rw [hlen], fun j l hj => ?_⟩, ?_, ?_, fun a' n' c' e => by cases e; exact ⟨hl, fun h => by cases h⟩⟩
    · have hjl : j < len := by have := (List.getElem?_eq_some_iff.mp hj).1; omega
      have hj' : ((q j).1.data.toList, (q j).2.data.toList) = l := by
        rw [List.getElem?_map, List.getElem?_range hjl] at hj
        exact Option.some.inj hj
      obtain ⟨c0, c1, _, _⟩ := hall j (by omega)
      obtain ⟨v0, v1, _, _⟩ := hq j hjl
      obtain ⟨z0, _, _, _⟩ := hall 0 (by omega)
      obtain ⟨b, off, spot⟩ := a
      have hspot : spot = none := by simpa [Addr.add] using World.cell?_spot z0
      subst hspot
      have hlt : b < w.heap.size := by have := World.block_lt_of_cell? w _ z0; simpa [Addr.add] using this
      rw [v0, Go.WideShapes.add_plain] at c0
      rw [v1, Go.WideShapes.add_plain, ← Nat.add_assoc] at c1
      subst hj'
      exact ⟨b, off, rfl, hlt, by rw [strB_of]; exact c0, by rw [strB_of]; exact c1⟩
    · rw [hlen]; omega
    · intro x hx
      obtain ⟨i, hi, rfl⟩ := List.mem_map.mp hx
      exact hwt i (List.mem_range.mp hi)
theorem laidOut : laidOutB Tryd.prog = true := by kernel_rfl
end Go.Proofs.YtjcekkgoohkomaaDoor
