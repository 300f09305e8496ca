/- A request or a response of the reference among the arguments, opened. -/
import Derived.Test.YthjkneifffdglaaDoorJRow
import Derived.Test.YthjkneifffdglaaDoorJLaw2
import Derived.Deep.SlicePairs
import Derived.Carry
namespace Go.Proofs.YthjkneifffdglaaDoor
open Go.ChangeShapes Go.WideShapes Go.ChangeAt Go.RowKit
open Go.ChangeMaps (shut_string open_string)

theorem laidOut : laidOutB Tryd.prog = true := by kernel_rfl
theorem weight_in {H : Type} {P : Program} {e : TypeId} {d : DataW H} {n : Nat} : ∀ {l : List (DataW H)}, d ∈ l → n ∈ d.weights P e → n ∈ DataW.weightsAll P e l
  | x :: r, hd, hn => by
    simp only [DataW.weightsAll, List.mem_append]
    rcases List.mem_cons.1 hd with e | e
    · subst e; exact .inl hn
    · exact .inr (weight_in e hn)
set_option maxRecDepth 100000 in
/-- A slice of the reference's fields among the arguments. -/
theorem open_fields {H : Type} {enc : TypeId × Value → H} {w : World} {v : Value} {d : DataW H} {p : List MemPlace} (h : ∃ fuel, DataW.trod enc Tryd.prog w 0 (fun _ => true) true fuel 22 [v] = some (d, p)) (hw : ∀ n ∈ d.weights Tryd.prog 22, n ≤ reachBytes) :
    ∃ ps : List (List UInt8 × List UInt8), ReadsQ w v ps ∧ ps.length ≤ maxLen ∧ (∀ q ∈ ps, q.1.length ≤ 140737488355328 ∧ q.2.length ≤ 140737488355328) := by
  obtain ⟨fuel, hf⟩ := h
  rcases Go.Deep.open_slice_pairs Tryd.underlying22 Tryd.underlying66 (by kernel_rfl) rfl rfl (by kernel_rfl) (by kernel_rfl) hf with ⟨hcs, hx⟩ | ⟨a, len, cap, m, n, V0, V1, D0, D1, P0, P1, hcs, _, hl, hm, hmm, hx, hall⟩
  · simp only [List.cons.injEq, and_true] at hcs
    subst hcs
    exact ⟨[], ⟨none, 0, rfl, fun j l h => by simp at h⟩, by simp, by simp⟩
  · simp only [List.cons.injEq, and_true] at hcs
    subst hcs
    simp only [Prod.mk.injEq] at hx
    obtain ⟨rfl, _⟩ := hx
    simp only [if_true] at hmm
    subst hmm
    have each : ∀ i, i < len → ∃ q : ByteArray × ByteArray, V0 i = .string q.1 ∧ V1 i = .string q.2 ∧ D0 i = .lit (.string q.1.data.toList) ∧ D1 i = .lit (.string q.2.data.toList) := by
      intro i hi
      obtain ⟨_, _, t0, t1⟩ := hall i (by omega)
      obtain ⟨s0, e0, f0, _⟩ := DataW.trod_string Tryd.underlying9 t0
      obtain ⟨s1, e1, f1, _⟩ := DataW.trod_string Tryd.underlying9 t1
      simp only [List.cons.injEq, and_true, Prod.mk.injEq] at e0 e1 f0 f1
      exact ⟨(s0, s1), e0, e1, f0.1, f1.1⟩
    obtain ⟨q, hq⟩ := Go.Deep.choose_lt each
    have hlen : ((List.range len).map fun i => ((q i).1.data.toList, (q i).2.data.toList)).length = len := by simp
    have hwt : ∀ i, i < len → (q i).1.data.toList.length ≤ 140737488355328 ∧ (q i).2.data.toList.length ≤ 140737488355328 := by
      intro i hi
      obtain ⟨_, _, d0, d1⟩ := hq i hi
      have hin : (DataW.agg [D0 i, D1 i]) ∈ (List.range len).map fun i => DataW.agg [D0 i, D1 i] := List.mem_map.mpr ⟨i, List.mem_range.mpr hi, rfl⟩
      have key : ∀ k ∈ (DataW.agg [D0 i, D1 i]).weights Tryd.prog 66, k ≤ reachBytes := by
        intro k hk
        refine hw k ?_
        unfold DataW.weights
        rw [Tryd.underlying22]
        simp only [List.mem_cons, List.mem_append]
        exact .inr (.inl (weight_in hin hk))
      unfold DataW.weights at key
      rw [Tryd.underlying66] at key
      rw [d0, d1] at key
      simp only [DataW.weightsEach, DataW.weights, List.map_cons, List.map_nil, List.mem_append, List.mem_cons, List.not_mem_nil, or_false] at key
      have k0 := key _ (.inl rfl)
      have k1 := key _ (.inr rfl)
      unfold reachBytes at k0 k1
      omega
    refine ⟨(List.range len).map fun i => ((q i).1.data.toList, (q i).2.data.toList), ⟨some a, m, by rw [hlen], fun j l hj => ?_⟩, ?_, ?_⟩
    · have hjl : j < len := by have := (List.getElem?_eq_some_iff.mp hj).1; omega
      have hj' : ((q j).1.data.toList, (q j).2.data.toList) = l := by
        rw [List.getElem?_map, List.getElem?_range hjl] at hj
        exact Option.some.inj hj
      obtain ⟨c0, c1, _, _⟩ := hall j (by omega)
      obtain ⟨v0, v1, _, _⟩ := hq j hjl
      obtain ⟨z0, _, _, _⟩ := hall 0 (by omega)
      obtain ⟨b, off, spot⟩ := a
      have hspot : spot = none := by simpa [Addr.add] using World.cell?_spot z0
      subst hspot
      have hlt : b < w.heap.size := by have := World.block_lt_of_cell? w _ z0; simpa [Addr.add] using this
      rw [v0, Go.WideShapes.add_plain] at c0
      rw [v1, Go.WideShapes.add_plain, ← Nat.add_assoc] at c1
      subst hj'
      exact ⟨b, off, rfl, hlt, by rw [strB_of]; exact c0, by rw [strB_of]; exact c1⟩
    · rw [hlen]; omega
    · intro x hx
      obtain ⟨i, hi, rfl⟩ := List.mem_map.mp hx
      exact hwt i (List.mem_range.mp hi)

section
variable {H : Type} {enc : TypeId × Value → H} {P : Program} {w : World} {base : Nat} {spare : Nat → Bool} {held : Bool}
theorem trod_struct3 {t : TypeId} {f0 f1 f2 : Field} {fuel : Nat} {cs : List Value} {x : DataW H × List MemPlace} (ht : P.underlying t = some (.struct #[f0, f1, f2])) (h : DataW.trod enc P w base spare held fuel t cs = some x) :
    ∃ y0 y1 y2 n, x = (.agg [y0.1, y1.1, y2.1], y0.2 ++ (y1.2 ++ y2.2)) ∧ cs.length = P.cellsOf t ∧ DataW.trod enc P w base spare held n f0.type ((cs.drop f0.offset).take (P.cellsOf f0.type)) = some y0 ∧
      DataW.trod enc P w base spare held n f1.type ((cs.drop f1.offset).take (P.cellsOf f1.type)) = some y1 ∧ DataW.trod enc P w base spare held n f2.type ((cs.drop f2.offset).take (P.cellsOf f2.type)) = some y2 := by
  obtain ⟨xs, n, _, rfl, hl, hlen, hf⟩ := DataW.trod_struct ht h
  match xs, hlen with
  | [y0, y1, y2], _ => exact ⟨y0, y1, y2, n, by simp, hl, by simpa using hf 0 f0 rfl, by simpa using hf 1 f1 rfl, by simpa using hf 2 f2 rfl⟩
end
set_option maxRecDepth 100000 in
theorem open_req {H : Type} {enc : TypeId × Value → H} {w : World} {v : Value} {d : DataW H} {p : List MemPlace} {base : Nat} (hv : Value.okWide Tryd.prog w .any base 24 v)
    (h : DataW.Trod enc Tryd.prog w 0 (fun _ => true) true 24 v d p) (hw : ∀ n ∈ d.weights Tryd.prog 24, n ≤ reachBytes) :
    ∃ (m t : List UInt8) (v' : Value) (ps : List (List UInt8 × List UInt8)), v = .agg #[.string (strB m), .string (strB t), v'] ∧
      m.length ≤ 140737488355328 ∧ t.length ≤ 140737488355328 ∧ ReadsQ w v' ps ∧ ps.length ≤ maxLen ∧ (∀ q ∈ ps, q.1.length ≤ 140737488355328 ∧ q.2.length ≤ 140737488355328) := by
  obtain ⟨cs, rfl, hsz, hall⟩ : ∃ cs, v = .agg cs ∧ cs.size = 3 ∧ True := by
    simp only [Value.okWide, Tryd.underlying24] at hv
    obtain ⟨cs, h1, h2, _⟩ := hv
    exact ⟨cs, h1, h2.trans (by kernel_rfl), trivial⟩
  obtain ⟨c0, c1, c2, rfl⟩ : ∃ c0 c1 c2, cs = #[c0, c1, c2] := by
    obtain ⟨l⟩ := cs
    match l, hsz with
    | [a, b, c], _ => exact ⟨a, b, c, rfl⟩
    | [], hz => simp at hz
    | [_], hz => simp at hz
    | [_, _], hz => simp at hz
    | _ :: _ :: _ :: _ :: _, hz => simp at hz
  obtain ⟨fuel, hf⟩ := h
  have hf' : DataW.trod enc Tryd.prog w 0 (fun _ => true) true fuel 24 [c0, c1, c2] = some (d, p) := by simpa [Value.cells] using hf
  obtain ⟨y0, y1, y2, n, hx, _, g0, g1, g2⟩ := trod_struct3 Tryd.underlying24 hf'
  have hce : Tryd.prog.cellsOf 9 = 1 := by kernel_rfl
  have hcb : Tryd.prog.cellsOf 22 = 1 := by kernel_rfl
  simp only [hce, hcb, List.drop_zero, List.drop_succ_cons, List.take_succ_cons, List.take_zero] at g0 g1 g2
  obtain ⟨s0, e0, f0, _⟩ := DataW.trod_string Tryd.underlying9 g0
  obtain ⟨s1, e1, f1, _⟩ := DataW.trod_string Tryd.underlying9 g1
  simp only [List.cons.injEq, and_true] at e0 e1
  simp only [Prod.mk.injEq] at hx
  rw [hx.1, f0, f1] at hw
  have key := hw
  unfold DataW.weights at key
  rw [Tryd.underlying24] at key
  simp only [DataW.weightsEach, DataW.weights, List.map_cons, List.map_nil, List.mem_append, List.mem_cons, List.not_mem_nil, or_false] at key
  have k0 := key _ (.inl rfl)
  have k1 := key _ (.inr (.inl rfl))
  have k2 : ∀ n ∈ y2.1.weights Tryd.prog 22, n ≤ reachBytes := fun n hn => key n (.inr (.inr hn))
  have k0' : s0.data.toList.length ≤ reachBytes := k0
  have k1' : s1.data.toList.length ≤ reachBytes := k1
  unfold reachBytes at k0' k1'
  obtain ⟨ps, q1, q2, q3⟩ := open_fields ⟨n, g2⟩ k2
  refine ⟨s0.data.toList, s1.data.toList, c2, ps, by rw [e0, e1, strB_of, strB_of], by omega, by omega, q1, q2, q3⟩
section
variable {H : Type} {enc : TypeId × Value → H} {P : Program} {w : World} {base : Nat} {spare : Nat → Bool} {held : Bool}
theorem trod_struct2 {t : TypeId} {f0 f1 : Field} {fuel : Nat} {cs : List Value} {x : DataW H × List MemPlace} (ht : P.underlying t = some (.struct #[f0, f1])) (h : DataW.trod enc P w base spare held fuel t cs = some x) :
    ∃ y0 y1 n, x = (.agg [y0.1, y1.1], y0.2 ++ y1.2) ∧ cs.length = P.cellsOf t ∧ DataW.trod enc P w base spare held n f0.type ((cs.drop f0.offset).take (P.cellsOf f0.type)) = some y0 ∧
      DataW.trod enc P w base spare held n f1.type ((cs.drop f1.offset).take (P.cellsOf f1.type)) = some y1 := by
  obtain ⟨xs, n, _, rfl, hl, hlen, hf⟩ := DataW.trod_struct ht h
  match xs, hlen with
  | [y0, y1], _ => exact ⟨y0, y1, n, by simp, hl, by simpa using hf 0 f0 rfl, by simpa using hf 1 f1 rfl⟩
end
set_option maxRecDepth 100000 in
theorem open_resp {H : Type} {enc : TypeId × Value → H} {w : World} {v : Value} {d : DataW H} {p : List MemPlace} {base : Nat} (hv : Value.okWide Tryd.prog w .any base 45 v)
    (h : DataW.Trod enc Tryd.prog w 0 (fun _ => true) true 45 v d p) (hw : ∀ n ∈ d.weights Tryd.prog 45, n ≤ reachBytes) :
    ∃ (z : Int) (v' : Value) (ps : List (List UInt8 × List UInt8)), v = .agg #[.int .i64 z, v'] ∧ InI z ∧
      ReadsQ w v' ps ∧ ps.length ≤ maxLen ∧ (∀ q ∈ ps, q.1.length ≤ 140737488355328 ∧ q.2.length ≤ 140737488355328) := by
  obtain ⟨cs, rfl, hsz, hall⟩ : ∃ cs, v = .agg cs ∧ cs.size = 2 ∧ True := by
    simp only [Value.okWide, Tryd.underlying45] at hv
    obtain ⟨cs, h1, h2, _⟩ := hv
    exact ⟨cs, h1, h2.trans (by kernel_rfl), trivial⟩
  obtain ⟨c0, c1, rfl⟩ : ∃ c0 c1, cs = #[c0, c1] := by
    obtain ⟨l⟩ := cs
    match l, hsz with
    | [a, b], _ => exact ⟨a, b, rfl⟩
    | [], hz => simp at hz
    | [_], hz => simp at hz
    | _ :: _ :: _ :: _, hz => simp at hz
  obtain ⟨fuel, hf⟩ := h
  have hf' : DataW.trod enc Tryd.prog w 0 (fun _ => true) true fuel 45 [c0, c1] = some (d, p) := by simpa [Value.cells] using hf
  obtain ⟨y0, y1, n, hx, _, g0, g1⟩ := trod_struct2 Tryd.underlying45 hf'
  have hce : Tryd.prog.cellsOf 3 = 1 := by kernel_rfl
  have hcb : Tryd.prog.cellsOf 22 = 1 := by kernel_rfl
  simp only [hce, hcb, List.drop_zero, List.drop_succ_cons, List.take_succ_cons, List.take_zero] at g0 g1
  obtain ⟨z, e0, _, hzw⟩ := DataW.trod_int Tryd.underlying3 g0
  simp only [List.cons.injEq, and_true] at e0
  simp only [Prod.mk.injEq] at hx
  rw [hx.1] at hw
  have key := hw
  unfold DataW.weights at key
  rw [Tryd.underlying45] at key
  simp only [DataW.weightsEach, List.map_cons, List.map_nil, List.mem_append, List.not_mem_nil, or_false] at key
  have k2 : ∀ n ∈ y1.1.weights Tryd.prog 22, n ≤ reachBytes := fun n hn => key n (.inr hn)
  obtain ⟨ps, q1, q2, q3⟩ := open_fields ⟨n, g1⟩ k2
  exact ⟨z, c1, ps, by rw [e0], bounds_i64 hzw, q1, q2, q3⟩
end Go.Proofs.YthjkneifffdglaaDoor
