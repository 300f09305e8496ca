/- An array of two strings among the arguments, opened. -/
import Derived.Test.YthpjemihbobjfaaFOpenN
namespace Go.Proofs.Ythpjemihbobjfaa
open Go.ChangeShapes Go.WideShapes Go.ChangeAt Go.RowKit

theorem open_pair {H : Type} {enc : TypeId × Value → H} {w : World} {v : Value} {d : DataW H} {p : List MemPlace} {base : Nat} (hv : Value.okWide Try.prog w .any base 44 v)
    (h : DataW.Trod enc Try.prog w 0 (fun _ => true) true 44 v d p) (hw : ∀ n ∈ d.weights Try.prog 44, n ≤ reachBytes) :
    ∃ s0 s1 : ByteArray, v = .agg #[.string s0, .string s1] ∧ s0.size ≤ 140737488355328 ∧ s1.size ≤ 140737488355328 := by
  obtain ⟨cs, rfl, hsz⟩ : ∃ cs, v = .agg cs ∧ cs.size = 2 := by
    simp only [Value.okWide, Try.underlying44] at hv
    obtain ⟨cs, h1, h2, _⟩ := hv
    exact ⟨cs, h1, h2.trans (by kernel_rfl)⟩
  obtain ⟨c0, c1, rfl⟩ : ∃ c0 c1, cs = #[c0, c1] := by
    obtain ⟨l⟩ := cs
    match l, hsz with
    | [a, b], _ => exact ⟨a, b, rfl⟩
    | [], hz => simp at hz
    | [_], hz => simp at hz
    | _ :: _ :: _ :: _, hz => simp at hz
  obtain ⟨fuel, hf⟩ := h
  have hf' : DataW.trod enc Try.prog w 0 (fun _ => true) true fuel 44 [c0, c1] = some (d, p) := by simpa [Value.cells] using hf
  obtain ⟨xs, m, rfl, hx, _, hl, hall⟩ := DataW.trod_array Try.underlying44 hf'
  have g0 := hall 0 (by omega)
  have g1 := hall 1 (by omega)
  have hce : Try.prog.cellsOf 9 = 1 := by kernel_rfl
  rw [hce] at g0 g1
  obtain ⟨x0, x1, rfl⟩ : ∃ x0 x1, xs = [x0, x1] := by
    match xs, hl with
    | [a, b], _ => exact ⟨a, b, rfl⟩
  have g0' : DataW.trod enc Try.prog w 0 (fun _ => true) true m 9 [c0] = some x0 := by simpa using g0
  have g1' : DataW.trod enc Try.prog w 0 (fun _ => true) true m 9 [c1] = some x1 := by simpa using g1
  obtain ⟨s0, e0, f0, _⟩ := DataW.trod_string Try.underlying9 g0'
  obtain ⟨s1, e1, f1, _⟩ := DataW.trod_string Try.underlying9 g1'
  simp only [List.cons.injEq, and_true] at e0 e1
  simp only [Prod.mk.injEq, List.map_cons, List.map_nil] at hx
  rw [hx.1, f0, f1] at hw
  have key := hw
  unfold DataW.weights at key
  rw [Try.underlying44] at key
  simp only [DataW.weightsAll, DataW.weights, List.mem_append, List.mem_cons, List.not_mem_nil, or_false] at key
  have k0 := key _ (.inl rfl)
  have k1 := key _ (.inr rfl)
  rw [Array.length_toList] at k0 k1
  have k0' : s0.size ≤ reachBytes := k0
  have k1' : s1.size ≤ reachBytes := k1
  unfold reachBytes at k0' k1'
  exact ⟨s0, s1, by rw [e0, e1], by omega, by omega⟩
end Go.Proofs.Ythpjemihbobjfaa
