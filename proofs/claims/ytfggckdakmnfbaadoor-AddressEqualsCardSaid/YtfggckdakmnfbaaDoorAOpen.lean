/- An address of the reference among the arguments, opened. -/
import Derived.Test.YtfggckdakmnfbaaDoorARow
import Derived.Test.YtfggckdakmnfbaaDoorAAdr
import Derived.Carry
namespace Go.Proofs.YtfggckdakmnfbaaDoor
open Go.ChangeShapes Go.WideShapes Go.ChangeAt Go.RowKit

section
variable {H : Type} {enc : TypeId × Value → H} {P : Program} {w : World} {base : Nat} {spare : Nat → Bool} {held : Bool}
theorem trod_struct4 {t : TypeId} {f0 f1 f2 f3 : Field} {fuel : Nat} {cs : List Value} {x : DataW H × List MemPlace} (ht : P.underlying t = some (.struct #[f0, f1, f2, f3])) (h : DataW.trod enc P w base spare held fuel t cs = some x) :
    ∃ y0 y1 y2 y3 n, x = (.agg [y0.1, y1.1, y2.1, y3.1], y0.2 ++ (y1.2 ++ (y2.2 ++ y3.2))) ∧ cs.length = P.cellsOf t ∧ DataW.trod enc P w base spare held n f0.type ((cs.drop f0.offset).take (P.cellsOf f0.type)) = some y0 ∧
      DataW.trod enc P w base spare held n f1.type ((cs.drop f1.offset).take (P.cellsOf f1.type)) = some y1 ∧ DataW.trod enc P w base spare held n f2.type ((cs.drop f2.offset).take (P.cellsOf f2.type)) = some y2 ∧
      DataW.trod enc P w base spare held n f3.type ((cs.drop f3.offset).take (P.cellsOf f3.type)) = some y3 := by
  obtain ⟨xs, n, _, rfl, hl, hlen, hf⟩ := DataW.trod_struct ht h
  match xs, hlen with
  | [y0, y1, y2, y3], _ => exact ⟨y0, y1, y2, y3, n, by simp, hl, by simpa using hf 0 f0 rfl, by simpa using hf 1 f1 rfl, by simpa using hf 2 f2 rfl, by simpa using hf 3 f3 rfl⟩
end
theorem laidOut : laidOutB Tryd.prog = true := by kernel_rfl
set_option maxRecDepth 100000 in
theorem open_adr' {H : Type} {enc : TypeId × Value → H} {w : World} {v : Value} {d : DataW H} {p : List MemPlace} {base : Nat} (hv : Value.okWide Tryd.prog w .any base 58 v)
    (h : DataW.Trod enc Tryd.prog w 0 (fun _ => true) true 58 v d p) (hw : ∀ n ∈ d.weights Tryd.prog 58, n ≤ reachBytes) :
    ∃ a : Adr, v = adrV a ∧ d = .agg [.lit (.string a.h), .lit (.string a.p), .lit (.string a.q), .lit (.bool a.b)] ∧ AdrLe 140737488355328 a := by
  obtain ⟨cs, rfl, hsz⟩ : ∃ cs, v = .agg cs ∧ cs.size = 4 := by
    simp only [Value.okWide, Tryd.underlying58] at hv
    obtain ⟨cs, h1, h2, _⟩ := hv
    exact ⟨cs, h1, h2.trans (by kernel_rfl)⟩
  obtain ⟨c0, c1, c2, c3, rfl⟩ : ∃ c0 c1 c2 c3, cs = #[c0, c1, c2, c3] := by
    obtain ⟨l⟩ := cs
    match l, hsz with
    | [a, b, c, d], _ => exact ⟨a, b, c, d, rfl⟩
    | [], hz => simp at hz
    | [_], hz => simp at hz
    | [_, _], hz => simp at hz
    | [_, _, _], hz => simp at hz
    | _ :: _ :: _ :: _ :: _ :: _, hz => simp at hz
  obtain ⟨fuel, hf⟩ := h
  have hf' : DataW.trod enc Tryd.prog w 0 (fun _ => true) true fuel 58 [c0, c1, c2, c3] = some (d, p) := by simpa [Value.cells] using hf
  obtain ⟨y0, y1, y2, y3, n, hx, _, g0, g1, g2, g3⟩ := trod_struct4 Tryd.underlying58 hf'
  have hce : Tryd.prog.cellsOf 9 = 1 := by kernel_rfl
  have hcb : Tryd.prog.cellsOf 4 = 1 := by kernel_rfl
  simp only [hce, hcb, List.drop_zero, List.drop_succ_cons, List.take_succ_cons, List.take_zero] at g0 g1 g2 g3
  obtain ⟨s0, e0, f0, _⟩ := DataW.trod_string Tryd.underlying9 g0
  obtain ⟨s1, e1, f1, _⟩ := DataW.trod_string Tryd.underlying9 g1
  obtain ⟨s2, e2, f2, _⟩ := DataW.trod_string Tryd.underlying9 g2
  obtain ⟨b3, e3, f3⟩ := DataW.trod_bool Tryd.underlying4 g3
  simp only [List.cons.injEq, and_true] at e0 e1 e2 e3
  simp only [Prod.mk.injEq] at hx
  rw [hx.1, f0, f1, f2, f3] at hw
  have key := hw
  unfold DataW.weights at key
  rw [Tryd.underlying58] at key
  simp only [DataW.weightsEach, DataW.weights, List.map_cons, List.map_nil, List.mem_append, List.mem_cons, List.not_mem_nil, or_false] at key
  have k0 := key _ (.inl rfl)
  have k1 := key _ (.inr (.inl rfl))
  have k2 := key _ (.inr (.inr rfl))
  rw [Array.length_toList] at k0 k1 k2
  have k0' : s0.size ≤ reachBytes := k0
  have k1' : s1.size ≤ reachBytes := k1
  have k2' : s2.size ≤ reachBytes := k2
  unfold reachBytes at k0' k1' k2'
  refine ⟨⟨s0.data.toList, s1.data.toList, s2.data.toList, b3⟩, ?_, by rw [hx.1, f0, f1, f2, f3], ?_, ?_, ?_⟩
  · rw [e0, e1, e2, e3]
    show _ = Value.agg #[.string (strB s0.data.toList), .string (strB s1.data.toList), .string (strB s2.data.toList), .bool b3]
    rw [strB_of, strB_of, strB_of]
  · show (strB s0.data.toList).size ≤ _; rw [strB_of]; omega
  · show (strB s1.data.toList).size ≤ _; rw [strB_of]; omega
  · show (strB s2.data.toList).size ≤ _; rw [strB_of]; omega
set_option maxRecDepth 100000 in
theorem open_adr {H : Type} {enc : TypeId × Value → H} {w : World} {v : Value} {d : DataW H} {p : List MemPlace} {base : Nat} (hv : Value.okWide Tryd.prog w .any base 58 v)
    (h : DataW.Trod enc Tryd.prog w 0 (fun _ => true) true 58 v d p) (hw : ∀ n ∈ d.weights Tryd.prog 58, n ≤ reachBytes) :
    ∃ a : Adr, v = adrV a ∧ AdrLe 140737488355328 a := by
  obtain ⟨a, h1, _, h2⟩ := open_adr' hv h hw
  exact ⟨a, h1, h2⟩
/-- The second form's bound. -/
theorem adr_bulk {H : Type} {a : Adr} (h : Rows.uptoBulk (DataW.agg (H := H) [.lit (.string a.h), .lit (.string a.p), .lit (.string a.q), .lit (.bool a.b)]) ≤ 1048576) : AdrLe 1048576 a := by
  simp only [Rows.uptoBulk, Rows.uptoBulkAll] at h
  exact ⟨by rw [strB_size]; omega, by rw [strB_size]; omega, by rw [strB_size]; omega⟩
theorem bulk_string {H : Type} (bytes : List UInt8) : Rows.uptoBulk (DataW.lit (H := H) (.string bytes)) = bytes.length + 1 := by simp [Rows.uptoBulk]
theorem bulk_part {H : Type} {d : DataW H} {l : List (DataW H)} (h : d ∈ l) : Rows.uptoBulk d ≤ Rows.uptoBulkAll l := by
  induction l with
  | nil => cases h
  | cons x r ih =>
    simp only [Rows.uptoBulkAll]
    rcases List.mem_cons.1 h with e | e
    · subst e; omega
    · have := ih e; omega
theorem bulk_bound {H : Type} {l : List (DataW H)} (hk : Rows.uptoSmall H l = true) : Rows.uptoBulkAll l ≤ 1048576 := of_decide_eq_true hk
end Go.Proofs.YtfggckdakmnfbaaDoor
