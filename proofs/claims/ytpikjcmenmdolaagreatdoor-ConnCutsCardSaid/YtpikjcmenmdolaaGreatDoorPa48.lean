import Derived.Test.YtpikjcmenmdolaaGreatDoorPa37
import Derived.Test.YtpikjcmenmdolaaGreatDoorPa9
import Derived.SliceStrings
/- A kind of connection (a bool and a slice of strings) among the arguments, opened. -/
namespace Go.Proofs.YtpikjcmenmdolaaGreatDoor
open Go.ChangeShapes Go.WideShapes Go.ChangeAt Go.RowKit

section
variable {H : Type} {enc : TypeId × Value → H} {w : World}
set_option maxRecDepth 100000 in
theorem cells_strs {fuel : Nat} {cs : List Value} {x : DataW H × List MemPlace} (h : DataW.trod enc Tryz.prog w 0 (fun _ => true) true fuel 22 cs = some x) :
    ∃ a c ms, cs = [.slice a ms.length c] ∧ ReadsS w (.slice a ms.length c) ms ∧ Sane (.slice a ms.length c) ∧ ms.length ≤ maxLen := by
  rcases open_strings Tryz.underlying22 Tryz.underlying9 (by kernel_rfl) h with ⟨hcs, hx⟩ | ⟨a, len, cap, ss, hcs, _, hl, hm, hz, hx, hcell, hws⟩
  · exact ⟨none, 0, [], hcs, ⟨none, 0, rfl, fun j l h => by simp at h⟩, fun a n c e => by cases e; exact ⟨Nat.le_refl _, fun _ => rfl⟩, by simp⟩
  · simp only [if_true] at hz
    have hlen : ((ss.take len).map (·.data.toList)).length = len := by simp; omega
    refine ⟨some a, cap, (ss.take len).map (·.data.toList), by rw [hlen]; exact hcs, ⟨some a, cap, rfl, fun j l hj => ?_⟩, fun x n c e => ?_, by rw [hlen]; omega⟩
    · have hjl : j < len := by have := (List.getElem?_eq_some_iff.mp hj).1; omega
      have e : ss.getD j ByteArray.empty = strB l := by
        rw [List.getElem?_map, List.getElem?_take, if_pos hjl] at hj
        have hjs : j < ss.length := by omega
        rw [List.getElem?_eq_getElem hjs] at hj
        simp only [Option.map_some, Option.some.injEq] at hj
        rw [List.getD, List.getElem?_eq_getElem hjs, Option.getD_some, ← hj, strB_of]
      have hc := hcell j (by omega)
      rw [e] at hc
      obtain ⟨g, off, h1, h2, h3⟩ := at_plainK hc ⟨_, hcell 0 (by omega)⟩
      exact ⟨g, off, by rw [h1], h2, h3⟩
    · rw [hlen] at e
      cases e
      exact ⟨hl, fun h => by cases h⟩
set_option maxRecDepth 100000 in
/-- A kind of connection among the arguments. -/
theorem open_kind {v : Value} {d : DataW H} {p : List MemPlace} {base : Nat} (hv : Value.okWide Tryz.prog w .any base 33 v) (h : DataW.Trod enc Tryz.prog w 0 (fun _ => true) true 33 v d p) :
    ∃ b a c ms, v = .agg #[.bool b, .slice a ms.length c] ∧ ReadsS w (.slice a ms.length c) ms ∧ Sane (.slice a ms.length c) ∧ ms.length ≤ maxLen := by
  obtain ⟨cs, rfl⟩ : ∃ cs, v = .agg cs := by
    simp only [Value.okWide, Tryz.underlying33] at hv
    obtain ⟨cs, h1, _⟩ := hv
    exact ⟨cs, h1⟩
  obtain ⟨fuel, hf⟩ := h
  have hf' : DataW.trod enc Tryz.prog w 0 (fun _ => true) true fuel 33 cs.toList = some (d, p) := by simpa [Value.cells] using hf
  obtain ⟨xs, m, _, _, hl, hlen, hg⟩ := DataW.trod_struct Tryz.underlying33 hf'
  have ce : Tryz.prog.cellsOf 33 = 2 := by kernel_rfl
  have c1 : Tryz.prog.cellsOf 4 = 1 := by kernel_rfl
  have c2 : Tryz.prog.cellsOf 22 = 1 := by kernel_rfl
  rw [ce] at hl
  obtain ⟨l⟩ := cs
  match l, hl, xs, hlen with
  | [v0, v1], _, [y0, y1], _ =>
    have g0 := hg 0 _ rfl
    have g1 := hg 1 _ rfl
    simp [c1, c2] at g0 g1
    obtain ⟨b, e0, _⟩ := DataW.trod_bool Tryz.underlying4 g0
    obtain ⟨a, c, ms, e1, hr, hs, hm⟩ := cells_strs g1
    simp only [List.cons.injEq, and_true] at e0 e1
    exact ⟨b, a, c, ms, by rw [e0, e1], hr, hs, hm⟩
end
end Go.Proofs.YtpikjcmenmdolaaGreatDoor
