import Derived.Test.YtfmgfcddnnggeaaGreatDoorPa36
import Derived.Test.YtfmgfcddnnggeaaGreatDoorPa26
import Derived.ChangeSlices
import Derived.SliceStrings
import Derived.Deep.Slices
import Derived.Carry
/- Slices of bytes, and slices of slices of bytes, among the arguments, opened. -/
namespace Go.Proofs.YtfmgfcddnnggeaaGreatDoor
open Go.ChangeShapes Go.WideShapes Go.ChangeAt Go.RowKit
open Go.ChangeMaps (shut_string open_string)

theorem laidOut : laidOutB Tryz.prog = true := by kernel_rfl
section
variable {H : Type} {enc : TypeId × Value → H} {w : World}
theorem at_plainK {a : Addr} {v : Value} {i : Nat} (h : w.cell? (a.add i) = some v) (h0 : ∃ u, w.cell? (a.add 0) = some u) : ∃ g off, a = ⟨g, off, none⟩ ∧ g < w.heap.size ∧ w.cell? ⟨g, off + i, none⟩ = some v := by
  obtain ⟨u, hu⟩ := h0
  obtain ⟨b, off, spot⟩ := a
  have hspot : spot = none := by simpa [Addr.add] using World.cell?_spot hu
  subst hspot
  refine ⟨b, off, rfl, ?_, by rw [← Go.WideShapes.add_plain]; exact h⟩
  have := World.block_lt_of_cell? w _ hu
  simpa [Addr.add] using this
theorem weight_inK {P : Program} {e : TypeId} {d : DataW H} {n : Nat} : ∀ {l : List (DataW H)}, d ∈ l → n ∈ d.weights P e → n ∈ DataW.weightsAll P e l
  | x :: r, hd, hn => by
    simp only [DataW.weightsAll, List.mem_append]
    rcases List.mem_cons.1 hd with e | e
    · subst e; exact .inl hn
    · exact .inr (weight_inK e hn)
set_option maxRecDepth 100000 in
/-- The cells of a slice of bytes, opened. -/
theorem open_bytesK {cs : List Value} {d : DataW H} {p : List MemPlace} {fuel : Nat} (hf : DataW.trod enc Tryz.prog w 0 (fun _ => true) true fuel 30 cs = some (d, p)) (hw : ∀ n ∈ d.weights Tryz.prog 30, n ≤ reachBytes) :
    ∃ v bs, cs = [v] ∧ ReadsD w v bs ∧ bs.length ≤ 140737488355328 := by
  rcases open_ints Tryz.underlying30 Tryz.underlying5 (by kernel_rfl) hf with ⟨hcs, hx⟩ | ⟨a, len, cap, zs, hcs, _, hl, hm, hz, hx, hcell, hwz⟩
  · subst hcs
    exact ⟨_, [], rfl, readsB_nil w, by simp⟩
  · subst hcs
    simp only [if_true] at hz
    simp only [Prod.mk.injEq] at hx
    obtain ⟨rfl, _⟩ := hx
    have hlen : ((zs.take len).map (fun z => UInt8.ofNat z.toNat)).length = len := by simp; omega
    have hread : ∀ j c, ((zs.take len).map (fun z => UInt8.ofNat z.toNat))[j]? = some c → ∃ g off, some a = some (⟨g, off, none⟩ : Addr) ∧ g < w.heap.size ∧ w.cell? ⟨g, off + j, none⟩ = some (.int .u8 (c.toNat : Int)) := by
      intro j c hj
      have hjl : j < len := by have := (List.getElem?_eq_some_iff.mp hj).1; omega
      have hjs : j < zs.length := by omega
      have e : zs.getD j 0 = (c.toNat : Int) := by
        rw [List.getElem?_map, List.getElem?_take, if_pos hjl, List.getElem?_eq_getElem hjs] at hj
        simp only [Option.map_some, Option.some.injEq] at hj
        have hb := bounds_u8 (hwz _ (List.getElem_mem hjs))
        rw [List.getD, List.getElem?_eq_getElem hjs, Option.getD_some, ← hj, UInt8.toNat_ofNat']
        omega
      have hc := hcell j hjs
      rw [e] at hc
      obtain ⟨g, off, h1, h2, h3⟩ := at_plainK hc ⟨_, hcell 0 (by omega)⟩
      exact ⟨g, off, by rw [h1], h2, h3⟩
    have hwt := hw (((lits (H := H) .u8 (zs.take len)).length + (lits (H := H) .u8 (zs.drop len)).length) * Tryz.prog.bytesOf 5) (by
      unfold DataW.weights
      rw [Tryz.underlying30]
      simp)
    have hby : Tryz.prog.bytesOf 5 = 1 := by kernel_rfl
    rw [hby] at hwt
    unfold lits reachBytes at hwt
    simp only [List.length_map, List.length_take, List.length_drop] at hwt
    refine ⟨_, (zs.take len).map (fun z => UInt8.ofNat z.toNat), rfl, ⟨some a, cap, by rw [hlen], by omega, hm, fun h => (by cases h), hread⟩, by omega⟩
set_option maxRecDepth 100000 in
/-- A slice of bytes among the arguments. -/
theorem open_bytesA {v : Value} {d : DataW H} {p : List MemPlace} {base : Nat} (hv : Value.okWide Tryz.prog w .any base 30 v) (h : DataW.Trod enc Tryz.prog w 0 (fun _ => true) true 30 v d p) (hw : ∀ n ∈ d.weights Tryz.prog 30, n ≤ reachBytes) :
    ∃ bs, ReadsD w v bs ∧ bs.length ≤ 140737488355328 := by
  obtain ⟨a0, len, cap, rfl⟩ := okWide_slice Tryz.underlying30 hv
  obtain ⟨fuel, hf⟩ := h
  obtain ⟨u, bs, h1, h2, h3⟩ := open_bytesK (cs := [.slice a0 len cap]) (by simpa [Value.cells] using hf) hw
  simp only [List.cons.injEq, and_true] at h1
  subst h1
  exact ⟨bs, h2, h3⟩
end
end Go.Proofs.YtfmgfcddnnggeaaGreatDoor
