/- What the bound of the second form gives, and slices of strings and of bytes among the arguments, opened. -/
import Derived.Test.YtjcekkgoohkomaaDoorRow
import Derived.Test.YtjcekkgoohkomaaDoorElements
import Derived.SliceStrings
import Derived.ChangeSlices
namespace Go.Proofs.YtjcekkgoohkomaaDoor
open Go.ChangeShapes Go.WideShapes Go.ChangeAt Go.RowKit

theorem bulk_pos {H : Type} (d : DataW H) : 1 ≤ Rows.uptoBulk d := by
  cases d with
  | lit l => cases l <;> simp [Rows.uptoBulk]
  | _ => simp [Rows.uptoBulk]
theorem bulk_part {H : Type} {d : DataW H} {l : List (DataW H)} (h : d ∈ l) : Rows.uptoBulk d ≤ Rows.uptoBulkAll l := by
  induction l with
  | nil => cases h
  | cons x r ih =>
    simp only [Rows.uptoBulkAll]
    rcases List.mem_cons.1 h with e | e
    · subst e; omega
    · have := ih e; omega
theorem bulk_length {H : Type} (l : List (DataW H)) : l.length ≤ Rows.uptoBulkAll l := by
  induction l with
  | nil => simp [Rows.uptoBulkAll]
  | cons x r ih => have := bulk_pos x; simp only [Rows.uptoBulkAll, List.length_cons]; omega
theorem bulk_elems {H : Type} (elems spare : List (DataW H)) : Rows.uptoBulkAll elems + 1 ≤ Rows.uptoBulk (.slice elems spare) := by
  simp only [Rows.uptoBulk]; omega
theorem bulk_string {H : Type} (bytes : List UInt8) : Rows.uptoBulk (DataW.lit (H := H) (.string bytes)) = bytes.length + 1 := by simp [Rows.uptoBulk]
theorem bulk_bound {H : Type} {l : List (DataW H)} (hk : Rows.uptoSmall H l = true) : Rows.uptoBulkAll l ≤ 1048576 := of_decide_eq_true hk

section
variable {H : Type} {enc : TypeId × Value → H} {w : World}
theorem at_plain {a : Addr} {v : Value} {i : Nat} (h : w.cell? (a.add i) = some v) (h0 : ∃ u, w.cell? (a.add 0) = some u) : ∃ g off, a = ⟨g, off, none⟩ ∧ g < w.heap.size ∧ w.cell? ⟨g, off + i, none⟩ = some v := by
  obtain ⟨u, hu⟩ := h0
  obtain ⟨b, off, spot⟩ := a
  have hspot : spot = none := by simpa [Addr.add] using World.cell?_spot hu
  subst hspot
  refine ⟨b, off, rfl, ?_, by rw [← Go.WideShapes.add_plain]; exact h⟩
  have := World.block_lt_of_cell? w _ hu
  simpa [Addr.add] using this
set_option maxRecDepth 100000 in
/-- A slice of strings among the arguments. -/
theorem open_texts {v : Value} {d : DataW H} {p : List MemPlace} {base : Nat} (hv : Value.okWide Tryd.prog w .any base 36 v) (h : DataW.Trod enc Tryd.prog w 0 (fun _ => true) true 36 v d p) :
    ∃ ts : List (List UInt8), ReadsS w v ts ∧ (∀ t ∈ ts, t.length ≤ Rows.uptoBulk d) ∧ ts.length ≤ Rows.uptoBulk d ∧ ts.length ≤ maxLen := by
  obtain ⟨a0, len, cap, rfl⟩ := okWide_slice Tryd.underlying36 hv
  obtain ⟨fuel, hf⟩ := h
  rcases open_strings Tryd.underlying36 Tryd.underlying9 (by kernel_rfl) (by simpa [Value.cells] using hf) with ⟨hcs, hx⟩ | ⟨a, len', cap', ss, hcs, _, hl, hm, hz, hx, hcell, hws⟩
  · simp only [List.cons.injEq, Value.slice.injEq, and_true] at hcs
    obtain ⟨rfl, rfl, rfl⟩ := hcs
    exact ⟨[], ⟨none, 0, rfl, fun j l h => by simp at h⟩, by simp, by simp, by simp⟩
  · simp only [List.cons.injEq, Value.slice.injEq, and_true] at hcs
    obtain ⟨rfl, rfl, rfl⟩ := hcs
    simp only [Prod.mk.injEq] at hx
    obtain ⟨rfl, _⟩ := hx
    simp only [if_true] at hz
    have hlen : ((ss.take len).map (·.data.toList)).length = len := by simp; omega
    have hb := bulk_elems (strs (H := H) (ss.take len)) (strs (ss.drop len))
    refine ⟨(ss.take len).map (·.data.toList), ⟨some a, cap, by rw [hlen], fun j l hj => ?_⟩, fun t ht => ?_, ?_, ?_⟩
    · have hjl : j < len := by have := (List.getElem?_eq_some_iff.mp hj).1; omega
      have e : ss.getD j ByteArray.empty = strB l := by
        rw [List.getElem?_map, List.getElem?_take, if_pos hjl] at hj
        have hjs : j < ss.length := by omega
        rw [List.getElem?_eq_getElem hjs] at hj
        simp only [Option.map_some, Option.some.injEq] at hj
        rw [List.getD, List.getElem?_eq_getElem hjs, Option.getD_some, ← hj, strB_of]
      have hc := hcell j (by omega)
      rw [e] at hc
      obtain ⟨g, off, h1, h2, h3⟩ := at_plain hc ⟨_, hcell 0 (by omega)⟩
      exact ⟨g, off, by rw [h1], h2, h3⟩
    · obtain ⟨s, hs, rfl⟩ := List.mem_map.mp ht
      have h1 : (DataW.lit (.string s.data.toList) : DataW H) ∈ strs (ss.take len) := List.mem_map.mpr ⟨s, hs, rfl⟩
      have h2 := bulk_part h1
      rw [bulk_string] at h2
      omega
    · have := bulk_length (strs (H := H) (ss.take len))
      have h3 : (strs (H := H) (ss.take len)).length = len := by simp [strs]; omega
      rw [h3] at this
      rw [hlen]
      omega
    · rw [hlen]; omega
set_option maxRecDepth 100000 in
/-- A slice of bytes among the arguments. -/
theorem open_bytes {v : Value} {d : DataW H} {p : List MemPlace} {base : Nat} (hv : Value.okWide Tryd.prog w .any base 56 v) (h : DataW.Trod enc Tryd.prog w 0 (fun _ => true) true 56 v d p) :
    ∃ bs : List UInt8, elements.ReadsU w v bs ∧ bs.length ≤ maxLen := by
  obtain ⟨a0, len, cap, rfl⟩ := okWide_slice Tryd.underlying56 hv
  obtain ⟨fuel, hf⟩ := h
  rcases open_ints Tryd.underlying56 Tryd.underlying5 (by kernel_rfl) (by simpa [Value.cells] using hf) with ⟨hcs, hx⟩ | ⟨a, len', cap', zs, hcs, _, hl, hm, hz, hx, hcell, hwz⟩
  · simp only [List.cons.injEq, Value.slice.injEq, and_true] at hcs
    obtain ⟨rfl, rfl, rfl⟩ := hcs
    exact ⟨[], ⟨none, 0, rfl, fun j l h => by simp at h⟩, by simp⟩
  · simp only [List.cons.injEq, Value.slice.injEq, and_true] at hcs
    obtain ⟨rfl, rfl, rfl⟩ := hcs
    simp only [if_true] at hz
    have hlen : ((zs.take len).map (fun z => UInt8.ofNat z.toNat)).length = len := by simp; omega
    refine ⟨(zs.take len).map (fun z => UInt8.ofNat z.toNat), ⟨some a, cap, by rw [hlen], fun j c hj => ?_⟩, ?_⟩
    · have hjl : j < len := by have := (List.getElem?_eq_some_iff.mp hj).1; omega
      have hjs : j < zs.length := by omega
      have e : zs.getD j 0 = (c.toNat : Int) := by
        rw [List.getElem?_map, List.getElem?_take, if_pos hjl, List.getElem?_eq_getElem hjs] at hj
        simp only [Option.map_some, Option.some.injEq] at hj
        have hb := bounds_u8 (hwz _ (List.getElem_mem hjs))
        rw [List.getD, List.getElem?_eq_getElem hjs, Option.getD_some, ← hj, UInt8.toNat_ofNat']
        omega
      have hc := hcell j hjs
      rw [e] at hc
      obtain ⟨g, off, h1, h2, h3⟩ := at_plain hc ⟨_, hcell 0 (by omega)⟩
      exact ⟨g, off, by rw [h1], h2, h3⟩
    · rw [hlen]; omega
end
theorem laidOut : laidOutB Tryd.prog = true := by kernel_rfl
end Go.Proofs.YtjcekkgoohkomaaDoor
