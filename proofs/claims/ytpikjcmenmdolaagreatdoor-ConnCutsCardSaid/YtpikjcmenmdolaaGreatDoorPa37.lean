import Derived.Test.YtpikjcmenmdolaaGreatDoorPa36
import Derived.Test.YtpikjcmenmdolaaGreatDoorPa26
import Derived.ChangeSlices
import Derived.SliceStrings
import Derived.Deep.Slices
import Derived.Carry
/- Slices of bytes, and slices of slices of bytes, among the arguments, opened. -/
namespace Go.Proofs.YtpikjcmenmdolaaGreatDoor
open Go.ChangeShapes Go.WideShapes Go.ChangeAt Go.RowKit
open Go.ChangeMaps (shut_string open_string)

theorem laidOut : laidOutB Tryz.prog = true := by kernel_rfl
section
variable {H : Type} {enc : TypeId × Value → H} {w : World}
theorem at_plainK {a : Addr} {v : Value} {i : Nat} (h : w.cell? (a.add i) = some v) (h0 : ∃ u, w.cell? (a.add 0) = some u) : ∃ g off, a = ⟨g, off, none⟩ ∧ g < w.heap.size ∧ w.cell? ⟨g, off + i, none⟩ = some v := by
  obtain ⟨u, hu⟩ := h0
  obtain ⟨b, off, spot⟩ := a
  have hspot : spot = none := by simpa [Addr.add] using World.cell?_spot hu
  subst hspot
  refine ⟨b, off, rfl, ?_, by rw [← Go.WideShapes.add_plain]; exact h⟩
  have := World.block_lt_of_cell? w _ hu
  simpa [Addr.add] using this
theorem weight_inK {P : Program} {e : TypeId} {d : DataW H} {n : Nat} : ∀ {l : List (DataW H)}, d ∈ l → n ∈ d.weights P e → n ∈ DataW.weightsAll P e l
  | x :: r, hd, hn => by
    simp only [DataW.weightsAll, List.mem_append]
    rcases List.mem_cons.1 hd with e | e
    · subst e; exact .inl hn
    · exact .inr (weight_inK e hn)
set_option maxRecDepth 100000 in
/-- The cells of a slice of bytes, opened. -/
theorem open_bytesK {cs : List Value} {d : DataW H} {p : List MemPlace} {fuel : Nat} (hf : DataW.trod enc Tryz.prog w 0 (fun _ => true) true fuel 40 cs = some (d, p)) (hw : ∀ n ∈ d.weights Tryz.prog 40, n ≤ reachBytes) :
    ∃ v bs, cs = [v] ∧ ReadsD w v bs ∧ bs.length ≤ 140737488355328 := by
  rcases open_ints Tryz.underlying40 Tryz.underlying5 (by kernel_rfl) hf with ⟨hcs, hx⟩ | ⟨a, len, cap, zs, hcs, _, hl, hm, hz, hx, hcell, hwz⟩
  · subst hcs
    exact ⟨_, [], rfl, readsB_nil w, by simp⟩
  · subst hcs
    simp only [if_true] at hz
    simp only [Prod.mk.injEq] at hx
    obtain ⟨rfl, _⟩ := hx
    have hlen : ((zs.take len).map (fun z => UInt8.ofNat z.toNat)).length = len := by simp; omega
    have hread : ∀ j c, ((zs.take len).map (fun z => UInt8.ofNat z.toNat))[j]? = some c → ∃ g off, some a = some (⟨g, off, none⟩ : Addr) ∧ g < w.heap.size ∧ w.cell? ⟨g, off + j, none⟩ = some (.int .u8 (c.toNat : Int)) := by
      intro j c hj
      have hjl : j < len := by have := (List.getElem?_eq_some_iff.mp hj).1; omega
      have hjs : j < zs.length := by omega
      have e : zs.getD j 0 = (c.toNat : Int) := by
        rw [List.getElem?_map, List.getElem?_take, if_pos hjl, List.getElem?_eq_getElem hjs] at hj
        simp only [Option.map_some, Option.some.injEq] at hj
        have hb := bounds_u8 (hwz _ (List.getElem_mem hjs))
        rw [List.getD, List.getElem?_eq_getElem hjs, Option.getD_some, ← hj, UInt8.toNat_ofNat']
        omega
      have hc := hcell j hjs
      rw [e] at hc
      obtain ⟨g, off, h1, h2, h3⟩ := at_plainK hc ⟨_, hcell 0 (by omega)⟩
      exact ⟨g, off, by rw [h1], h2, h3⟩
    have hwt := hw (((lits (H := H) .u8 (zs.take len)).length + (lits (H := H) .u8 (zs.drop len)).length) * Tryz.prog.bytesOf 5) (by
      unfold DataW.weights
      rw [Tryz.underlying40]
      simp)
    have hby : Tryz.prog.bytesOf 5 = 1 := by kernel_rfl
    rw [hby] at hwt
    unfold lits reachBytes at hwt
    simp only [List.length_map, List.length_take, List.length_drop] at hwt
    refine ⟨_, (zs.take len).map (fun z => UInt8.ofNat z.toNat), rfl, ⟨some a, cap, by rw [hlen], by omega, hm, fun h => (by cases h), hread⟩, by omega⟩
set_option maxRecDepth 100000 in
/-- A slice of bytes among the arguments. -/
theorem open_bytesA {v : Value} {d : DataW H} {p : List MemPlace} {base : Nat} (hv : Value.okWide Tryz.prog w .any base 40 v) (h : DataW.Trod enc Tryz.prog w 0 (fun _ => true) true 40 v d p) (hw : ∀ n ∈ d.weights Tryz.prog 40, n ≤ reachBytes) :
    ∃ bs, ReadsD w v bs ∧ bs.length ≤ 140737488355328 := by
  obtain ⟨a0, len, cap, rfl⟩ := okWide_slice Tryz.underlying40 hv
  obtain ⟨fuel, hf⟩ := h
  obtain ⟨u, bs, h1, h2, h3⟩ := open_bytesK (cs := [.slice a0 len cap]) (by simpa [Value.cells] using hf) hw
  simp only [List.cons.injEq, and_true] at h1
  subst h1
  exact ⟨bs, h2, h3⟩
set_option maxRecDepth 100000 in
/-- A slice of slices of bytes among the arguments. -/
theorem open_partsA {v : Value} {d : DataW H} {p : List MemPlace} {base : Nat} (hv : Value.okWide Tryz.prog w .any base 178 v) (h : DataW.Trod enc Tryz.prog w 0 (fun _ => true) true 178 v d p) (hw : ∀ n ∈ d.weights Tryz.prog 178, n ≤ reachBytes) :
    ∃ ls, ReadsL w v ls ∧ ls.length ≤ maxLen ∧ ∀ l ∈ ls, l.length ≤ 140737488355328 := by
  obtain ⟨a0, len0, cap0, rfl⟩ := okWide_slice Tryz.underlying178 hv
  obtain ⟨fuel, hf⟩ := h
  rcases Go.Deep.open_slice Tryz.underlying178 (by simpa [Value.cells] using hf) with ⟨hcs, hx⟩ | ⟨a, len, cap, m, n, D, Pl, hcs, _, hl, hm, hmm, hx, hi⟩
  · simp only [List.cons.injEq, Value.slice.injEq, and_true] at hcs
    obtain ⟨rfl, rfl, rfl⟩ := hcs
    exact ⟨[], ⟨none, 0, rfl, fun j l h => by simp at h⟩, by simp, by simp⟩
  · simp only [List.cons.injEq, Value.slice.injEq, and_true] at hcs
    obtain ⟨rfl, rfl, rfl⟩ := hcs
    simp only [if_true] at hmm
    subst hmm
    simp only [Prod.mk.injEq] at hx
    obtain ⟨rfl, _⟩ := hx
    have hC : Tryz.prog.cellsOf 40 = 1 := by kernel_rfl
    have each : ∀ i, i < len0 → ∃ q : Value × List UInt8, w.cell? (a.add i) = some q.1 ∧ ReadsD w q.1 q.2 ∧ q.2.length ≤ 140737488355328 := by
      intro i hil
      obtain ⟨cs', hc, ht⟩ := hi i (by omega)
      rw [hC, Nat.mul_one] at hc
      obtain ⟨_, hcl, hat⟩ := World.cells?_some hc
      obtain ⟨u, bs, h1, h2, h3⟩ := open_bytesK ht (by
        intro k hk
        refine hw k ?_
        unfold DataW.weights
        rw [Tryz.underlying178]
        simp only [List.mem_cons, List.mem_append]
        exact .inr (.inl (weight_inK (List.mem_map.mpr ⟨i, List.mem_range.mpr hil, rfl⟩) hk)))
      subst h1
      have := hat 0 (by omega)
      rw [show (a.add i).add 0 = a.add i by cases (a.add i); simp [Addr.add]] at this
      exact ⟨(u, bs), by simpa using this, h2, h3⟩
    obtain ⟨q, hq⟩ := Go.Deep.choose_lt each
    have hlen : ((List.range len0).map fun i => (q i).2).length = len0 := by simp
    refine ⟨(List.range len0).map fun i => (q i).2, ⟨some a, m, by rw [hlen], fun j l hj => ?_⟩, by rw [hlen]; omega, ?_⟩
    · have hjl : j < len0 := by have := (List.getElem?_eq_some_iff.mp hj).1; omega
      rw [List.getElem?_map, List.getElem?_range hjl] at hj
      simp only [Option.map_some, Option.some.injEq] at hj
      obtain ⟨h1, h2, _⟩ := hq j hjl
      obtain ⟨g, off, e1, e2, e3⟩ := at_plainK h1 ⟨_, (hq 0 (by omega)).1⟩
      exact ⟨g, off, _, by rw [e1], e2, e3, by rw [← hj]; exact h2⟩
    · intro l hl'
      obtain ⟨i, hi', rfl⟩ := List.mem_map.1 hl'
      exact (hq i (List.mem_range.1 hi')).2.2
end
end Go.Proofs.YtpikjcmenmdolaaGreatDoor
