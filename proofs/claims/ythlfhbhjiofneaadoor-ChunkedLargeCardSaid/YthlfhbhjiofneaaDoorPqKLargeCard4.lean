import Derived.Test.YthlfhbhjiofneaaDoorTie
import Derived.Test.YthlfhbhjiofneaaDoorCards
import Derived.WalkKit
import Derived.ProofKit
import Derived.OpenShut
import Derived.LaidMore
import Derived.Lay
import Derived.SevenTiedAt
import Derived.Stop.Joined
import Derived.Below
import Derived.Stop.LaidErr
import Derived.Lib.LaidTab
import Derived.Shelf.Vars
import Derived.Deep.DeepHandedRow
import Derived.Test.YthlfhbhjiofneaaDoorAMax
import Derived.Test.YthlfhbhjiofneaaDoorPqKLargeCard1
import Derived.Test.YthlfhbhjiofneaaDoorKParts
import Derived.ChangeSlices
import Derived.SliceStrings
import Derived.Deep.Slices
import Derived.Carry
import Derived.Test.YthlfhbhjiofneaaDoorFOwn
import Derived.Deep.SlicePairs
/- What the row of ChunkedSpoilt shares with the others (its laid variables are five): the program's knob, the start that lays the listed variables, what the walks ask of a world, and the row's last step. -/
namespace Go.Proofs.YthlfhbhjiofneaaDoor
open Go.ChangeShapes Go.WideShapes Go.ChangeAt Go.RowKit

theorem own : ownKnob Tryd.prog.godebug = none := by kernel_rfl
def laidL : List (String × DataW Unit) := [("math/bits.deBruijn32tab", Rows.laid_math_bits_deBruijn32tab), ("math/bits.deBruijn64tab", Rows.laid_math_bits_deBruijn64tab), ("internal/strconv.uint64pow10", Rows.laid_internal_strconv_uint64pow10), ("unicode/utf8.acceptRanges", Rows.laid_unicode_utf8_acceptRanges), ("unicode/utf8.first", Rows.laid_unicode_utf8_first)]
theorem laid_plain (w : World) : laidMetH Tryd.prog laidL w = laidMet Tryd.prog laidL w := MakeChecks.laidMetH_plain _ _ _ (by kernel_rfl)
set_option maxRecDepth 100000 in
theorem laid_met (os : Os) (args : Array Value) : laidMetH Tryd.prog laidL ((World.laidAll Tryd.prog os laidL).forCall (fun _ _ => 0) ⟨#[], args, []⟩).memory := by
  rw [laid_plain]; exact laidMet_laidAll _ (by kernel_rfl) (by kernel_rfl)

theorem max_len {W : World} (h : W.ShapedOpen Tryd.prog) : ∃ m, W.cell? ⟨3, 0, none⟩ = some (.int .i64 m) :=
  cell_of_shapedOpen_int (P := Tryd.prog) (g := 3) (t := 3) (zero := #[.int .i64 0]) h (of_decide_eq_true (by kernel_rfl)) (by kernel_rfl) rfl (by kernel_rfl) (by kernel_rfl) Tryd.underlying3
/-- What the walks ask of a world holds where a row's call begins. -/
theorem has_max {W : World} (hsh : W.ShapedOpen Tryd.prog) : HasMax W := max_len hsh
theorem gDb : Tryd.prog.globalNamed "math/bits.deBruijn64tab" = some 2 := by kernel_rfl
theorem tDb : (Tryd.prog.globals[(2 : Nat)]?).map (·.type) = some 108 := by kernel_rfl
theorem eDb : (Rows.laid_math_bits_deBruijn64tab : DataW Unit) = Lib.tabData .u8 (Lib.deBruijn64tab.map fun n : Nat => (n : Int)) := by rfl
theorem db_of {W : World} {rest : List (String × DataW Unit)} (h : laidMet Tryd.prog (("math/bits.deBruijn64tab", Rows.laid_math_bits_deBruijn64tab) :: rest) W) : Lib.TabIs Tryd.prog W "math/bits.deBruijn64tab" .u8 (Lib.deBruijn64tab.map fun n : Nat => (n : Int)) := by
  rw [eDb] at h
  exact Lib.tabIs_of_head gDb tDb Tryd.underlying108 Tryd.underlying5 (by kernel_rfl) (by kernel_rfl) h
theorem has_db {W : World} (hL : laidMetH Tryd.prog laidL W) : HasDb W := by
  rw [laid_plain] at hL
  have h := db_of hL.tail
  exact (h.cell gDb 15 (by decide)).trans rfl
section
variable {H : Type} {enc : TypeId × Value → H}
/-- The witness of a row at a world of one's own making whose shape is shown by other means. -/
theorem witness_row_shaped {C : Checked} {os : Os} {f : FuncId} {fn : Func} {s : OpenSpec} {conds : List PathCond} {apart : Bool} {laid : List (String × DataW Unit)} (modest : Bool) (w0 : World) (args : Array Value) (hos : w0.os = os)
    (hsh : (w0.forCall (fun _ _ => 0) ⟨#[], args, []⟩).Shaped C.prog)
    (hok : Input.okWideB C.prog (w0.forCall (fun _ _ => 0) ⟨#[], args, []⟩) f ⟨#[], args, []⟩ = true)
    (hrow : s.preRow enc C.prog fn conds apart laid (w0.forCall (fun _ _ => 0) ⟨#[], args, []⟩).memory args) :
    ∃ (w : World) (tape : Tape) (i : Input), w.os = os ∧ (w.forCall tape i).Shaped C.prog ∧ i.vars = [] ∧ Input.okWide C.prog (w.forCall tape i) .any w.heap.size f i ∧
      s.preRow enc C.prog fn conds apart laid (w.forCall tape i).memory i.args ∧ ({ modest := modest } : Assume).holds C.prog (lone (Frame.enter C.prog f i.args .normal) [] (w.forCall tape i)) :=
  ⟨w0, fun _ _ => 0, ⟨#[], args, []⟩, hos, hsh, (Input.okWide_of_okWideB (base := 0) hok).1, (Input.okWide_of_okWideB hok).2, hrow, by
    simp only [Assume.holds]
    exact ⟨by simp, by simp, fun _ => Modest.zero, by simp, by simp⟩⟩
end
section
variable {H : Type} {enc : TypeId × Value → H} {P : Program}
/-- The row's last step from 'Below': what was there when the call began is as it was; new blocks may have come. -/
theorem post_below {f : Func} {s : ChangeSpec} {apart fresh handsOn again : Bool} {W W' : World} {args : Array Value} {v : Value} {ds gs : List (DataW H)} {before pa pv : List MemPlace}
    (hW : DataW.Whole enc P f.params.toList s.vars apart W args.toList ds gs before)
    (hres : ∀ (b : Nat) (sp : Nat → Bool) (hd : Bool), DataW.TrodAll enc P W' b sp hd f.resultTypes.toList (v.resultList f.resultTypes.size) (s.fn H (ds ++ gs)).results [])
    (hargs : ∀ sp : Nat → Bool, (∀ p ∈ before, sp p.block = true) → DataW.TrodAll enc P W' 0 sp true f.params.toList args.toList (s.fn H (ds ++ gs)).args pa)
    (hvars : ∀ sp : Nat → Bool, (∀ p ∈ before, sp p.block = true) → DataW.TrodVars enc P W' sp s.vars (s.fn H (ds ++ gs)).vars pv)
    (hps : before = pa ++ pv) (hb : Below W.heap.size W W')
    (hok : ∀ (j : Nat) (t : TypeId) (r : Value), f.resultTypes[j]? = some t → (v.resultList f.resultTypes.size)[j]? = some r → Value.okWide P W' .any 0 t r) :
    s.post enc P f apart fresh handsOn again W args v W' := by
  have lt : ∀ p ∈ before, p.block < W.heap.size := fun p hp => hW.lt p hp
  have old : ∀ p ∈ before, (fun b => decide (b < W.heap.size)) p.block = true := fun p hp => by simpa using lt p hp
  refine ⟨ds, gs, before, [], pa, pv, hW, hres _ _ _, hargs _ old, hvars _ old, World.keptBut_mono (fun p hp => ⟨hp, ?_⟩) (hb.frame (· ∈ before)), fun _ => ?_⟩
  · rw [hps, List.mem_append] at hp
    exact Or.inr hp
  · obtain ⟨_, _, _, _, _, hz, hn⟩ := hW
    refine ⟨hok, _, _, ([] ++ pa) ++ pv, ⟨[] ++ pa, pv, trodAll_append (hargs _ (fun _ _ => rfl)) (hres _ _ _), hvars _ (fun _ _ => rfl), rfl, ?_, ?_⟩, ?_⟩
    · intro b off hp
      have hin : MemPlace.cell b off ∈ before := by rw [hps]; simpa using hp
      rw [hb.frozen (lt _ hin)]
      exact hz b off hin
    · intro ha
      have := hn ha
      rw [hps] at this
      simpa using this
    · intro p hp _
      rw [hps]
      simpa using hp
end
end Go.Proofs.YthlfhbhjiofneaaDoor

/- Slices of bytes, and slices of slices of bytes, among the arguments, opened. -/
namespace Go.Proofs.YthlfhbhjiofneaaDoor
open Go.ChangeShapes Go.WideShapes Go.ChangeAt Go.RowKit
open Go.ChangeMaps (shut_string open_string)

theorem laidOut : laidOutB Tryd.prog = true := by kernel_rfl
section
variable {H : Type} {enc : TypeId × Value → H} {w : World}
theorem at_plainK {a : Addr} {v : Value} {i : Nat} (h : w.cell? (a.add i) = some v) (h0 : ∃ u, w.cell? (a.add 0) = some u) : ∃ g off, a = ⟨g, off, none⟩ ∧ g < w.heap.size ∧ w.cell? ⟨g, off + i, none⟩ = some v := by
  obtain ⟨u, hu⟩ := h0
  obtain ⟨b, off, spot⟩ := a
  have hspot : spot = none := by simpa [Addr.add] using World.cell?_spot hu
  subst hspot
  refine ⟨b, off, rfl, ?_, by rw [← Go.WideShapes.add_plain]; exact h⟩
  have := World.block_lt_of_cell? w _ hu
  simpa [Addr.add] using this
theorem weight_inK {P : Program} {e : TypeId} {d : DataW H} {n : Nat} : ∀ {l : List (DataW H)}, d ∈ l → n ∈ d.weights P e → n ∈ DataW.weightsAll P e l
  | x :: r, hd, hn => by
    simp only [DataW.weightsAll, List.mem_append]
    rcases List.mem_cons.1 hd with e | e
    · subst e; exact .inl hn
    · exact .inr (weight_inK e hn)
set_option maxRecDepth 100000 in
/-- The cells of a slice of bytes, opened. -/
theorem open_bytesK {cs : List Value} {d : DataW H} {p : List MemPlace} {fuel : Nat} (hf : DataW.trod enc Tryd.prog w 0 (fun _ => true) true fuel 27 cs = some (d, p)) (hw : ∀ n ∈ d.weights Tryd.prog 27, n ≤ reachBytes) :
    ∃ v bs, cs = [v] ∧ ReadsD w v bs ∧ bs.length ≤ 140737488355328 := by
  rcases open_ints Tryd.underlying27 Tryd.underlying5 (by kernel_rfl) hf with ⟨hcs, hx⟩ | ⟨a, len, cap, zs, hcs, _, hl, hm, hz, hx, hcell, hwz⟩
  · subst hcs
    exact ⟨_, [], rfl, readsB_nil w, by simp⟩
  · subst hcs
    simp only [if_true] at hz
    simp only [Prod.mk.injEq] at hx
    obtain ⟨rfl, _⟩ := hx
    have hlen : ((zs.take len).map (fun z => UInt8.ofNat z.toNat)).length = len := by simp; omega
    have hread : ∀ j c, ((zs.take len).map (fun z => UInt8.ofNat z.toNat))[j]? = some c → ∃ g off, some a = some (⟨g, off, none⟩ : Addr) ∧ g < w.heap.size ∧ w.cell? ⟨g, off + j, none⟩ = some (.int .u8 (c.toNat : Int)) := by
      intro j c hj
      have hjl : j < len := by have := (List.getElem?_eq_some_iff.mp hj).1; omega
      have hjs : j < zs.length := by omega
      have e : zs.getD j 0 = (c.toNat : Int) := by
        rw [List.getElem?_map, List.getElem?_take, if_pos hjl, List.getElem?_eq_getElem hjs] at hj
        simp only [Option.map_some, Option.some.injEq] at hj
        have hb := bounds_u8 (hwz _ (List.getElem_mem hjs))
        rw [List.getD, List.getElem?_eq_getElem hjs, Option.getD_some, ← hj, UInt8.toNat_ofNat']
        omega
      have hc := hcell j hjs
      rw [e] at hc
      obtain ⟨g, off, h1, h2, h3⟩ := at_plainK hc ⟨_, hcell 0 (by omega)⟩
      exact ⟨g, off, by rw [h1], h2, h3⟩
    have hwt := hw (((lits (H := H) .u8 (zs.take len)).length + (lits (H := H) .u8 (zs.drop len)).length) * Tryd.prog.bytesOf 5) (by
      unfold DataW.weights
      rw [Tryd.underlying27]
      simp)
    have hby : Tryd.prog.bytesOf 5 = 1 := by kernel_rfl
    rw [hby] at hwt
    unfold lits reachBytes at hwt
    simp only [List.length_map, List.length_take, List.length_drop] at hwt
    refine ⟨_, (zs.take len).map (fun z => UInt8.ofNat z.toNat), rfl, ⟨some a, cap, by rw [hlen], by omega, hm, fun h => (by cases h), hread⟩, by omega⟩
set_option maxRecDepth 100000 in
/-- A slice of bytes among the arguments. -/
theorem open_bytesA {v : Value} {d : DataW H} {p : List MemPlace} {base : Nat} (hv : Value.okWide Tryd.prog w .any base 27 v) (h : DataW.Trod enc Tryd.prog w 0 (fun _ => true) true 27 v d p) (hw : ∀ n ∈ d.weights Tryd.prog 27, n ≤ reachBytes) :
    ∃ bs, ReadsD w v bs ∧ bs.length ≤ 140737488355328 := by
  obtain ⟨a0, len, cap, rfl⟩ := okWide_slice Tryd.underlying27 hv
  obtain ⟨fuel, hf⟩ := h
  obtain ⟨u, bs, h1, h2, h3⟩ := open_bytesK (cs := [.slice a0 len cap]) (by simpa [Value.cells] using hf) hw
  simp only [List.cons.injEq, and_true] at h1
  subst h1
  exact ⟨bs, h2, h3⟩
set_option maxRecDepth 100000 in
/-- A slice of slices of bytes among the arguments. -/
theorem open_partsA {v : Value} {d : DataW H} {p : List MemPlace} {base : Nat} (hv : Value.okWide Tryd.prog w .any base 22 v) (h : DataW.Trod enc Tryd.prog w 0 (fun _ => true) true 22 v d p) (hw : ∀ n ∈ d.weights Tryd.prog 22, n ≤ reachBytes) :
    ∃ ls, ReadsL w v ls ∧ ls.length ≤ maxLen ∧ ∀ l ∈ ls, l.length ≤ 140737488355328 := by
  obtain ⟨a0, len0, cap0, rfl⟩ := okWide_slice Tryd.underlying22 hv
  obtain ⟨fuel, hf⟩ := h
  rcases Go.Deep.open_slice Tryd.underlying22 (by simpa [Value.cells] using hf) with ⟨hcs, hx⟩ | ⟨a, len, cap, m, n, D, Pl, hcs, _, hl, hm, hmm, hx, hi⟩
  · simp only [List.cons.injEq, Value.slice.injEq, and_true] at hcs
    obtain ⟨rfl, rfl, rfl⟩ := hcs
    exact ⟨[], ⟨none, 0, rfl, fun j l h => by simp at h⟩, by simp, by simp⟩
  · simp only [List.cons.injEq, Value.slice.injEq, and_true] at hcs
    obtain ⟨rfl, rfl, rfl⟩ := hcs
    simp only [if_true] at hmm
    subst hmm
    simp only [Prod.mk.injEq] at hx
    obtain ⟨rfl, _⟩ := hx
    have hC : Tryd.prog.cellsOf 27 = 1 := by kernel_rfl
    have each : ∀ i, i < len0 → ∃ q : Value × List UInt8, w.cell? (a.add i) = some q.1 ∧ ReadsD w q.1 q.2 ∧ q.2.length ≤ 140737488355328 := by
      intro i hil
      obtain ⟨cs', hc, ht⟩ := hi i (by omega)
      rw [hC, Nat.mul_one] at hc
      obtain ⟨_, hcl, hat⟩ := World.cells?_some hc
      obtain ⟨u, bs, h1, h2, h3⟩ := open_bytesK ht (by
        intro k hk
        refine hw k ?_
        unfold DataW.weights
        rw [Tryd.underlying22]
        simp only [List.mem_cons, List.mem_append]
        exact .inr (.inl (weight_inK (List.mem_map.mpr ⟨i, List.mem_range.mpr hil, rfl⟩) hk)))
      subst h1
      have := hat 0 (by omega)
      rw [show (a.add i).add 0 = a.add i by cases (a.add i); simp [Addr.add]] at this
      exact ⟨(u, bs), by simpa using this, h2, h3⟩
    obtain ⟨q, hq⟩ := Go.Deep.choose_lt each
    have hlen : ((List.range len0).map fun i => (q i).2).length = len0 := by simp
    refine ⟨(List.range len0).map fun i => (q i).2, ⟨some a, m, by rw [hlen], fun j l hj => ?_⟩, by rw [hlen]; omega, ?_⟩
    · have hjl : j < len0 := by have := (List.getElem?_eq_some_iff.mp hj).1; omega
      rw [List.getElem?_map, List.getElem?_range hjl] at hj
      simp only [Option.map_some, Option.some.injEq] at hj
      obtain ⟨h1, h2, _⟩ := hq j hjl
      obtain ⟨g, off, e1, e2, e3⟩ := at_plainK h1 ⟨_, (hq 0 (by omega)).1⟩
      exact ⟨g, off, _, by rw [e1], e2, e3, by rw [← hj]; exact h2⟩
    · intro l hl'
      obtain ⟨i, hi', rfl⟩ := List.mem_map.1 hl'
      exact (hq i (List.mem_range.1 hi')).2.2
end
end Go.Proofs.YthlfhbhjiofneaaDoor

/- A slice of the reference's fields among the arguments, opened. -/
namespace Go.Proofs.YthlfhbhjiofneaaDoor
open Go.ChangeShapes Go.WideShapes Go.ChangeAt Go.RowKit

set_option maxRecDepth 100000 in
/-- A slice of the reference's fields among the arguments. -/
theorem open_fieldsQ {H : Type} {enc : TypeId × Value → H} {w : World} {v : Value} {d : DataW H} {p : List MemPlace} (h : ∃ fuel, DataW.trod enc Tryd.prog w 0 (fun _ => true) true fuel 23 [v] = some (d, p)) (hw : ∀ n ∈ d.weights Tryd.prog 23, n ≤ reachBytes) :
    ∃ ps : List (List UInt8 × List UInt8), ReadsQ w v ps ∧ ps.length ≤ maxLen ∧ (∀ q ∈ ps, q.1.length ≤ 140737488355328 ∧ q.2.length ≤ 140737488355328) := by
  obtain ⟨fuel, hf⟩ := h
  rcases Go.Deep.open_slice_pairs Tryd.underlying23 Tryd.underlying51 (by kernel_rfl) rfl rfl (by kernel_rfl) (by kernel_rfl) hf with ⟨hcs, hx⟩ | ⟨a, len, cap, m, n, V0, V1, D0, D1, P0, P1, hcs, _, hl, hm, hmm, hx, hall⟩
  · simp only [List.cons.injEq, and_true] at hcs
    subst hcs
    exact ⟨[], ⟨none, 0, rfl, fun j l h => by simp at h⟩, by simp, by simp⟩
  · simp only [List.cons.injEq, and_true] at hcs
    subst hcs
    simp only [Prod.mk.injEq] at hx
    obtain ⟨rfl, _⟩ := hx
    simp only [if_true] at hmm
    subst hmm
    have each : ∀ i, i < len → ∃ q : ByteArray × ByteArray, V0 i = .string q.1 ∧ V1 i = .string q.2 ∧ D0 i = .lit (.string q.1.data.toList) ∧ D1 i = .lit (.string q.2.data.toList) := by
      intro i hi
      obtain ⟨_, _, t0, t1⟩ := hall i (by omega)
      obtain ⟨s0, e0, f0, _⟩ := DataW.trod_string Tryd.underlying9 t0
      obtain ⟨s1, e1, f1, _⟩ := DataW.trod_string Tryd.underlying9 t1
      simp only [List.cons.injEq, and_true, Prod.mk.injEq] at e0 e1 f0 f1
      exact ⟨(s0, s1), e0, e1, f0.1, f1.1⟩
    obtain ⟨q, hq⟩ := Go.Deep.choose_lt each
    have hlen : ((List.range len).map fun i => ((q i).1.data.toList, (q i).2.data.toList)).length = len := by simp
    have hwt : ∀ i, i < len → (q i).1.data.toList.length ≤ 140737488355328 ∧ (q i).2.data.toList.length ≤ 140737488355328 := by
      intro i hi
      obtain ⟨_, _, d0, d1⟩ := hq i hi
      have hin : (DataW.agg [D0 i, D1 i]) ∈ (List.range len).map fun i => DataW.agg [D0 i, D1 i] := List.mem_map.mpr ⟨i, List.mem_range.mpr hi, rfl⟩
      have key : ∀ k ∈ (DataW.agg [D0 i, D1 i]).weights Tryd.prog 51, k ≤ reachBytes := by
        intro k hk
        refine hw k ?_
        unfold DataW.weights
        rw [Tryd.underlying23]
        simp only [List.mem_cons, List.mem_append]
        exact .inr (.inl (weight_inK hin hk))
      unfold DataW.weights at key
      rw [Tryd.underlying51] at key
      rw [d0, d1] at key
      simp only [DataW.weightsEach, DataW.weights, List.map_cons, List.map_nil, List.mem_append, List.mem_cons, List.not_mem_nil, or_false] at key
      have k0 := key _ (.inl rfl)
      have k1 := key _ (.inr rfl)
      unfold reachBytes at k0 k1
      omega
    refine ⟨(List.range len).map fun i => ((q i).1.data.toList, (q i).2.data.toList), ⟨some a, m, by rw [hlen], fun j l hj => ?_⟩, ?_, ?_⟩
    · have hjl : j < len := by have := (List.getElem?_eq_some_iff.mp hj).1; omega
      have hj' : ((q j).1.data.toList, (q j).2.data.toList) = l := by
        rw [List.getElem?_map, List.getElem?_range hjl] at hj
        exact Option.some.inj hj
      obtain ⟨c0, c1, _, _⟩ := hall j (by omega)
      obtain ⟨v0, v1, _, _⟩ := hq j hjl
      obtain ⟨z0, _, _, _⟩ := hall 0 (by omega)
      obtain ⟨b, off, spot⟩ := a
      have hspot : spot = none := by simpa [Addr.add] using World.cell?_spot z0
      subst hspot
      have hlt : b < w.heap.size := by have := World.block_lt_of_cell? w _ z0; simpa [Addr.add] using this
      rw [v0, Go.WideShapes.add_plain] at c0
      rw [v1, Go.WideShapes.add_plain, ← Nat.add_assoc] at c1
      subst hj'
      exact ⟨b, off, rfl, hlt, by rw [strB_of]; exact c0, by rw [strB_of]; exact c1⟩
    · rw [hlen]; omega
    · intro x hx
      obtain ⟨i, hi, rfl⟩ := List.mem_map.mp hx
      exact hwt i (List.mem_range.mp hi)

set_option maxRecDepth 100000 in
theorem open_fieldsA {H : Type} {enc : TypeId × Value → H} {w : World} {v : Value} {d : DataW H} {p : List MemPlace} {base : Nat} (hv : Value.okWide Tryd.prog w .any base 23 v) (h : DataW.Trod enc Tryd.prog w 0 (fun _ => true) true 23 v d p) (hw : ∀ n ∈ d.weights Tryd.prog 23, n ≤ reachBytes) :
    ∃ ps : List (List UInt8 × List UInt8), ReadsQ w v ps ∧ ps.length ≤ maxLen ∧ (∀ q ∈ ps, q.1.length ≤ 140737488355328 ∧ q.2.length ≤ 140737488355328) := by
  obtain ⟨a0, len, cap, rfl⟩ := okWide_slice Tryd.underlying23 hv
  obtain ⟨fuel, hf⟩ := h
  exact open_fieldsQ ⟨fuel, by simpa [Value.cells] using hf⟩ hw
end Go.Proofs.YthlfhbhjiofneaaDoor
