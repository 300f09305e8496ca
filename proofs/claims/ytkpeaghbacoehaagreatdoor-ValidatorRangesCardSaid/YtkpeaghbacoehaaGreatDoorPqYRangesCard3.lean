import Derived.Test.YtkpeaghbacoehaaGreatDoorTie
import Derived.Test.YtkpeaghbacoehaaGreatDoorCards
import Derived.WalkKit
import Derived.ProofKit
import Derived.OpenShut
import Derived.LaidMore
import Derived.Lay
import Derived.SevenTiedAt
import Derived.Stop.Joined
import Derived.Below
import Derived.Stop.LaidErr
import Derived.Shelf.Vars
import Derived.Deep.DeepHandedRow
import Derived.Test.YtkpeaghbacoehaaGreatDoorPqYRangesCard1
import Derived.Deep.SlicePairs
import Derived.Carry
import Derived.Test.YtkpeaghbacoehaaGreatDoorPqYRangesCard2
import Derived.Deep.RegionHeld3
import Derived.Deep.DeepCutAuto
import Derived.Deep.CutBlock
/- What every row of layer 10 shares: the program's knob, the start that lays the nine listed variables, what the walks ask of a world, and the row's last step. -/
namespace Go.Proofs.YtkpeaghbacoehaaGreatDoor
open Go.ChangeShapes Go.WideShapes Go.ChangeAt Go.RowKit

theorem own : ownKnob Tryz.prog.godebug = none := by kernel_rfl
def laidA : List (String × DataW Unit) := Rows.validatorTagsRow.laid
theorem laid_plainA (w : World) : laidMetH Tryz.prog laidA w = laidMet Tryz.prog laidA w := MakeChecks.laidMetH_plain _ _ _ (by kernel_rfl)
set_option maxRecDepth 100000 in
theorem laid_metA (os : Os) (args : Array Value) : laidMetH Tryz.prog laidA ((World.laidAll Tryz.prog os laidA).forCall (fun _ _ => 0) ⟨#[], args, []⟩).memory := by
  rw [laid_plainA]; exact laidMet_laidAll _ (by kernel_rfl) (by kernel_rfl)
/-- An array of strings that reads as a list of strings holds them. -/
theorem cells_of_strs {H : Type} {enc : TypeId × Value → H} {P : Program} {w : World} {base : Nat} {sp : Nat → Bool} {held : Bool} {fuel : Nat} {t e : TypeId} {n : Nat} {cs : List Value} {ls : List (List UInt8)} {p : List MemPlace}
    (ht : P.underlying t = some (.array n e)) (he : P.underlying e = some .string) (hce : P.cellsOf e = 1) (hct : P.cellsOf t = n)
    (h : DataW.trod enc P w base sp held fuel t cs = some (.agg (ls.map fun l => .lit (.string l)), p)) : cs = ls.map fun l => Value.string (strB l) := by
  cases fuel with
  | zero => simp [DataW.trod] at h
  | succ fuel =>
    simp only [DataW.trod, ht, hce, hct, Nat.mul_one] at h
    split at h
    · rename_i hl
      obtain ⟨xs, hm, hx⟩ := Option.map_eq_some_iff.1 h
      have hxs : xs.map (·.1) = ls.map fun l => (DataW.lit (.string l) : DataW H) := by
        have := congrArg Prod.fst hx
        simpa using this
      have hxl : xs.length = n := by simpa using Lib.mapM_length hm
      have hzl : ls.length = n := by
        have := congrArg List.length hxs
        simp at this
        omega
      apply List.ext_getElem?
      intro i
      by_cases hi : i < n
      · obtain ⟨b, hb, hf⟩ := Lib.mapM_at hm i i (by simp [hi])
        obtain ⟨z, hc, hz, _⟩ := DataW.trod_string he hf
        have h1 : cs[i]? = some (.string z) := by
          have := congrArg (·[0]?) hc
          simpa [List.getElem?_take, List.getElem?_drop] using this
        have h2 : (xs.map (·.1))[i]? = some (DataW.lit (.string z.data.toList) : DataW H) := by simp [hb, hz]
        rw [hxs] at h2
        simp only [List.getElem?_map, Option.map_eq_some_iff, DataW.lit.injEq, Lit.string.injEq] at h2
        obtain ⟨z', hz', e⟩ := h2
        rw [h1]
        simp [hz', e, strB_of]
      · rw [List.getElem?_eq_none (by omega), List.getElem?_eq_none (by simp; omega)]
    · cases h
theorem strs_of_head {P : Program} {W : World} {name : String} {ls : List (List UInt8)} {rest : List (String × DataW Unit)} {g : Nat} {t e : TypeId} {n : Nat}
    (hg : P.globalNamed name = some g) (hty : (P.globals[g]?).map (·.type) = some t) (ht : P.underlying t = some (.array n e)) (he : P.underlying e = some .string) (hce : P.cellsOf e = 1) (hct : P.cellsOf t = n)
    (h : laidMet P ((name, .agg (ls.map fun l => .lit (.string l))) :: rest) W) : W.var? P name = some (ls.map fun l => Value.string (strB l)).toArray := by
  obtain ⟨ps, ⟨g', t', cs, fuel, p, q, hg', ht', hvar, hd, _, _⟩, _⟩ := h
  obtain rfl := Option.some.inj (hg.symm.trans hg')
  obtain rfl := Option.some.inj (hty.symm.trans ht')
  rw [hvar, ← cells_of_strs ht he hce hct hd]
theorem tTab : (Tryz.prog.globals[(7 : Nat)]?).map (·.type) = some 181 := by kernel_rfl
theorem tMon : (Tryz.prog.globals[(0 : Nat)]?).map (·.type) = some 131 := by kernel_rfl
theorem tDay : (Tryz.prog.globals[(1 : Nat)]?).map (·.type) = some 134 := by kernel_rfl
theorem eTab : (Rows.laid_internal_strconv_uint64pow10 : DataW Unit) = Lib.tabData .u64 Lib.pow10Tab := by rfl
theorem eMon : (Rows.laid_quayside_httpdate_monthNames : DataW Unit) = .agg ([moS 1, moS 2, moS 3, moS 4, moS 5, moS 6, moS 7, moS 8, moS 9, moS 10, moS 11, moS 12].map fun l => .lit (.string l)) := by rfl
theorem eDay : (Rows.laid_quayside_httpdate_weekdayNames : DataW Unit) = .agg ([wdS 0, wdS 1, wdS 2, wdS 3, wdS 4, wdS 5, wdS 6].map fun l => .lit (.string l)) := by rfl
theorem tab_of {W : World} {rest : List (String × DataW Unit)} (h : laidMet Tryz.prog (("internal/strconv.uint64pow10", Rows.laid_internal_strconv_uint64pow10) :: rest) W) : Lib.TabIs Tryz.prog W "internal/strconv.uint64pow10" .u64 Lib.pow10Tab := by
  rw [eTab] at h
  exact Lib.tabIs_of_head gTab tTab Tryz.underlying181 Tryz.underlying165 (by kernel_rfl) (by kernel_rfl) h
theorem mon_of {W : World} {rest : List (String × DataW Unit)} (h : laidMet Tryz.prog (("quayside/httpdate.monthNames", Rows.laid_quayside_httpdate_monthNames) :: rest) W) : W.var? Tryz.prog "quayside/httpdate.monthNames" = some monA := by
  rw [eMon] at h
  exact strs_of_head gMon tMon Tryz.underlying131 Tryz.underlying9 (by kernel_rfl) (by kernel_rfl) h
theorem day_of {W : World} {rest : List (String × DataW Unit)} (h : laidMet Tryz.prog (("quayside/httpdate.weekdayNames", Rows.laid_quayside_httpdate_weekdayNames) :: rest) W) : W.var? Tryz.prog "quayside/httpdate.weekdayNames" = some dayA := by
  rw [eDay] at h
  exact strs_of_head gDay tDay Tryz.underlying134 Tryz.underlying9 (by kernel_rfl) (by kernel_rfl) h
theorem gES : Tryz.prog.globalNamed "strconv.ErrSyntax" = some 5 := by kernel_rfl
theorem gESType : (Tryz.prog.globals[(5 : Nat)]?).map (·.type) = some 26 := by kernel_rfl
theorem star : "*" ++ "errors.errorString" = "*errors.errorString" := by decide
theorem rowES (u : TypeId) (h : Tryz.prog.typeName? 3 u = some "*errors.errorString") : u = 177 :=
  typeName_ptr_named (nm := "errors.errorString") (by rw [star]; kernel_rfl) (by kernel_rfl) (by decide) u (by rw [star]; exact h)
theorem envP_of {W : World} (hL : laidMetH Tryz.prog laidA W) : EnvP W := by
  rw [laid_plainA] at hL
  have hT := hL.tail.tail.tail.tail.tail
  obtain ⟨a, s, hv, -, -, -⟩ := laid_sentinel (text := [105, 110, 118, 97, 108, 105, 100, 32, 115, 121, 110, 116, 97, 120]) hT gES gESType Tryz.underlying26 rowES Tryz.underlying177 Tryz.underlying179 rfl rfl Tryz.underlying9 (by kernel_rfl) (by kernel_rfl)
  have h0 := World.var?_cell gES hv 0
  exact ⟨⟨tab_of hL.tail.tail, mon_of hT.tail.tail, day_of hT.tail⟩, _, by simpa using h0, Or.inr ⟨_, _, rfl⟩⟩
theorem max_len {W : World} (h : W.ShapedOpen Tryz.prog) : ∃ m, W.cell? ⟨2, 0, none⟩ = some (.int .i64 m) :=
  cell_of_shapedOpen_int (P := Tryz.prog) (g := 2) (t := 3) (zero := #[.int .i64 0]) h (of_decide_eq_true (by kernel_rfl)) (by kernel_rfl) rfl (by kernel_rfl) (by kernel_rfl) Tryz.underlying3
/-- What the walks ask of a world holds where a row's call begins. -/
theorem has_max {W : World} (hsh : W.ShapedOpen Tryz.prog) : MaxIs W := max_len hsh
theorem env_y {W : World} (hL : laidMetH Tryz.prog laidA W) (hsh : W.ShapedOpen Tryz.prog) : EnvY W := ⟨has_max hsh, envP_of hL⟩
section
variable {H : Type} {enc : TypeId × Value → H}
/-- The witness of a row at a world of one's own making whose shape is shown by other means. -/
theorem witness_row_shaped {C : Checked} {os : Os} {f : FuncId} {fn : Func} {s : OpenSpec} {conds : List PathCond} {apart : Bool} {laid : List (String × DataW Unit)} (modest : Bool) (w0 : World) (args : Array Value) (hos : w0.os = os)
    (hsh : (w0.forCall (fun _ _ => 0) ⟨#[], args, []⟩).Shaped C.prog)
    (hok : Input.okWideB C.prog (w0.forCall (fun _ _ => 0) ⟨#[], args, []⟩) f ⟨#[], args, []⟩ = true)
    (hrow : s.preRow enc C.prog fn conds apart laid (w0.forCall (fun _ _ => 0) ⟨#[], args, []⟩).memory args) :
    ∃ (w : World) (tape : Tape) (i : Input), w.os = os ∧ (w.forCall tape i).Shaped C.prog ∧ i.vars = [] ∧ Input.okWide C.prog (w.forCall tape i) .any w.heap.size f i ∧
      s.preRow enc C.prog fn conds apart laid (w.forCall tape i).memory i.args ∧ ({ modest := modest } : Assume).holds C.prog (lone (Frame.enter C.prog f i.args .normal) [] (w.forCall tape i)) :=
  ⟨w0, fun _ _ => 0, ⟨#[], args, []⟩, hos, hsh, (Input.okWide_of_okWideB (base := 0) hok).1, (Input.okWide_of_okWideB hok).2, hrow, by
    simp only [Assume.holds]
    exact ⟨by simp, by simp, fun _ => Modest.zero, by simp, by simp⟩⟩
end
section
variable {H : Type} {enc : TypeId × Value → H} {P : Program}
/-- The row's last step from 'Below': what was there when the call began is as it was; new blocks may have come. -/
theorem post_below {f : Func} {s : ChangeSpec} {apart fresh handsOn again : Bool} {W W' : World} {args : Array Value} {v : Value} {ds gs : List (DataW H)} {before pa pv : List MemPlace}
    (hW : DataW.Whole enc P f.params.toList s.vars apart W args.toList ds gs before)
    (hres : ∀ (b : Nat) (sp : Nat → Bool) (hd : Bool), DataW.TrodAll enc P W' b sp hd f.resultTypes.toList (v.resultList f.resultTypes.size) (s.fn H (ds ++ gs)).results [])
    (hargs : ∀ sp : Nat → Bool, (∀ p ∈ before, sp p.block = true) → DataW.TrodAll enc P W' 0 sp true f.params.toList args.toList (s.fn H (ds ++ gs)).args pa)
    (hvars : ∀ sp : Nat → Bool, (∀ p ∈ before, sp p.block = true) → DataW.TrodVars enc P W' sp s.vars (s.fn H (ds ++ gs)).vars pv)
    (hps : before = pa ++ pv) (hb : Below W.heap.size W W')
    (hok : ∀ (j : Nat) (t : TypeId) (r : Value), f.resultTypes[j]? = some t → (v.resultList f.resultTypes.size)[j]? = some r → Value.okWide P W' .any 0 t r) :
    s.post enc P f apart fresh handsOn again W args v W' := by
  have lt : ∀ p ∈ before, p.block < W.heap.size := fun p hp => hW.lt p hp
  have old : ∀ p ∈ before, (fun b => decide (b < W.heap.size)) p.block = true := fun p hp => by simpa using lt p hp
  refine ⟨ds, gs, before, [], pa, pv, hW, hres _ _ _, hargs _ old, hvars _ old, World.keptBut_mono (fun p hp => ⟨hp, ?_⟩) (hb.frame (· ∈ before)), fun _ => ?_⟩
  · rw [hps, List.mem_append] at hp
    exact Or.inr hp
  · obtain ⟨_, _, _, _, _, hz, hn⟩ := hW
    refine ⟨hok, _, _, ([] ++ pa) ++ pv, ⟨[] ++ pa, pv, trodAll_append (hargs _ (fun _ _ => rfl)) (hres _ _ _), hvars _ (fun _ _ => rfl), rfl, ?_, ?_⟩, ?_⟩
    · intro b off hp
      have hin : MemPlace.cell b off ∈ before := by rw [hps]; simpa using hp
      rw [hb.frozen (lt _ hin)]
      exact hz b off hin
    · intro ha
      have := hn ha
      rw [hps] at this
      simpa using this
    · intro p hp _
      rw [hps]
      simpa using hp
end
end Go.Proofs.YtkpeaghbacoehaaGreatDoor

/- A tag and a conditional request of the reference among the arguments, opened. -/
namespace Go.Proofs.YtkpeaghbacoehaaGreatDoor
open Go.ChangeShapes Go.WideShapes Go.ChangeAt Go.RowKit
open Go.ChangeMaps (shut_string open_string)

theorem laidOut : laidOutB Tryz.prog = true := by kernel_rfl
theorem weight_in {H : Type} {P : Program} {e : TypeId} {d : DataW H} {n : Nat} : ∀ {l : List (DataW H)}, d ∈ l → n ∈ d.weights P e → n ∈ DataW.weightsAll P e l
  | x :: r, hd, hn => by
    simp only [DataW.weightsAll, List.mem_append]
    rcases List.mem_cons.1 hd with e | e
    · subst e; exact .inl hn
    · exact .inr (weight_in e hn)
set_option maxRecDepth 100000 in
/-- A slice of the reference's fields among the arguments. -/
theorem open_fields {H : Type} {enc : TypeId × Value → H} {w : World} {v : Value} {d : DataW H} {p : List MemPlace} (h : ∃ fuel, DataW.trod enc Tryz.prog w 0 (fun _ => true) true fuel 50 [v] = some (d, p)) (hw : ∀ n ∈ d.weights Tryz.prog 50, n ≤ reachBytes) :
    ∃ ps : List (List UInt8 × List UInt8), ReadsQ w v ps ∧ ps.length ≤ maxLen ∧ (∀ q ∈ ps, q.1.length ≤ 140737488355328 ∧ q.2.length ≤ 140737488355328) := by
  obtain ⟨fuel, hf⟩ := h
  rcases Go.Deep.open_slice_pairs Tryz.underlying50 Tryz.underlying80 (by kernel_rfl) rfl rfl (by kernel_rfl) (by kernel_rfl) hf with ⟨hcs, hx⟩ | ⟨a, len, cap, m, n, V0, V1, D0, D1, P0, P1, hcs, _, hl, hm, hmm, hx, hall⟩
  · simp only [List.cons.injEq, and_true] at hcs
    subst hcs
    exact ⟨[], ⟨none, 0, rfl, fun j l h => by simp at h⟩, by simp, by simp⟩
  · simp only [List.cons.injEq, and_true] at hcs
    subst hcs
    simp only [Prod.mk.injEq] at hx
    obtain ⟨rfl, _⟩ := hx
    simp only [if_true] at hmm
    subst hmm
    have each : ∀ i, i < len → ∃ q : ByteArray × ByteArray, V0 i = .string q.1 ∧ V1 i = .string q.2 ∧ D0 i = .lit (.string q.1.data.toList) ∧ D1 i = .lit (.string q.2.data.toList) := by
      intro i hi
      obtain ⟨_, _, t0, t1⟩ := hall i (by omega)
      obtain ⟨s0, e0, f0, _⟩ := DataW.trod_string Tryz.underlying9 t0
      obtain ⟨s1, e1, f1, _⟩ := DataW.trod_string Tryz.underlying9 t1
      simp only [List.cons.injEq, and_true, Prod.mk.injEq] at e0 e1 f0 f1
      exact ⟨(s0, s1), e0, e1, f0.1, f1.1⟩
    obtain ⟨q, hq⟩ := Go.Deep.choose_lt each
    have hlen : ((List.range len).map fun i => ((q i).1.data.toList, (q i).2.data.toList)).length = len := by simp
    have hwt : ∀ i, i < len → (q i).1.data.toList.length ≤ 140737488355328 ∧ (q i).2.data.toList.length ≤ 140737488355328 := by
      intro i hi
      obtain ⟨_, _, d0, d1⟩ := hq i hi
      have hin : (DataW.agg [D0 i, D1 i]) ∈ (List.range len).map fun i => DataW.agg [D0 i, D1 i] := List.mem_map.mpr ⟨i, List.mem_range.mpr hi, rfl⟩
      have key : ∀ k ∈ (DataW.agg [D0 i, D1 i]).weights Tryz.prog 80, k ≤ reachBytes := by
        intro k hk
        refine hw k ?_
        unfold DataW.weights
        rw [Tryz.underlying50]
        simp only [List.mem_cons, List.mem_append]
        exact .inr (.inl (weight_in hin hk))
      unfold DataW.weights at key
      rw [Tryz.underlying80] at key
      rw [d0, d1] at key
      simp only [DataW.weightsEach, DataW.weights, List.map_cons, List.map_nil, List.mem_append, List.mem_cons, List.not_mem_nil, or_false] at key
      have k0 := key _ (.inl rfl)
      have k1 := key _ (.inr rfl)
      unfold reachBytes at k0 k1
      omega
    refine ⟨(List.range len).map fun i => ((q i).1.data.toList, (q i).2.data.toList), ⟨some a, m, by rw [hlen], fun j l hj => ?_⟩, ?_, ?_⟩
    · have hjl : j < len := by have := (List.getElem?_eq_some_iff.mp hj).1; omega
      have hj' : ((q j).1.data.toList, (q j).2.data.toList) = l := by
        rw [List.getElem?_map, List.getElem?_range hjl] at hj
        exact Option.some.inj hj
      obtain ⟨c0, c1, _, _⟩ := hall j (by omega)
      obtain ⟨v0, v1, _, _⟩ := hq j hjl
      obtain ⟨z0, _, _, _⟩ := hall 0 (by omega)
      obtain ⟨b, off, spot⟩ := a
      have hspot : spot = none := by simpa [Addr.add] using World.cell?_spot z0
      subst hspot
      have hlt : b < w.heap.size := by have := World.block_lt_of_cell? w _ z0; simpa [Addr.add] using this
      rw [v0, Go.WideShapes.add_plain] at c0
      rw [v1, Go.WideShapes.add_plain, ← Nat.add_assoc] at c1
      subst hj'
      exact ⟨b, off, rfl, hlt, by rw [strB_of]; exact c0, by rw [strB_of]; exact c1⟩
    · rw [hlen]; omega
    · intro x hx
      obtain ⟨i, hi, rfl⟩ := List.mem_map.mp hx
      exact hwt i (List.mem_range.mp hi)

section
variable {H : Type} {enc : TypeId × Value → H} {P : Program} {w : World} {base : Nat} {spare : Nat → Bool} {held : Bool}
theorem trod_struct3 {t : TypeId} {f0 f1 f2 : Field} {fuel : Nat} {cs : List Value} {x : DataW H × List MemPlace} (ht : P.underlying t = some (.struct #[f0, f1, f2])) (h : DataW.trod enc P w base spare held fuel t cs = some x) :
    ∃ y0 y1 y2 n, x = (.agg [y0.1, y1.1, y2.1], y0.2 ++ (y1.2 ++ y2.2)) ∧ cs.length = P.cellsOf t ∧ DataW.trod enc P w base spare held n f0.type ((cs.drop f0.offset).take (P.cellsOf f0.type)) = some y0 ∧
      DataW.trod enc P w base spare held n f1.type ((cs.drop f1.offset).take (P.cellsOf f1.type)) = some y1 ∧ DataW.trod enc P w base spare held n f2.type ((cs.drop f2.offset).take (P.cellsOf f2.type)) = some y2 := by
  obtain ⟨xs, n, _, rfl, hl, hlen, hf⟩ := DataW.trod_struct ht h
  match xs, hlen with
  | [y0, y1, y2], _ => exact ⟨y0, y1, y2, n, by simp, hl, by simpa using hf 0 f0 rfl, by simpa using hf 1 f1 rfl, by simpa using hf 2 f2 rfl⟩
end
section
variable {H : Type} {enc : TypeId × Value → H} {P : Program} {w : World} {base : Nat} {spare : Nat → Bool} {held : Bool}
theorem trod_struct2 {t : TypeId} {f0 f1 : Field} {fuel : Nat} {cs : List Value} {x : DataW H × List MemPlace} (ht : P.underlying t = some (.struct #[f0, f1])) (h : DataW.trod enc P w base spare held fuel t cs = some x) :
    ∃ y0 y1 n, x = (.agg [y0.1, y1.1], y0.2 ++ y1.2) ∧ cs.length = P.cellsOf t ∧ DataW.trod enc P w base spare held n f0.type ((cs.drop f0.offset).take (P.cellsOf f0.type)) = some y0 ∧
      DataW.trod enc P w base spare held n f1.type ((cs.drop f1.offset).take (P.cellsOf f1.type)) = some y1 := by
  obtain ⟨xs, n, _, rfl, hl, hlen, hf⟩ := DataW.trod_struct ht h
  match xs, hlen with
  | [y0, y1], _ => exact ⟨y0, y1, n, by simp, hl, by simpa using hf 0 f0 rfl, by simpa using hf 1 f1 rfl⟩
end
section
variable {H : Type} {enc : TypeId × Value → H} {P : Program} {w : World} {base : Nat} {spare : Nat → Bool} {held : Bool}
theorem trod_struct5 {t : TypeId} {f0 f1 f2 f3 f4 : Field} {fuel : Nat} {cs : List Value} {x : DataW H × List MemPlace} (ht : P.underlying t = some (.struct #[f0, f1, f2, f3, f4])) (h : DataW.trod enc P w base spare held fuel t cs = some x) :
    ∃ y0 y1 y2 y3 y4 n, x = (.agg [y0.1, y1.1, y2.1, y3.1, y4.1], y0.2 ++ (y1.2 ++ (y2.2 ++ (y3.2 ++ y4.2)))) ∧ DataW.trod enc P w base spare held n f0.type ((cs.drop f0.offset).take (P.cellsOf f0.type)) = some y0 ∧
      DataW.trod enc P w base spare held n f1.type ((cs.drop f1.offset).take (P.cellsOf f1.type)) = some y1 ∧ DataW.trod enc P w base spare held n f2.type ((cs.drop f2.offset).take (P.cellsOf f2.type)) = some y2 ∧
      DataW.trod enc P w base spare held n f3.type ((cs.drop f3.offset).take (P.cellsOf f3.type)) = some y3 ∧ DataW.trod enc P w base spare held n f4.type ((cs.drop f4.offset).take (P.cellsOf f4.type)) = some y4 := by
  obtain ⟨xs, n, _, rfl, hl, hlen, hf⟩ := DataW.trod_struct ht h
  match xs, hlen with
  | [y0, y1, y2, y3, y4], _ => exact ⟨y0, y1, y2, y3, y4, n, by simp, by simpa using hf 0 f0 rfl, by simpa using hf 1 f1 rfl, by simpa using hf 2 f2 rfl, by simpa using hf 3 f3 rfl, by simpa using hf 4 f4 rfl⟩
end
theorem cellsStr : Tryz.prog.cellsOf 9 = 1 := by kernel_rfl
theorem cellsBool : Tryz.prog.cellsOf 4 = 1 := by kernel_rfl
set_option maxRecDepth 100000 in
theorem open_tag {H : Type} {enc : TypeId × Value → H} {w : World} {v : Value} {d : DataW H} {p : List MemPlace} {base : Nat} (hv : Value.okWide Tryz.prog w .any base 23 v)
    (h : DataW.Trod enc Tryz.prog w 0 (fun _ => true) true 23 v d p) (hw : ∀ n ∈ d.weights Tryz.prog 23, n ≤ reachBytes) : ∃ r : Tg, v = tgV r ∧ r.2.length ≤ 140737488355328 := by
  obtain ⟨cs, rfl, hsz⟩ : ∃ cs, v = .agg cs ∧ cs.size = 2 := by
    simp only [Value.okWide, Tryz.underlying23] at hv
    obtain ⟨cs, h1, h2, _⟩ := hv
    exact ⟨cs, h1, h2.trans (by kernel_rfl)⟩
  obtain ⟨c0, c1, rfl⟩ : ∃ c0 c1, cs = #[c0, c1] := by
    obtain ⟨l⟩ := cs
    match l, hsz with
    | [a, b], _ => exact ⟨a, b, rfl⟩
    | [], hz => simp at hz
    | [_], hz => simp at hz
    | _ :: _ :: _ :: _, hz => simp at hz
  obtain ⟨fuel, hf⟩ := h
  have hf' : DataW.trod enc Tryz.prog w 0 (fun _ => true) true fuel 23 [c0, c1] = some (d, p) := by simpa [Value.cells] using hf
  obtain ⟨y0, y1, n, hx, _, g0, g1⟩ := trod_struct2 Tryz.underlying23 hf'
  simp only [cellsStr, cellsBool, List.drop_zero, List.drop_succ_cons, List.take_succ_cons, List.take_zero] at g0 g1
  obtain ⟨b0, e0, f0⟩ := DataW.trod_bool Tryz.underlying4 g0
  obtain ⟨s1, e1, f1, _⟩ := DataW.trod_string Tryz.underlying9 g1
  simp only [List.cons.injEq, and_true] at e0 e1
  simp only [Prod.mk.injEq] at hx
  rw [hx.1, f0, f1] at hw
  have key := hw
  unfold DataW.weights at key
  rw [Tryz.underlying23] at key
  simp only [DataW.weightsEach, DataW.weights, List.map_cons, List.map_nil, List.mem_append, List.mem_cons, List.not_mem_nil, or_false] at key
  have k1 : s1.data.toList.length ≤ reachBytes := by
    first
    | exact key _ (.inr rfl)
    | exact key _ rfl
    | (have := key s1.data.toList.length (by simp); exact this)
  unfold reachBytes at k1
  exact ⟨(b0, s1.data.toList), by rw [e0, e1]; show _ = Value.agg #[.bool b0, .string (strB s1.data.toList)]; rw [strB_of], by show s1.data.toList.length ≤ _; omega⟩
/-- A conditional request as a value, and what holds of it. -/
abbrev askV (q : List UInt8) (u : Value) (s : StV) : Value := .agg #[.string (strB q), u, .bool s.ex, .bool s.ht, .bool s.hm, .bool s.tag.1, .string (strB s.tag.2), .int .i64 s.md]
def AskOk (w : World) (q : List UInt8) (u : Value) (ps : List (List UInt8 × List UInt8)) : Prop :=
  q.length ≤ 140737488355328 ∧ ReadsQ w u ps ∧ ps.length ≤ maxLen ∧ (∀ x ∈ ps, x.1.length ≤ 140737488355328 ∧ x.2.length ≤ 140737488355328)
set_option maxRecDepth 100000 in
theorem open_ask {H : Type} {enc : TypeId × Value → H} {w : World} {v : Value} {d : DataW H} {p : List MemPlace} {base : Nat} (hv : Value.okWide Tryz.prog w .any base 54 v)
    (h : DataW.Trod enc Tryz.prog w 0 (fun _ => true) true 54 v d p) (hw : ∀ n ∈ d.weights Tryz.prog 54, n ≤ reachBytes) :
    ∃ (q : List UInt8) (u : Value) (ps : List (List UInt8 × List UInt8)) (s : StV), v = askV q u s ∧ AskOk w q u ps := by
  obtain ⟨cs, rfl, hsz⟩ : ∃ cs, v = .agg cs ∧ cs.size = 8 := by
    simp only [Value.okWide, Tryz.underlying54] at hv
    obtain ⟨cs, h1, h2, _⟩ := hv
    exact ⟨cs, h1, h2.trans (by kernel_rfl)⟩
  obtain ⟨c0, c1, c2, c3, c4, c5, c6, c7, rfl⟩ : ∃ c0 c1 c2 c3 c4 c5 c6 c7, cs = #[c0, c1, c2, c3, c4, c5, c6, c7] := by
    obtain ⟨l⟩ := cs
    match l, hsz with
    | [a, b, c, d, e, f, g, h], _ => exact ⟨a, b, c, d, e, f, g, h, rfl⟩
    | [], hz => simp at hz
    | [_], hz => simp at hz
    | [_, _], hz => simp at hz
    | [_, _, _], hz => simp at hz
    | [_, _, _, _], hz => simp at hz
    | [_, _, _, _, _], hz => simp at hz
    | [_, _, _, _, _, _], hz => simp at hz
    | [_, _, _, _, _, _, _], hz => simp at hz
    | _ :: _ :: _ :: _ :: _ :: _ :: _ :: _ :: _ :: _, hz => simp at hz
  obtain ⟨fuel, hf⟩ := h
  have hf' : DataW.trod enc Tryz.prog w 0 (fun _ => true) true fuel 54 [c0, c1, c2, c3, c4, c5, c6, c7] = some (d, p) := by simpa [Value.cells] using hf
  obtain ⟨y0, y1, y2, n, hx, _, g0, g1, g2⟩ := trod_struct3 Tryz.underlying54 hf'
  have hcb : Tryz.prog.cellsOf 50 = 1 := by kernel_rfl
  have hcs : Tryz.prog.cellsOf 52 = 6 := by kernel_rfl
  have hct : Tryz.prog.cellsOf 23 = 2 := by kernel_rfl
  have hci : Tryz.prog.cellsOf 3 = 1 := by kernel_rfl
  simp only [cellsStr, hcb, hcs, List.drop_zero, List.drop_succ_cons, List.take_succ_cons, List.take_zero] at g0 g1 g2
  obtain ⟨s0, e0, f0, _⟩ := DataW.trod_string Tryz.underlying9 g0
  simp only [List.cons.injEq, and_true] at e0
  obtain ⟨z0, z1, z2, z3, z4, n2, _, q0, q1, q2, q3, q4⟩ := trod_struct5 Tryz.underlying52 g2
  simp only [cellsBool, hct, hci, List.drop_zero, List.drop_succ_cons, List.take_succ_cons, List.take_zero] at q0 q1 q2 q3 q4
  obtain ⟨b0, d0, _⟩ := DataW.trod_bool Tryz.underlying4 q0
  obtain ⟨b1, d1, _⟩ := DataW.trod_bool Tryz.underlying4 q1
  obtain ⟨b2, d2, _⟩ := DataW.trod_bool Tryz.underlying4 q2
  obtain ⟨x0, x1, n3, _, _, t0, t1⟩ := trod_struct2 Tryz.underlying23 q3
  simp only [cellsBool, cellsStr, List.drop_zero, List.drop_succ_cons, List.take_succ_cons, List.take_zero] at t0 t1
  obtain ⟨b3, d3, _⟩ := DataW.trod_bool Tryz.underlying4 t0
  obtain ⟨s4, d4, _, _⟩ := DataW.trod_string Tryz.underlying9 t1
  obtain ⟨i5, d5, _, _⟩ := DataW.trod_int Tryz.underlying3 q4
  simp only [List.cons.injEq, and_true] at d0 d1 d2 d3 d4 d5
  simp only [Prod.mk.injEq] at hx
  rw [hx.1, f0] at hw
  have key := hw
  unfold DataW.weights at key
  rw [Tryz.underlying54] at key
  simp only [DataW.weightsEach, DataW.weights, List.map_cons, List.map_nil, List.mem_append, List.mem_cons, List.not_mem_nil, or_false] at key
  have k0 : s0.data.toList.length ≤ reachBytes := key _ (.inl rfl)
  have k1 : ∀ n ∈ y1.1.weights Tryz.prog 50, n ≤ reachBytes := fun n hn => key n (.inr (.inl hn))
  unfold reachBytes at k0
  obtain ⟨ps, r1, r2, r3⟩ := open_fields ⟨n, g1⟩ k1
  refine ⟨s0.data.toList, c1, ps, ⟨b0, b1, b2, (b3, s4.data.toList), i5⟩, ?_, by omega, r1, r2, r3⟩
  rw [e0, d0, d1, d2, d3, d4, d5]
  show _ = Value.agg #[.string (strB s0.data.toList), _, _, _, _, _, .string (strB s4.data.toList), _]
  rw [strB_of, strB_of]
end Go.Proofs.YtkpeaghbacoehaaGreatDoor

/- ValidatorRanges: for every tag and text the statement's function returns true: the walk. -/
namespace Go.Proofs.YtkpeaghbacoehaaGreatDoor
open Go.RowKit

def nIRU : List UInt8 := [73, 102, 45, 82, 97, 110, 103, 101]
def psR (v : List UInt8) : Flds := [(nIRU, v)]
theorem psR_all (v : List UInt8) : allL (psR v) nIR = [v] := by
  unfold allL psR
  rw [List.filter_cons_of_pos (by unfold ofN; exact decide_eq_true (show lowS nIRU = lowS nIR by decide))]; rfl
theorem psR_val (v : List UInt8) : valF (psR v) nIR = v := by unfold valF; rw [psR_all]; rfl
theorem psR_fnd (v : List UInt8) : fnd (psR v) nIR = true := by unfold fnd; rw [psR_all]; rfl
theorem psR_fit {v : List UInt8} (h : v.length ≤ 2900) : FitY (psR v) := fit_of (by simp [psR]) (fun p hp => by
  have : p = (nIRU, v) := by simpa [psR] using hp
  subst this
  show nIRU.length + v.length ≤ 3000
  have : nIRU.length = 8 := rfl
  omega)
def rS (t : Tg) : StV := ⟨true, true, true, t, 784111777⟩
def d37 : List UInt8 := [83, 117, 110, 44, 32, 48, 54, 32, 78, 111, 118, 32, 49, 57, 57, 52, 32, 48, 56, 58, 52, 57, 58, 51, 55, 32, 71, 77, 84]
def d38 : List UInt8 := [83, 117, 110, 44, 32, 48, 54, 32, 78, 111, 118, 32, 49, 57, 57, 52, 32, 48, 56, 58, 52, 57, 58, 51, 56, 32, 71, 77, 84]
theorem d37_is : DateIs d37 (some 784111777) := show isT 784111777 d37 from ⟨by omega, 1994, 11, 6, by unfold isD; decide, by decide⟩
theorem d38_is : DateIs d38 (some 784111778) := show isT 784111778 d38 from ⟨by omega, 1994, 11, 6, by unfold isD; decide, by decide⟩
theorem wd_second : ∀ w : Fin 7, (wdS w.val).tail.head? ≠ some 47 := by decide +kernel
theorem weak_date (r : List UInt8) : DateIs (87 :: 47 :: r) none := fun n h => by
  obtain ⟨hn, y, m, d, hD, hl⟩ := h
  have hw := wd_second ⟨(n / 86400 + 4) % 7, by omega⟩
  have h3 := wdS_len ((n / 86400 + 4) % 7) (by omega)
  obtain ⟨a, b, c, e⟩ := three h3
  unfold txt at hl
  rw [e] at hl hw
  simp only [List.cons_append, List.cons.injEq] at hl
  obtain ⟨_, h2, _⟩ := hl
  rw [← h2] at hw
  exact hw rfl
theorem use_own (t : Tg) (h : txtB t.2 = true) (dr : Option Nat) : useL mGET (psR (texL t)) (rS t) dr = !t.1 := by
  rw [useL_Q, psR_fnd, psR_val, readTL_tex t h, decide_eq_true rfl]
  obtain ⟨k, a⟩ := t
  show (true && true && sameT true (k, a) (k, a)) = !k
  rw [(show sameT true (k, a) (k, a) = !k by cases k <;> simp [sameT])]; rfl
theorem use_weak (t : Tg) (h : txtB t.2 = true) : useL mGET (psR (87 :: 47 :: texL t)) (rS t) none = false := by
  rw [useL_Q, psR_fnd, psR_val, decide_eq_true rfl]
  obtain ⟨k, a⟩ := t
  cases k with
  | false =>
    have e : 87 :: 47 :: texL (false, a) = texL (true, a) := rfl
    rw [e, readTL_tex (true, a) h]
    show (true && true && sameT true (true, a) (false, a)) = false
    simp [sameT]
  | true =>
    have e : readTL (87 :: 47 :: texL (true, a)) = none := by
      rw [readTL_mid]
      show midR true (87 :: (47 :: 34 :: (a ++ [34]))) = none
      rw [midR_cons, if_neg (by simp)]
    rw [e]; rfl
theorem use_37 (t : Tg) : useL mGET (psR d37) (rS t) (some 784111777) = true := by
  rw [useL_Q, psR_fnd, psR_val, decide_eq_true rfl, show readTL d37 = none by decide]; rfl
theorem use_38 (t : Tg) : useL mGET (psR d38) (rS t) (some 784111778) = false := by
  rw [useL_Q, psR_fnd, psR_val, decide_eq_true rfl, show readTL d38 = none by decide]; rfl
theorem use_other (t : Tg) (o : List UInt8) (h : txtB o = true) (dr : Option Nat) (hne : o ≠ t.2) : useL mGET (psR (texL (false, o))) (rS t) dr = false := by
  rw [useL_Q, psR_fnd, psR_val, readTL_tex (false, o) h, decide_eq_true rfl]
  show (true && true && sameT true (false, o) t) = false
  unfold sameT
  rw [decide_eq_false hne]; rfl
theorem use_head (s : StV) (dr : Option Nat) : useL mHEAD [] s dr = false := by rw [useL_Q]; rfl
theorem use_none (s : StV) (dr : Option Nat) : useL mGET [] s dr = true := by rw [useL_Q]; rfl
theorem nilReads (w : World) : ReadsQ w (.slice none 0 0) [] := ⟨none, 0, rfl, fun j p h => by simp at h⟩
theorem nilFit : FitY [] := fit_of (by simp) (by simp)
theorem nilDate : DateIs (valF [] nIR) none := date_nil
theorem psReads (w : World) (v : List UInt8) (T : TypeId) : ReadsQ (w.alloc (.cells #[.string ⟨#[73, 102, 45, 82, 97, 110, 103, 101]⟩, .string (strB v)] T)) (.slice (some ⟨w.heap.size, 0, none⟩) 1 1) (psR v) := by
  refine ⟨_, 1, rfl, fun j p hj => ⟨w.heap.size, 0, rfl, by simp, ?_, ?_⟩⟩
  all_goals
    have hj0 : j = 0 := by
      have : j < (psR v).length := (List.getElem?_eq_some_iff.mp hj).1
      simp [psR] at this; exact this
    subst hj0
    simp only [psR, List.getElem?_cons_zero, Option.some.injEq] at hj
    subst hj
    rw [World.cell?_alloc_at _ _ _ _ rfl]; rfl
set_option maxHeartbeats 4000000 in
set_option maxRecDepth 100000 in
theorem at_any (v : List UInt8) (s : StV) (dr : Option Nat) (x : Bool) (M : Nat) (w : World) (hS : StB M w s) (hE : EnvY w) (hv : v.length ≤ 2900) (hd : DateIs v dr) (hx : useL mGET (psR v) s dr = x) :
    Calls Tryz.prog 33 #[.string (strB v), .pointer (some ⟨M, 0, none⟩)] w fun e w' => e = .returned (.bool x) ∧ Below w.heap.size w w' := by
  have hW := below_new w (.cells #[.string ⟨#[73, 102, 45, 82, 97, 110, 103, 101]⟩, .string (strB v)] 72)
  have HW := Lib.hid hW
  obtain ⟨c0, c1, c2, c3, c4, c5, fr, lt⟩ := hS.below hW
  have HU := Lib.hid (useRange_any mGET _ (psR v) s dr _ (psReads w v 72) (psR_fit hv) (by rw [psR_val]; exact hd) (hE.below hW))
  rw [hx] at HU
  clear hS hE hd hx hW fr
  go_enter Tryz.func33, Tryz.ntmps33
  go_wp2_with fail
  refine HU.out.mono ?_
  rintro e w2 ⟨rfl, hB2⟩
  go_wp2_with fail
  go_ret
  exact ⟨rfl, HW.out.trans (hB2.mono HW.out.size)⟩
/-- What the last statements read. -/
structure RanS (N M : Nat) (t : Tg) (w w' : World) : Prop where
  n : TwoT N w' t.1 t.2
  m : StB M w' (rS t)
  e : EnvY w'
  b : Below w.heap.size w w'
theorem RanS.below {N M : Nat} {t : Tg} {w w1 w2 : World} (h : RanS N M t w w1) (hb : Below w1.heap.size w1 w2) : RanS N M t w w2 := ⟨h.n.below hb, h.m.below hb, h.e.below hb, h.b.trans (hb.mono h.b.size)⟩
theorem ran_all {N M : Nat} {t : Tg} {w w' : World} (h : RanS N M t w w') : w'.cell? ⟨N, 0, none⟩ = some (.bool t.1) ∧ w'.cell? ⟨M, 0, none⟩ = some (.bool true) ∧ w'.cell? ⟨M, 1, none⟩ = some (.bool true) ∧ w'.cell? ⟨M, 2, none⟩ = some (.bool true) ∧ w'.cell? ⟨M, 3, none⟩ = some (.bool t.1) ∧ w'.cell? ⟨M, 4, none⟩ = some (.string (strB t.2)) ∧ w'.cell? ⟨M, 5, none⟩ = some (.int .i64 784111777) ∧ RanS N M t w w' :=
  ⟨h.n.1, h.m.c0, h.m.c1, h.m.c2, h.m.c3, h.m.c4, h.m.c5, h⟩
section
variable {N M : Nat} {t : Tg} {w w' : World}
theorem ran_at {v : List UInt8} {dr : Option Nat} {x : Bool} (hv : v.length ≤ 2900) (hd : DateIs v dr) (hx : useL mGET (psR v) (rS t) dr = x) (h : RanS N M t w w') :
    Calls Tryz.prog 33 #[.string (strB v), .pointer (some ⟨M, 0, none⟩)] w' fun e w2 => e = .returned (.bool x) ∧ RanS N M t w w2 := by
  refine (at_any v (rS t) dr x M w' h.m h.e hv hd hx).mono ?_
  rintro e w2 ⟨rfl, hB⟩
  exact ⟨rfl, h.below hB⟩
theorem ran_head (h : RanS N M t w w') : Calls Tryz.prog 28 #[.string ⟨#[72, 69, 65, 68]⟩, .slice none 0 0, .agg #[.bool true, .bool true, .bool true, .bool t.1, .string (strB t.2), .int .i64 784111777]] w' fun e w2 => e = .returned (.bool false) ∧ RanS N M t w w2 := by
  refine (useRange_any mHEAD (.slice none 0 0) [] (rS t) none w' (nilReads _) nilFit nilDate h.e).mono ?_
  rintro e w2 ⟨rfl, hB⟩
  exact ⟨by rw [use_head], h.below hB⟩
theorem ran_get (h : RanS N M t w w') : Calls Tryz.prog 28 #[.string ⟨#[71, 69, 84]⟩, .slice none 0 0, .agg #[.bool true, .bool true, .bool true, .bool t.1, .string (strB t.2), .int .i64 784111777]] w' fun e w2 => e = .returned (.bool true) ∧ RanS N M t w w2 := by
  refine (useRange_any mGET (.slice none 0 0) [] (rS t) none w' (nilReads _) nilFit nilDate h.e).mono ?_
  rintro e w2 ⟨rfl, hB⟩
  exact ⟨by rw [use_none], h.below hB⟩
end
theorem ran_37 {N M : Nat} {t : Tg} {w w' : World} (h : RanS N M t w w') : Calls Tryz.prog 33 #[.string ⟨#[83, 117, 110, 44, 32, 48, 54, 32, 78, 111, 118, 32, 49, 57, 57, 52, 32, 48, 56, 58, 52, 57, 58, 51, 55, 32, 71, 77, 84]⟩, .pointer (some ⟨M, 0, none⟩)] w' fun e w2 => e = .returned (.bool true) ∧ RanS N M t w w2 := ran_at (v := d37) (by decide) d37_is (use_37 _) h
theorem ran_38 {N M : Nat} {t : Tg} {w w' : World} (h : RanS N M t w w') : Calls Tryz.prog 33 #[.string ⟨#[83, 117, 110, 44, 32, 48, 54, 32, 78, 111, 118, 32, 49, 57, 57, 52, 32, 48, 56, 58, 52, 57, 58, 51, 56, 32, 71, 77, 84]⟩, .pointer (some ⟨M, 0, none⟩)] w' fun e w2 => e = .returned (.bool false) ∧ RanS N M t w w2 := ran_at (v := d38) (by decide) d38_is (use_38 _) h
theorem tex_len (t : Tg) : (texL t).length ≤ t.2.length + 4 := by
  obtain ⟨k, a⟩ := t
  cases k <;> simp [texL]
set_option maxHeartbeats 16000000 in
set_option maxRecDepth 100000 in
theorem ranges_walk (t : Tg) (s : ByteArray) (w : World) (hE : EnvY w) (ht : t.2.length ≤ 140737488355328) (hs : s.size ≤ 140737488355328) :
    Calls Tryz.prog 10 #[tgV t, .string s] w fun e w' => e = .returned (.bool true) ∧ Below w.heap.size w w' := by
  obtain ⟨o, rfl⟩ : ∃ o, s = strB o := ⟨s.data.toList, (strB_of s).symm⟩
  obtain ⟨k, a⟩ := t
  have ht' : a.length ≤ 140737488355328 := ht
  have hsa : (strB a).size = a.length := strB_size a
  have hso : (strB o).size = o.length := strB_size o
  have HT0 := Lib.hid (twoT_new w k a 23)
  have HW0 := Lib.hid (below_new w (.cells #[.bool k, .string (strB a)] 23))
  have HE0 := Lib.hid (hE.below HW0.out)
  clear hE ht
  by_cases h1 : a.length + o.length ≤ 500
  · have HP := Lib.hid (fun (w : World) => writeTag_any (k, a) w (by show a.length ≤ _; omega))
    have HPo := Lib.hid (fun (w : World) => writeTag_any (false, o) w (by show o.length ≤ _; omega))
    have HG := Lib.hid (fun (w : World) => tag_any (k, a) w)
    have htl := tex_len (k, a)
    have hol := tex_len (false, o)
    have hal : (k, a).2.length = a.length := rfl
    have hool : (false, o).2.length = o.length := rfl
    have hgo : ∀ y, txtB a = y → Calls Tryz.prog 10 #[tgV (k, a), .string (strB o)] w fun e w' => e = .returned (.bool true) ∧ Below w.heap.size w w' := by
      intro y hy
      have HY := Lib.hid hy
      clear hy
      cases y with
      | false =>
        have e1 : texO (k, a) = .tuple #[strV [], errY] := by unfold texO; rw [if_neg]; simpa using HY.out
        rw [e1] at HP
        clear e1
        go_enter Tryz.func10, Tryz.ntmps10
        go_wp2_with fail
        refine (awakeY_any _ HE0.out).mono ?_
        rintro e w1 ⟨rfl, hB1⟩
        have HB1 := Lib.hid (HW0.out.trans (hB1.mono HW0.out.size))
        obtain ⟨c0, c1, f0, f1, hN⟩ := HT0.out.below hB1
        clear hB1
        go_wp2_with fail
        refine (HG.out _).mono ?_
        rintro e w2 ⟨rfl, hB2⟩
        have HB2 := Lib.hid (HB1.out.trans (hB2.mono HB1.out.size))
        clear hB2 c0 c1 f0 f1 hN
        go_wp2_with fail
        refine (HP.out _).mono ?_
        rintro e w3 ⟨rfl, hB3⟩
        go_wp2_with fail
        go_ret
        exact ⟨rfl, HB2.out.trans (hB3.mono HB2.out.size)⟩
      | true =>
        have e1 : texO (k, a) = .tuple #[strV (texL (k, a)), .nilIface] := by unfold texO; rw [if_pos HY.out]
        rw [e1] at HP
        clear e1
        obtain ⟨dx, hdx⟩ := date_ex (texL (k, a))
        have HO := Lib.hid (use_own (k, a) HY.out dx)
        have HK := Lib.hid (use_weak (k, a) HY.out)
        have HDX := Lib.hid hdx
        have HLx := Lib.hid (show (texL (k, a)).length ≤ 2000 by omega)
        have HLo := Lib.hid (show (texL (false, o)).length ≤ 2000 by omega)
        clear hdx htl hol
        generalize hx0 : texL (k, a) = x at *
        clear hx0
        have HX2 := Lib.hid (show (⟨#[87, 47]⟩ : ByteArray) ++ strB x = strB (87 :: 47 :: x) by apply strB_ext; simp [strB])
        cases k
        · go_enter Tryz.func10, Tryz.ntmps10
          go_wp2_with fail
          refine (awakeY_any _ HE0.out).mono ?_
          rintro e w1 ⟨rfl, hB1⟩
          have HB1 := Lib.hid (HW0.out.trans (hB1.mono HW0.out.size))
          have HT1 := Lib.hid (HT0.out.below hB1)
          have HE1 := Lib.hid (HE0.out.below hB1)
          obtain ⟨c0, c1, f0, f1, hN⟩ := HT0.out.below hB1
          clear hB1
          go_wp2_with fail
          refine (HG.out _).mono ?_
          rintro e w2 ⟨rfl, hB2⟩
          have HB2 := Lib.hid (HB1.out.trans (hB2.mono HB1.out.size))
          have HT2 := Lib.hid (HT1.out.below hB2)
          have HE2 := Lib.hid (HE1.out.below hB2)
          clear hB2 c0 c1 f0 f1 hN
          go_wp2_with fail
          refine (HP.out _).mono ?_
          rintro e w3 ⟨rfl, hB3⟩
          have HB3 := Lib.hid (HB2.out.trans (hB3.mono HB2.out.size))
          have HT3 := Lib.hid (HT2.out.below hB3)
          have HE3 := Lib.hid (HE2.out.below hB3)
          obtain ⟨c0, c1, f0, f1, hN⟩ := HT2.out.below hB3
          clear hB3
          go_wp2_with fail
          refine (HG.out _).mono ?_
          rintro e w4 ⟨rfl, hB4⟩
          have HB4 := Lib.hid (HB3.out.trans (hB4.mono HB3.out.size))
          have HR0 := Lib.hid (show RanS w.heap.size w4.heap.size (false, a) w (w4.alloc (.cells (stC (rS (false, a))) 61)) from
            ⟨(HT3.out.below hB4).below (below_new _ _), stB_new w4 _ 61, (HE3.out.below hB4).below (below_new _ _), HB4.out.alloc HB4.out.size _⟩)
          have HR1 := Lib.hid (HR0.out.below (Below.refl _ _).drew)
          clear hB4 c0 c1 f0 f1 hN
          go_wp2_with fail
          go_upto_region 8 with fail
          have hsx : (strB x).size = x.length := strB_size x
          have hxl := HLx.out
          have hsum : ¬ 9223372036854775807 < 2 + (strB x).size := by omega
          have hsum2 : ¬ 9223372036854775807 < 2 + x.length := by omega
          change Code.wp _ _ _ _ (w4.alloc (.cells (stC (rS (false, a))) 61))
          generalize (w4.alloc (.cells (stC (rS (false, a))) 61)) = W0 at *
          go_region_held3 (fun w' => w'.cell? ⟨w.heap.size, 0, none⟩ = some (.bool false) ∧ w'.cell? ⟨w4.heap.size, 0, none⟩ = some (.bool true) ∧ w'.cell? ⟨w4.heap.size, 1, none⟩ = some (.bool true) ∧ w'.cell? ⟨w4.heap.size, 2, none⟩ = some (.bool true) ∧ w'.cell? ⟨w4.heap.size, 3, none⟩ = some (.bool false) ∧ w'.cell? ⟨w4.heap.size, 4, none⟩ = some (.string (strB a)) ∧ w'.cell? ⟨w4.heap.size, 5, none⟩ = some (.int .i64 784111777) ∧ RanS w.heap.size w4.heap.size (false, a) w w')
            (first | with_reducible exact ran_all hK | with_reducible exact ran_all HR1.out)
            (first
              | (go_at_call 33; with_reducible refine (ran_at (by have := HLx.out; omega) HDX.out HO.out (by first | assumption | exact HR1.out)).mono ?_; rintro e w10 ⟨rfl, hK⟩)
              | (go_at_call 33; rw [HX2.out]; with_reducible refine (ran_at (by have := HLx.out; simp only [List.length_cons]; omega) (weak_date x) HK.out (by assumption)).mono ?_; rintro e w10 ⟨rfl, hK⟩)
              | (go_at_call 33; with_reducible refine (ran_37 (by assumption)).mono ?_; rintro e w10 ⟨rfl, hK⟩)
              | (go_at_call 33; with_reducible refine (ran_38 (by assumption)).mono ?_; rintro e w10 ⟨rfl, hK⟩)
              | (go_at_call 28; with_reducible refine (ran_head (t := (false, a)) (by assumption)).mono ?_; rintro e w10 ⟨rfl, hK⟩)
              | (go_at_call 28; with_reducible refine (ran_get (t := (false, a)) (by assumption)).mono ?_; rintro e w10 ⟨rfl, hK⟩))
          go_wp2_with fail
          have HRk := Lib.hid hK
          clear hK
          obtain ⟨z, hz⟩ : ∃ z, txtB o = z := ⟨_, rfl⟩
          have HZ := Lib.hid hz
          clear hz
          cases z
          · have e2 : texO (false, o) = .tuple #[strV [], errY] := by unfold texO; rw [if_neg]; simpa using HZ.out
            rw [e2] at HPo
            clear e2
            refine (HPo.out _).mono ?_
            rintro e w11 ⟨rfl, hB11⟩
            go_wp2_with fail
            go_ret
            exact ⟨rfl, HRk.out.b.trans (hB11.mono HRk.out.b.size)⟩
          · have e2 : texO (false, o) = .tuple #[strV (texL (false, o)), .nilIface] := by unfold texO; rw [if_pos HZ.out]
            rw [e2] at HPo
            clear e2
            refine (HPo.out _).mono ?_
            rintro e w11 ⟨rfl, hB11⟩
            have HR11 := Lib.hid (HRk.out.below hB11)
            have hce := same_strB o a
            obtain ⟨c0, c1, f0, f1, hN⟩ := HR11.out.n
            clear hB11
            by_cases hoa : o = a
            · rw [decide_eq_true hoa] at hce
              clear hoa
              go_wp2_with fail
              go_ret
              exact ⟨rfl, HR11.out.b⟩
            · rw [decide_eq_false hoa] at hce
              obtain ⟨dy, hdy⟩ := date_ex (texL (false, o))
              have HDY := Lib.hid hdy
              have HOO := Lib.hid (use_other (false, a) o HZ.out dy hoa)
              clear hoa hdy
              go_wp2_with fail
              refine (ran_at (by have := HLo.out; omega) HDY.out HOO.out HR11.out).mono ?_
              rintro e w12 ⟨rfl, hR12⟩
              go_wp2_with fail
              go_ret
              exact ⟨rfl, hR12.b⟩
        · go_enter Tryz.func10, Tryz.ntmps10
          go_wp2_with fail
          refine (awakeY_any _ HE0.out).mono ?_
          rintro e w1 ⟨rfl, hB1⟩
          have HB1 := Lib.hid (HW0.out.trans (hB1.mono HW0.out.size))
          have HT1 := Lib.hid (HT0.out.below hB1)
          have HE1 := Lib.hid (HE0.out.below hB1)
          obtain ⟨c0, c1, f0, f1, hN⟩ := HT0.out.below hB1
          clear hB1
          go_wp2_with fail
          refine (HG.out _).mono ?_
          rintro e w2 ⟨rfl, hB2⟩
          have HB2 := Lib.hid (HB1.out.trans (hB2.mono HB1.out.size))
          have HT2 := Lib.hid (HT1.out.below hB2)
          have HE2 := Lib.hid (HE1.out.below hB2)
          clear hB2 c0 c1 f0 f1 hN
          go_wp2_with fail
          refine (HP.out _).mono ?_
          rintro e w3 ⟨rfl, hB3⟩
          have HB3 := Lib.hid (HB2.out.trans (hB3.mono HB2.out.size))
          have HT3 := Lib.hid (HT2.out.below hB3)
          have HE3 := Lib.hid (HE2.out.below hB3)
          obtain ⟨c0, c1, f0, f1, hN⟩ := HT2.out.below hB3
          clear hB3
          go_wp2_with fail
          refine (HG.out _).mono ?_
          rintro e w4 ⟨rfl, hB4⟩
          have HB4 := Lib.hid (HB3.out.trans (hB4.mono HB3.out.size))
          have HR0 := Lib.hid (show RanS w.heap.size w4.heap.size (true, a) w (w4.alloc (.cells (stC (rS (true, a))) 61)) from
            ⟨(HT3.out.below hB4).below (below_new _ _), stB_new w4 _ 61, (HE3.out.below hB4).below (below_new _ _), HB4.out.alloc HB4.out.size _⟩)
          have HR1 := Lib.hid (HR0.out.below (Below.refl _ _).drew)
          clear hB4 c0 c1 f0 f1 hN
          go_wp2_with fail
          go_upto_region 8 with fail
          have hsx : (strB x).size = x.length := strB_size x
          have hxl := HLx.out
          have hsum : ¬ 9223372036854775807 < 2 + (strB x).size := by omega
          have hsum2 : ¬ 9223372036854775807 < 2 + x.length := by omega
          change Code.wp _ _ _ _ (w4.alloc (.cells (stC (rS (true, a))) 61))
          generalize (w4.alloc (.cells (stC (rS (true, a))) 61)) = W0 at *
          go_region_held3 (fun w' => w'.cell? ⟨w.heap.size, 0, none⟩ = some (.bool true) ∧ w'.cell? ⟨w4.heap.size, 0, none⟩ = some (.bool true) ∧ w'.cell? ⟨w4.heap.size, 1, none⟩ = some (.bool true) ∧ w'.cell? ⟨w4.heap.size, 2, none⟩ = some (.bool true) ∧ w'.cell? ⟨w4.heap.size, 3, none⟩ = some (.bool true) ∧ w'.cell? ⟨w4.heap.size, 4, none⟩ = some (.string (strB a)) ∧ w'.cell? ⟨w4.heap.size, 5, none⟩ = some (.int .i64 784111777) ∧ RanS w.heap.size w4.heap.size (true, a) w w')
            (first | with_reducible exact ran_all hK | with_reducible exact ran_all HR1.out)
            (first
              | (go_at_call 33; with_reducible refine (ran_at (by have := HLx.out; omega) HDX.out HO.out (by first | assumption | exact HR1.out)).mono ?_; rintro e w10 ⟨rfl, hK⟩)
              | (go_at_call 33; rw [HX2.out]; with_reducible refine (ran_at (by have := HLx.out; simp only [List.length_cons]; omega) (weak_date x) HK.out (by assumption)).mono ?_; rintro e w10 ⟨rfl, hK⟩)
              | (go_at_call 33; with_reducible refine (ran_37 (by assumption)).mono ?_; rintro e w10 ⟨rfl, hK⟩)
              | (go_at_call 33; with_reducible refine (ran_38 (by assumption)).mono ?_; rintro e w10 ⟨rfl, hK⟩)
              | (go_at_call 28; with_reducible refine (ran_head (t := (true, a)) (by assumption)).mono ?_; rintro e w10 ⟨rfl, hK⟩)
              | (go_at_call 28; with_reducible refine (ran_get (t := (true, a)) (by assumption)).mono ?_; rintro e w10 ⟨rfl, hK⟩))
          go_wp2_with fail
          have HRk := Lib.hid hK
          clear hK
          obtain ⟨z, hz⟩ : ∃ z, txtB o = z := ⟨_, rfl⟩
          have HZ := Lib.hid hz
          clear hz
          cases z
          · have e2 : texO (false, o) = .tuple #[strV [], errY] := by unfold texO; rw [if_neg]; simpa using HZ.out
            rw [e2] at HPo
            clear e2
            refine (HPo.out _).mono ?_
            rintro e w11 ⟨rfl, hB11⟩
            go_wp2_with fail
            go_ret
            exact ⟨rfl, HRk.out.b.trans (hB11.mono HRk.out.b.size)⟩
          · have e2 : texO (false, o) = .tuple #[strV (texL (false, o)), .nilIface] := by unfold texO; rw [if_pos HZ.out]
            rw [e2] at HPo
            clear e2
            refine (HPo.out _).mono ?_
            rintro e w11 ⟨rfl, hB11⟩
            have HR11 := Lib.hid (HRk.out.below hB11)
            have hce := same_strB o a
            obtain ⟨c0, c1, f0, f1, hN⟩ := HR11.out.n
            clear hB11
            by_cases hoa : o = a
            · rw [decide_eq_true hoa] at hce
              clear hoa
              go_wp2_with fail
              go_ret
              exact ⟨rfl, HR11.out.b⟩
            · rw [decide_eq_false hoa] at hce
              obtain ⟨dy, hdy⟩ := date_ex (texL (false, o))
              have HDY := Lib.hid hdy
              have HOO := Lib.hid (use_other (true, a) o HZ.out dy hoa)
              clear hoa hdy
              go_wp2_with fail
              refine (ran_at (by have := HLo.out; omega) HDY.out HOO.out HR11.out).mono ?_
              rintro e w12 ⟨rfl, hR12⟩
              go_wp2_with fail
              go_ret
              exact ⟨rfl, hR12.b⟩
    exact hgo _ rfl
  · have h1' : 500 < a.length + o.length := by omega
    go_enter Tryz.func10, Tryz.ntmps10
    go_wp2_with fail
    refine (awakeY_any _ HE0.out).mono ?_
    rintro e w1 ⟨rfl, hB1⟩
    have HB1 := Lib.hid (HW0.out.trans (hB1.mono HW0.out.size))
    have HE1 := Lib.hid (HE0.out.below hB1)
    obtain ⟨c0, c1, f0, f1, hN⟩ := HT0.out.below hB1
    clear hB1
    go_wp2_with fail
    refine (awakeY_any _ HE1.out).mono ?_
    rintro e w2 ⟨rfl, hB2⟩
    go_wp2_with fail
    go_ret
    exact ⟨rfl, HB1.out.trans (hB2.mono HB1.out.size)⟩
end Go.Proofs.YtkpeaghbacoehaaGreatDoor
