import Derived.Test.YtkpeaghbacoehaaGreatDoorTie
import Derived.Test.YtkpeaghbacoehaaGreatDoorCards
import Derived.WalkKit
import Derived.ProofKit
import Derived.OpenShut
import Derived.LaidMore
import Derived.Lay
import Derived.SevenTiedAt
import Derived.Stop.Joined
import Derived.Below
import Derived.Stop.LaidErr
import Derived.Shelf.Vars
import Derived.Deep.DeepHandedRow
import Derived.Test.YtkpeaghbacoehaaGreatDoorPqYEvaluatesCard1
import Derived.Deep.SlicePairs
import Derived.Carry
import Derived.Test.YtkpeaghbacoehaaGreatDoorPqYEvaluatesCard2
import Derived.Deep.RegionHeld3
/- What every row of layer 10 shares: the program's knob, the start that lays the nine listed variables, what the walks ask of a world, and the row's last step. -/
namespace Go.Proofs.YtkpeaghbacoehaaGreatDoor
open Go.ChangeShapes Go.WideShapes Go.ChangeAt Go.RowKit

theorem own : ownKnob Tryz.prog.godebug = none := by kernel_rfl
def laidA : List (String × DataW Unit) := Rows.validatorTagsRow.laid
theorem laid_plainA (w : World) : laidMetH Tryz.prog laidA w = laidMet Tryz.prog laidA w := MakeChecks.laidMetH_plain _ _ _ (by kernel_rfl)
set_option maxRecDepth 100000 in
theorem laid_metA (os : Os) (args : Array Value) : laidMetH Tryz.prog laidA ((World.laidAll Tryz.prog os laidA).forCall (fun _ _ => 0) ⟨#[], args, []⟩).memory := by
  rw [laid_plainA]; exact laidMet_laidAll _ (by kernel_rfl) (by kernel_rfl)
/-- An array of strings that reads as a list of strings holds them. -/
theorem cells_of_strs {H : Type} {enc : TypeId × Value → H} {P : Program} {w : World} {base : Nat} {sp : Nat → Bool} {held : Bool} {fuel : Nat} {t e : TypeId} {n : Nat} {cs : List Value} {ls : List (List UInt8)} {p : List MemPlace}
    (ht : P.underlying t = some (.array n e)) (he : P.underlying e = some .string) (hce : P.cellsOf e = 1) (hct : P.cellsOf t = n)
    (h : DataW.trod enc P w base sp held fuel t cs = some (.agg (ls.map fun l => .lit (.string l)), p)) : cs = ls.map fun l => Value.string (strB l) := by
  cases fuel with
  | zero => simp [DataW.trod] at h
  | succ fuel =>
    simp only [DataW.trod, ht, hce, hct, Nat.mul_one] at h
    split at h
    · rename_i hl
      obtain ⟨xs, hm, hx⟩ := Option.map_eq_some_iff.1 h
      have hxs : xs.map (·.1) = ls.map fun l => (DataW.lit (.string l) : DataW H) := by
        have := congrArg Prod.fst hx
        simpa using this
      have hxl : xs.length = n := by simpa using Lib.mapM_length hm
      have hzl : ls.length = n := by
        have := congrArg List.length hxs
        simp at this
        omega
      apply List.ext_getElem?
      intro i
      by_cases hi : i < n
      · obtain ⟨b, hb, hf⟩ := Lib.mapM_at hm i i (by simp [hi])
        obtain ⟨z, hc, hz, _⟩ := DataW.trod_string he hf
        have h1 : cs[i]? = some (.string z) := by
          have := congrArg (·[0]?) hc
          simpa [List.getElem?_take, List.getElem?_drop] using this
        have h2 : (xs.map (·.1))[i]? = some (DataW.lit (.string z.data.toList) : DataW H) := by simp [hb, hz]
        rw [hxs] at h2
        simp only [List.getElem?_map, Option.map_eq_some_iff, DataW.lit.injEq, Lit.string.injEq] at h2
        obtain ⟨z', hz', e⟩ := h2
        rw [h1]
        simp [hz', e, strB_of]
      · rw [List.getElem?_eq_none (by omega), List.getElem?_eq_none (by simp; omega)]
    · cases h
theorem strs_of_head {P : Program} {W : World} {name : String} {ls : List (List UInt8)} {rest : List (String × DataW Unit)} {g : Nat} {t e : TypeId} {n : Nat}
    (hg : P.globalNamed name = some g) (hty : (P.globals[g]?).map (·.type) = some t) (ht : P.underlying t = some (.array n e)) (he : P.underlying e = some .string) (hce : P.cellsOf e = 1) (hct : P.cellsOf t = n)
    (h : laidMet P ((name, .agg (ls.map fun l => .lit (.string l))) :: rest) W) : W.var? P name = some (ls.map fun l => Value.string (strB l)).toArray := by
  obtain ⟨ps, ⟨g', t', cs, fuel, p, q, hg', ht', hvar, hd, _, _⟩, _⟩ := h
  obtain rfl := Option.some.inj (hg.symm.trans hg')
  obtain rfl := Option.some.inj (hty.symm.trans ht')
  rw [hvar, ← cells_of_strs ht he hce hct hd]
theorem tTab : (Tryz.prog.globals[(7 : Nat)]?).map (·.type) = some 181 := by kernel_rfl
theorem tMon : (Tryz.prog.globals[(0 : Nat)]?).map (·.type) = some 131 := by kernel_rfl
theorem tDay : (Tryz.prog.globals[(1 : Nat)]?).map (·.type) = some 134 := by kernel_rfl
theorem eTab : (Rows.laid_internal_strconv_uint64pow10 : DataW Unit) = Lib.tabData .u64 Lib.pow10Tab := by rfl
theorem eMon : (Rows.laid_quayside_httpdate_monthNames : DataW Unit) = .agg ([moS 1, moS 2, moS 3, moS 4, moS 5, moS 6, moS 7, moS 8, moS 9, moS 10, moS 11, moS 12].map fun l => .lit (.string l)) := by rfl
theorem eDay : (Rows.laid_quayside_httpdate_weekdayNames : DataW Unit) = .agg ([wdS 0, wdS 1, wdS 2, wdS 3, wdS 4, wdS 5, wdS 6].map fun l => .lit (.string l)) := by rfl
theorem tab_of {W : World} {rest : List (String × DataW Unit)} (h : laidMet Tryz.prog (("internal/strconv.uint64pow10", Rows.laid_internal_strconv_uint64pow10) :: rest) W) : Lib.TabIs Tryz.prog W "internal/strconv.uint64pow10" .u64 Lib.pow10Tab := by
  rw [eTab] at h
  exact Lib.tabIs_of_head gTab tTab Tryz.underlying181 Tryz.underlying165 (by kernel_rfl) (by kernel_rfl) h
theorem mon_of {W : World} {rest : List (String × DataW Unit)} (h : laidMet Tryz.prog (("quayside/httpdate.monthNames", Rows.laid_quayside_httpdate_monthNames) :: rest) W) : W.var? Tryz.prog "quayside/httpdate.monthNames" = some monA := by
  rw [eMon] at h
  exact strs_of_head gMon tMon Tryz.underlying131 Tryz.underlying9 (by kernel_rfl) (by kernel_rfl) h
theorem day_of {W : World} {rest : List (String × DataW Unit)} (h : laidMet Tryz.prog (("quayside/httpdate.weekdayNames", Rows.laid_quayside_httpdate_weekdayNames) :: rest) W) : W.var? Tryz.prog "quayside/httpdate.weekdayNames" = some dayA := by
  rw [eDay] at h
  exact strs_of_head gDay tDay Tryz.underlying134 Tryz.underlying9 (by kernel_rfl) (by kernel_rfl) h
theorem gES : Tryz.prog.globalNamed "strconv.ErrSyntax" = some 5 := by kernel_rfl
theorem gESType : (Tryz.prog.globals[(5 : Nat)]?).map (·.type) = some 26 := by kernel_rfl
theorem star : "*" ++ "errors.errorString" = "*errors.errorString" := by decide
theorem rowES (u : TypeId) (h : Tryz.prog.typeName? 3 u = some "*errors.errorString") : u = 177 :=
  typeName_ptr_named (nm := "errors.errorString") (by rw [star]; kernel_rfl) (by kernel_rfl) (by decide) u (by rw [star]; exact h)
theorem envP_of {W : World} (hL : laidMetH Tryz.prog laidA W) : EnvP W := by
  rw [laid_plainA] at hL
  have hT := hL.tail.tail.tail.tail.tail
  obtain ⟨a, s, hv, -, -, -⟩ := laid_sentinel (text := [105, 110, 118, 97, 108, 105, 100, 32, 115, 121, 110, 116, 97, 120]) hT gES gESType Tryz.underlying26 rowES Tryz.underlying177 Tryz.underlying179 rfl rfl Tryz.underlying9 (by kernel_rfl) (by kernel_rfl)
  have h0 := World.var?_cell gES hv 0
  exact ⟨⟨tab_of hL.tail.tail, mon_of hT.tail.tail, day_of hT.tail⟩, _, by simpa using h0, Or.inr ⟨_, _, rfl⟩⟩
theorem max_len {W : World} (h : W.ShapedOpen Tryz.prog) : ∃ m, W.cell? ⟨2, 0, none⟩ = some (.int .i64 m) :=
  cell_of_shapedOpen_int (P := Tryz.prog) (g := 2) (t := 3) (zero := #[.int .i64 0]) h (of_decide_eq_true (by kernel_rfl)) (by kernel_rfl) rfl (by kernel_rfl) (by kernel_rfl) Tryz.underlying3
/-- What the walks ask of a world holds where a row's call begins. -/
theorem has_max {W : World} (hsh : W.ShapedOpen Tryz.prog) : MaxIs W := max_len hsh
theorem env_y {W : World} (hL : laidMetH Tryz.prog laidA W) (hsh : W.ShapedOpen Tryz.prog) : EnvY W := ⟨has_max hsh, envP_of hL⟩
section
variable {H : Type} {enc : TypeId × Value → H}
/-- The witness of a row at a world of one's own making whose shape is shown by other means. -/
theorem witness_row_shaped {C : Checked} {os : Os} {f : FuncId} {fn : Func} {s : OpenSpec} {conds : List PathCond} {apart : Bool} {laid : List (String × DataW Unit)} (modest : Bool) (w0 : World) (args : Array Value) (hos : w0.os = os)
    (hsh : (w0.forCall (fun _ _ => 0) ⟨#[], args, []⟩).Shaped C.prog)
    (hok : Input.okWideB C.prog (w0.forCall (fun _ _ => 0) ⟨#[], args, []⟩) f ⟨#[], args, []⟩ = true)
    (hrow : s.preRow enc C.prog fn conds apart laid (w0.forCall (fun _ _ => 0) ⟨#[], args, []⟩).memory args) :
    ∃ (w : World) (tape : Tape) (i : Input), w.os = os ∧ (w.forCall tape i).Shaped C.prog ∧ i.vars = [] ∧ Input.okWide C.prog (w.forCall tape i) .any w.heap.size f i ∧
      s.preRow enc C.prog fn conds apart laid (w.forCall tape i).memory i.args ∧ ({ modest := modest } : Assume).holds C.prog (lone (Frame.enter C.prog f i.args .normal) [] (w.forCall tape i)) :=
  ⟨w0, fun _ _ => 0, ⟨#[], args, []⟩, hos, hsh, (Input.okWide_of_okWideB (base := 0) hok).1, (Input.okWide_of_okWideB hok).2, hrow, by
    simp only [Assume.holds]
    exact ⟨by simp, by simp, fun _ => Modest.zero, by simp, by simp⟩⟩
end
section
variable {H : Type} {enc : TypeId × Value → H} {P : Program}
/-- The row's last step from 'Below': what was there when the call began is as it was; new blocks may have come. -/
theorem post_below {f : Func} {s : ChangeSpec} {apart fresh handsOn again : Bool} {W W' : World} {args : Array Value} {v : Value} {ds gs : List (DataW H)} {before pa pv : List MemPlace}
    (hW : DataW.Whole enc P f.params.toList s.vars apart W args.toList ds gs before)
    (hres : ∀ (b : Nat) (sp : Nat → Bool) (hd : Bool), DataW.TrodAll enc P W' b sp hd f.resultTypes.toList (v.resultList f.resultTypes.size) (s.fn H (ds ++ gs)).results [])
    (hargs : ∀ sp : Nat → Bool, (∀ p ∈ before, sp p.block = true) → DataW.TrodAll enc P W' 0 sp true f.params.toList args.toList (s.fn H (ds ++ gs)).args pa)
    (hvars : ∀ sp : Nat → Bool, (∀ p ∈ before, sp p.block = true) → DataW.TrodVars enc P W' sp s.vars (s.fn H (ds ++ gs)).vars pv)
    (hps : before = pa ++ pv) (hb : Below W.heap.size W W')
    (hok : ∀ (j : Nat) (t : TypeId) (r : Value), f.resultTypes[j]? = some t → (v.resultList f.resultTypes.size)[j]? = some r → Value.okWide P W' .any 0 t r) :
    s.post enc P f apart fresh handsOn again W args v W' := by
  have lt : ∀ p ∈ before, p.block < W.heap.size := fun p hp => hW.lt p hp
  have old : ∀ p ∈ before, (fun b => decide (b < W.heap.size)) p.block = true := fun p hp => by simpa using lt p hp
  refine ⟨ds, gs, before, [], pa, pv, hW, hres _ _ _, hargs _ old, hvars _ old, World.keptBut_mono (fun p hp => ⟨hp, ?_⟩) (hb.frame (· ∈ before)), fun _ => ?_⟩
  · rw [hps, List.mem_append] at hp
    exact Or.inr hp
  · obtain ⟨_, _, _, _, _, hz, hn⟩ := hW
    refine ⟨hok, _, _, ([] ++ pa) ++ pv, ⟨[] ++ pa, pv, trodAll_append (hargs _ (fun _ _ => rfl)) (hres _ _ _), hvars _ (fun _ _ => rfl), rfl, ?_, ?_⟩, ?_⟩
    · intro b off hp
      have hin : MemPlace.cell b off ∈ before := by rw [hps]; simpa using hp
      rw [hb.frozen (lt _ hin)]
      exact hz b off hin
    · intro ha
      have := hn ha
      rw [hps] at this
      simpa using this
    · intro p hp _
      rw [hps]
      simpa using hp
end
end Go.Proofs.YtkpeaghbacoehaaGreatDoor

/- A tag and a conditional request of the reference among the arguments, opened. -/
namespace Go.Proofs.YtkpeaghbacoehaaGreatDoor
open Go.ChangeShapes Go.WideShapes Go.ChangeAt Go.RowKit
open Go.ChangeMaps (shut_string open_string)

theorem laidOut : laidOutB Tryz.prog = true := by kernel_rfl
theorem weight_in {H : Type} {P : Program} {e : TypeId} {d : DataW H} {n : Nat} : ∀ {l : List (DataW H)}, d ∈ l → n ∈ d.weights P e → n ∈ DataW.weightsAll P e l
  | x :: r, hd, hn => by
    simp only [DataW.weightsAll, List.mem_append]
    rcases List.mem_cons.1 hd with e | e
    · subst e; exact .inl hn
    · exact .inr (weight_in e hn)
set_option maxRecDepth 100000 in
/-- A slice of the reference's fields among the arguments. -/
theorem open_fields {H : Type} {enc : TypeId × Value → H} {w : World} {v : Value} {d : DataW H} {p : List MemPlace} (h : ∃ fuel, DataW.trod enc Tryz.prog w 0 (fun _ => true) true fuel 50 [v] = some (d, p)) (hw : ∀ n ∈ d.weights Tryz.prog 50, n ≤ reachBytes) :
    ∃ ps : List (List UInt8 × List UInt8), ReadsQ w v ps ∧ ps.length ≤ maxLen ∧ (∀ q ∈ ps, q.1.length ≤ 140737488355328 ∧ q.2.length ≤ 140737488355328) := by
  obtain ⟨fuel, hf⟩ := h
  rcases Go.Deep.open_slice_pairs Tryz.underlying50 Tryz.underlying80 (by kernel_rfl) rfl rfl (by kernel_rfl) (by kernel_rfl) hf with ⟨hcs, hx⟩ | ⟨a, len, cap, m, n, V0, V1, D0, D1, P0, P1, hcs, _, hl, hm, hmm, hx, hall⟩
  · simp only [List.cons.injEq, and_true] at hcs
    subst hcs
    exact ⟨[], ⟨none, 0, rfl, fun j l h => by simp at h⟩, by simp, by simp⟩
  · simp only [List.cons.injEq, and_true] at hcs
    subst hcs
    simp only [Prod.mk.injEq] at hx
    obtain ⟨rfl, _⟩ := hx
    simp only [if_true] at hmm
    subst hmm
    have each : ∀ i, i < len → ∃ q : ByteArray × ByteArray, V0 i = .string q.1 ∧ V1 i = .string q.2 ∧ D0 i = .lit (.string q.1.data.toList) ∧ D1 i = .lit (.string q.2.data.toList) := by
      intro i hi
      obtain ⟨_, _, t0, t1⟩ := hall i (by omega)
      obtain ⟨s0, e0, f0, _⟩ := DataW.trod_string Tryz.underlying9 t0
      obtain ⟨s1, e1, f1, _⟩ := DataW.trod_string Tryz.underlying9 t1
      simp only [List.cons.injEq, and_true, Prod.mk.injEq] at e0 e1 f0 f1
      exact ⟨(s0, s1), e0, e1, f0.1, f1.1⟩
    obtain ⟨q, hq⟩ := Go.Deep.choose_lt each
    have hlen : ((List.range len).map fun i => ((q i).1.data.toList, (q i).2.data.toList)).length = len := by simp
    have hwt : ∀ i, i < len → (q i).1.data.toList.length ≤ 140737488355328 ∧ (q i).2.data.toList.length ≤ 140737488355328 := by
      intro i hi
      obtain ⟨_, _, d0, d1⟩ := hq i hi
      have hin : (DataW.agg [D0 i, D1 i]) ∈ (List.range len).map fun i => DataW.agg [D0 i, D1 i] := List.mem_map.mpr ⟨i, List.mem_range.mpr hi, rfl⟩
      have key : ∀ k ∈ (DataW.agg [D0 i, D1 i]).weights Tryz.prog 80, k ≤ reachBytes := by
        intro k hk
        refine hw k ?_
        unfold DataW.weights
        rw [Tryz.underlying50]
        simp only [List.mem_cons, List.mem_append]
        exact .inr (.inl (weight_in hin hk))
      unfold DataW.weights at key
      rw [Tryz.underlying80] at key
      rw [d0, d1] at key
      simp only [DataW.weightsEach, DataW.weights, List.map_cons, List.map_nil, List.mem_append, List.mem_cons, List.not_mem_nil, or_false] at key
      have k0 := key _ (.inl rfl)
      have k1 := key _ (.inr rfl)
      unfold reachBytes at k0 k1
      omega
    refine ⟨(List.range len).map fun i => ((q i).1.data.toList, (q i).2.data.toList), ⟨some a, m, by rw [hlen], fun j l hj => ?_⟩, ?_, ?_⟩
    · have hjl : j < len := by have := (List.getElem?_eq_some_iff.mp hj).1; omega
      have hj' : ((q j).1.data.toList, (q j).2.data.toList) = l := by
        rw [List.getElem?_map, List.getElem?_range hjl] at hj
        exact Option.some.inj hj
      obtain ⟨c0, c1, _, _⟩ := hall j (by omega)
      obtain ⟨v0, v1, _, _⟩ := hq j hjl
      obtain ⟨z0, _, _, _⟩ := hall 0 (by omega)
      obtain ⟨b, off, spot⟩ := a
      have hspot : spot = none := by simpa [Addr.add] using World.cell?_spot z0
      subst hspot
      have hlt : b < w.heap.size := by have := World.block_lt_of_cell? w _ z0; simpa [Addr.add] using this
      rw [v0, Go.WideShapes.add_plain] at c0
      rw [v1, Go.WideShapes.add_plain, ← Nat.add_assoc] at c1
      subst hj'
      exact ⟨b, off, rfl, hlt, by rw [strB_of]; exact c0, by rw [strB_of]; exact c1⟩
    · rw [hlen]; omega
    · intro x hx
      obtain ⟨i, hi, rfl⟩ := List.mem_map.mp hx
      exact hwt i (List.mem_range.mp hi)

section
variable {H : Type} {enc : TypeId × Value → H} {P : Program} {w : World} {base : Nat} {spare : Nat → Bool} {held : Bool}
theorem trod_struct3 {t : TypeId} {f0 f1 f2 : Field} {fuel : Nat} {cs : List Value} {x : DataW H × List MemPlace} (ht : P.underlying t = some (.struct #[f0, f1, f2])) (h : DataW.trod enc P w base spare held fuel t cs = some x) :
    ∃ y0 y1 y2 n, x = (.agg [y0.1, y1.1, y2.1], y0.2 ++ (y1.2 ++ y2.2)) ∧ cs.length = P.cellsOf t ∧ DataW.trod enc P w base spare held n f0.type ((cs.drop f0.offset).take (P.cellsOf f0.type)) = some y0 ∧
      DataW.trod enc P w base spare held n f1.type ((cs.drop f1.offset).take (P.cellsOf f1.type)) = some y1 ∧ DataW.trod enc P w base spare held n f2.type ((cs.drop f2.offset).take (P.cellsOf f2.type)) = some y2 := by
  obtain ⟨xs, n, _, rfl, hl, hlen, hf⟩ := DataW.trod_struct ht h
  match xs, hlen with
  | [y0, y1, y2], _ => exact ⟨y0, y1, y2, n, by simp, hl, by simpa using hf 0 f0 rfl, by simpa using hf 1 f1 rfl, by simpa using hf 2 f2 rfl⟩
end
section
variable {H : Type} {enc : TypeId × Value → H} {P : Program} {w : World} {base : Nat} {spare : Nat → Bool} {held : Bool}
theorem trod_struct2 {t : TypeId} {f0 f1 : Field} {fuel : Nat} {cs : List Value} {x : DataW H × List MemPlace} (ht : P.underlying t = some (.struct #[f0, f1])) (h : DataW.trod enc P w base spare held fuel t cs = some x) :
    ∃ y0 y1 n, x = (.agg [y0.1, y1.1], y0.2 ++ y1.2) ∧ cs.length = P.cellsOf t ∧ DataW.trod enc P w base spare held n f0.type ((cs.drop f0.offset).take (P.cellsOf f0.type)) = some y0 ∧
      DataW.trod enc P w base spare held n f1.type ((cs.drop f1.offset).take (P.cellsOf f1.type)) = some y1 := by
  obtain ⟨xs, n, _, rfl, hl, hlen, hf⟩ := DataW.trod_struct ht h
  match xs, hlen with
  | [y0, y1], _ => exact ⟨y0, y1, n, by simp, hl, by simpa using hf 0 f0 rfl, by simpa using hf 1 f1 rfl⟩
end
section
variable {H : Type} {enc : TypeId × Value → H} {P : Program} {w : World} {base : Nat} {spare : Nat → Bool} {held : Bool}
theorem trod_struct5 {t : TypeId} {f0 f1 f2 f3 f4 : Field} {fuel : Nat} {cs : List Value} {x : DataW H × List MemPlace} (ht : P.underlying t = some (.struct #[f0, f1, f2, f3, f4])) (h : DataW.trod enc P w base spare held fuel t cs = some x) :
    ∃ y0 y1 y2 y3 y4 n, x = (.agg [y0.1, y1.1, y2.1, y3.1, y4.1], y0.2 ++ (y1.2 ++ (y2.2 ++ (y3.2 ++ y4.2)))) ∧ DataW.trod enc P w base spare held n f0.type ((cs.drop f0.offset).take (P.cellsOf f0.type)) = some y0 ∧
      DataW.trod enc P w base spare held n f1.type ((cs.drop f1.offset).take (P.cellsOf f1.type)) = some y1 ∧ DataW.trod enc P w base spare held n f2.type ((cs.drop f2.offset).take (P.cellsOf f2.type)) = some y2 ∧
      DataW.trod enc P w base spare held n f3.type ((cs.drop f3.offset).take (P.cellsOf f3.type)) = some y3 ∧ DataW.trod enc P w base spare held n f4.type ((cs.drop f4.offset).take (P.cellsOf f4.type)) = some y4 := by
  obtain ⟨xs, n, _, rfl, hl, hlen, hf⟩ := DataW.trod_struct ht h
  match xs, hlen with
  | [y0, y1, y2, y3, y4], _ => exact ⟨y0, y1, y2, y3, y4, n, by simp, by simpa using hf 0 f0 rfl, by simpa using hf 1 f1 rfl, by simpa using hf 2 f2 rfl, by simpa using hf 3 f3 rfl, by simpa using hf 4 f4 rfl⟩
end
theorem cellsStr : Tryz.prog.cellsOf 9 = 1 := by kernel_rfl
theorem cellsBool : Tryz.prog.cellsOf 4 = 1 := by kernel_rfl
set_option maxRecDepth 100000 in
theorem open_tag {H : Type} {enc : TypeId × Value → H} {w : World} {v : Value} {d : DataW H} {p : List MemPlace} {base : Nat} (hv : Value.okWide Tryz.prog w .any base 23 v)
    (h : DataW.Trod enc Tryz.prog w 0 (fun _ => true) true 23 v d p) (hw : ∀ n ∈ d.weights Tryz.prog 23, n ≤ reachBytes) : ∃ r : Tg, v = tgV r ∧ r.2.length ≤ 140737488355328 := by
  obtain ⟨cs, rfl, hsz⟩ : ∃ cs, v = .agg cs ∧ cs.size = 2 := by
    simp only [Value.okWide, Tryz.underlying23] at hv
    obtain ⟨cs, h1, h2, _⟩ := hv
    exact ⟨cs, h1, h2.trans (by kernel_rfl)⟩
  obtain ⟨c0, c1, rfl⟩ : ∃ c0 c1, cs = #[c0, c1] := by
    obtain ⟨l⟩ := cs
    match l, hsz with
    | [a, b], _ => exact ⟨a, b, rfl⟩
    | [], hz => simp at hz
    | [_], hz => simp at hz
    | _ :: _ :: _ :: _, hz => simp at hz
  obtain ⟨fuel, hf⟩ := h
  have hf' : DataW.trod enc Tryz.prog w 0 (fun _ => true) true fuel 23 [c0, c1] = some (d, p) := by simpa [Value.cells] using hf
  obtain ⟨y0, y1, n, hx, _, g0, g1⟩ := trod_struct2 Tryz.underlying23 hf'
  simp only [cellsStr, cellsBool, List.drop_zero, List.drop_succ_cons, List.take_succ_cons, List.take_zero] at g0 g1
  obtain ⟨b0, e0, f0⟩ := DataW.trod_bool Tryz.underlying4 g0
  obtain ⟨s1, e1, f1, _⟩ := DataW.trod_string Tryz.underlying9 g1
  simp only [List.cons.injEq, and_true] at e0 e1
  simp only [Prod.mk.injEq] at hx
  rw [hx.1, f0, f1] at hw
  have key := hw
  unfold DataW.weights at key
  rw [Tryz.underlying23] at key
  simp only [DataW.weightsEach, DataW.weights, List.map_cons, List.map_nil, List.mem_append, List.mem_cons, List.not_mem_nil, or_false] at key
  have k1 : s1.data.toList.length ≤ reachBytes := by
    first
    | exact key _ (.inr rfl)
    | exact key _ rfl
    | (have := key s1.data.toList.length (by simp); exact this)
  unfold reachBytes at k1
  exact ⟨(b0, s1.data.toList), by rw [e0, e1]; show _ = Value.agg #[.bool b0, .string (strB s1.data.toList)]; rw [strB_of], by show s1.data.toList.length ≤ _; omega⟩
/-- A conditional request as a value, and what holds of it. -/
abbrev askV (q : List UInt8) (u : Value) (s : StV) : Value := .agg #[.string (strB q), u, .bool s.ex, .bool s.ht, .bool s.hm, .bool s.tag.1, .string (strB s.tag.2), .int .i64 s.md]
def AskOk (w : World) (q : List UInt8) (u : Value) (ps : List (List UInt8 × List UInt8)) : Prop :=
  q.length ≤ 140737488355328 ∧ ReadsQ w u ps ∧ ps.length ≤ maxLen ∧ (∀ x ∈ ps, x.1.length ≤ 140737488355328 ∧ x.2.length ≤ 140737488355328)
set_option maxRecDepth 100000 in
theorem open_ask {H : Type} {enc : TypeId × Value → H} {w : World} {v : Value} {d : DataW H} {p : List MemPlace} {base : Nat} (hv : Value.okWide Tryz.prog w .any base 54 v)
    (h : DataW.Trod enc Tryz.prog w 0 (fun _ => true) true 54 v d p) (hw : ∀ n ∈ d.weights Tryz.prog 54, n ≤ reachBytes) :
    ∃ (q : List UInt8) (u : Value) (ps : List (List UInt8 × List UInt8)) (s : StV), v = askV q u s ∧ AskOk w q u ps := by
  obtain ⟨cs, rfl, hsz⟩ : ∃ cs, v = .agg cs ∧ cs.size = 8 := by
    simp only [Value.okWide, Tryz.underlying54] at hv
    obtain ⟨cs, h1, h2, _⟩ := hv
    exact ⟨cs, h1, h2.trans (by kernel_rfl)⟩
  obtain ⟨c0, c1, c2, c3, c4, c5, c6, c7, rfl⟩ : ∃ c0 c1 c2 c3 c4 c5 c6 c7, cs = #[c0, c1, c2, c3, c4, c5, c6, c7] := by
    obtain ⟨l⟩ := cs
    match l, hsz with
    | [a, b, c, d, e, f, g, h], _ => exact ⟨a, b, c, d, e, f, g, h, rfl⟩
    | [], hz => simp at hz
    | [_], hz => simp at hz
    | [_, _], hz => simp at hz
    | [_, _, _], hz => simp at hz
    | [_, _, _, _], hz => simp at hz
    | [_, _, _, _, _], hz => simp at hz
    | [_, _, _, _, _, _], hz => simp at hz
    | [_, _, _, _, _, _, _], hz => simp at hz
    | _ :: _ :: _ :: _ :: _ :: _ :: _ :: _ :: _ :: _, hz => simp at hz
  obtain ⟨fuel, hf⟩ := h
  have hf' : DataW.trod enc Tryz.prog w 0 (fun _ => true) true fuel 54 [c0, c1, c2, c3, c4, c5, c6, c7] = some (d, p) := by simpa [Value.cells] using hf
  obtain ⟨y0, y1, y2, n, hx, _, g0, g1, g2⟩ := trod_struct3 Tryz.underlying54 hf'
  have hcb : Tryz.prog.cellsOf 50 = 1 := by kernel_rfl
  have hcs : Tryz.prog.cellsOf 52 = 6 := by kernel_rfl
  have hct : Tryz.prog.cellsOf 23 = 2 := by kernel_rfl
  have hci : Tryz.prog.cellsOf 3 = 1 := by kernel_rfl
  simp only [cellsStr, hcb, hcs, List.drop_zero, List.drop_succ_cons, List.take_succ_cons, List.take_zero] at g0 g1 g2
  obtain ⟨s0, e0, f0, _⟩ := DataW.trod_string Tryz.underlying9 g0
  simp only [List.cons.injEq, and_true] at e0
  obtain ⟨z0, z1, z2, z3, z4, n2, _, q0, q1, q2, q3, q4⟩ := trod_struct5 Tryz.underlying52 g2
  simp only [cellsBool, hct, hci, List.drop_zero, List.drop_succ_cons, List.take_succ_cons, List.take_zero] at q0 q1 q2 q3 q4
  obtain ⟨b0, d0, _⟩ := DataW.trod_bool Tryz.underlying4 q0
  obtain ⟨b1, d1, _⟩ := DataW.trod_bool Tryz.underlying4 q1
  obtain ⟨b2, d2, _⟩ := DataW.trod_bool Tryz.underlying4 q2
  obtain ⟨x0, x1, n3, _, _, t0, t1⟩ := trod_struct2 Tryz.underlying23 q3
  simp only [cellsBool, cellsStr, List.drop_zero, List.drop_succ_cons, List.take_succ_cons, List.take_zero] at t0 t1
  obtain ⟨b3, d3, _⟩ := DataW.trod_bool Tryz.underlying4 t0
  obtain ⟨s4, d4, _, _⟩ := DataW.trod_string Tryz.underlying9 t1
  obtain ⟨i5, d5, _, _⟩ := DataW.trod_int Tryz.underlying3 q4
  simp only [List.cons.injEq, and_true] at d0 d1 d2 d3 d4 d5
  simp only [Prod.mk.injEq] at hx
  rw [hx.1, f0] at hw
  have key := hw
  unfold DataW.weights at key
  rw [Tryz.underlying54] at key
  simp only [DataW.weightsEach, DataW.weights, List.map_cons, List.map_nil, List.mem_append, List.mem_cons, List.not_mem_nil, or_false] at key
  have k0 : s0.data.toList.length ≤ reachBytes := key _ (.inl rfl)
  have k1 : ∀ n ∈ y1.1.weights Tryz.prog 50, n ≤ reachBytes := fun n hn => key n (.inr (.inl hn))
  unfold reachBytes at k0
  obtain ⟨ps, r1, r2, r3⟩ := open_fields ⟨n, g1⟩ k1
  refine ⟨s0.data.toList, c1, ps, ⟨b0, b1, b2, (b3, s4.data.toList), i5⟩, ?_, by omega, r1, r2, r3⟩
  rw [e0, d0, d1, d2, d3, d4, d5]
  show _ = Value.agg #[.string (strB s0.data.toList), _, _, _, _, _, .string (strB s4.data.toList), _]
  rw [strB_of, strB_of]
end Go.Proofs.YtkpeaghbacoehaaGreatDoor

/- ValidatorEvaluates: for every request the statement's function returns true: the walk. -/
namespace Go.Proofs.YtkpeaghbacoehaaGreatDoor
open Go.RowKit

/-- A block of a request's eight cells. -/
structure AskB (N : Nat) (w : World) (q : List UInt8) (u : Value) (s : StV) : Prop where
  c0 : w.cell? ⟨N, 0, none⟩ = some (.string (strB q))
  c1 : w.cell? ⟨N, 1, none⟩ = some u
  c2 : w.cell? ⟨N, 2, none⟩ = some (.bool s.ex)
  c3 : w.cell? ⟨N, 3, none⟩ = some (.bool s.ht)
  c4 : w.cell? ⟨N, 4, none⟩ = some (.bool s.hm)
  c5 : w.cell? ⟨N, 5, none⟩ = some (.bool s.tag.1)
  c6 : w.cell? ⟨N, 6, none⟩ = some (.string (strB s.tag.2))
  c7 : w.cell? ⟨N, 7, none⟩ = some (.int .i64 s.md)
  lt : N < w.heap.size
theorem AskB.below {N : Nat} {w w' : World} {q : List UInt8} {u : Value} {s : StV} (h : AskB N w q u s) (hb : Below w.heap.size w w') : AskB N w' q u s :=
  ⟨(hb.cell (p := ⟨N, 0, none⟩) h.lt).trans h.c0, (hb.cell (p := ⟨N, 1, none⟩) h.lt).trans h.c1, (hb.cell (p := ⟨N, 2, none⟩) h.lt).trans h.c2, (hb.cell (p := ⟨N, 3, none⟩) h.lt).trans h.c3, (hb.cell (p := ⟨N, 4, none⟩) h.lt).trans h.c4, (hb.cell (p := ⟨N, 5, none⟩) h.lt).trans h.c5, (hb.cell (p := ⟨N, 6, none⟩) h.lt).trans h.c6, (hb.cell (p := ⟨N, 7, none⟩) h.lt).trans h.c7, Nat.lt_of_lt_of_le h.lt hb.size⟩
abbrev askC (q : List UInt8) (u : Value) (s : StV) : Array Value := #[.string (strB q), u, .bool s.ex, .bool s.ht, .bool s.hm, .bool s.tag.1, .string (strB s.tag.2), .int .i64 s.md]
theorem askB_new (w : World) (q : List UInt8) (u : Value) (s : StV) (T : TypeId) : AskB w.heap.size (w.alloc (.cells (askC q u s) T)) q u s :=
  ⟨by rw [World.cell?_alloc_at _ _ _ _ rfl]; rfl, by rw [World.cell?_alloc_at _ _ _ _ rfl]; rfl, by rw [World.cell?_alloc_at _ _ _ _ rfl]; rfl, by rw [World.cell?_alloc_at _ _ _ _ rfl]; rfl, by rw [World.cell?_alloc_at _ _ _ _ rfl]; rfl, by rw [World.cell?_alloc_at _ _ _ _ rfl]; rfl, by rw [World.cell?_alloc_at _ _ _ _ rfl]; rfl, by rw [World.cell?_alloc_at _ _ _ _ rfl]; rfl, by simp⟩
/-- What holds while the last statement runs. -/
structure EvS (N : Nat) (q : List UInt8) (u fv : Value) (ps : Flds) (s : StV) (w w' : World) : Prop where
  a : AskB N w' q u s
  e : EnvY w'
  r : ReadsQ w' u ps
  f : ReadsQ w' fv ps
  b : Below w.heap.size w w'
theorem EvS.below {N : Nat} {q : List UInt8} {u fv : Value} {ps : Flds} {s : StV} {w w1 w2 : World} (h : EvS N q u fv ps s w w1) (hb : Below w1.heap.size w1 w2) : EvS N q u fv ps s w w2 :=
  ⟨h.a.below hb, h.e.below hb, h.r.below hb, h.f.below hb, h.b.trans (hb.mono h.b.size)⟩
theorem ev_all {N : Nat} {q : List UInt8} {u fv : Value} {ps : Flds} {s : StV} {w w' : World} (h : EvS N q u fv ps s w w') : w'.cell? ⟨N, 0, none⟩ = some (.string (strB q)) ∧ w'.cell? ⟨N, 1, none⟩ = some u ∧ w'.cell? ⟨N, 2, none⟩ = some (.bool s.ex) ∧ w'.cell? ⟨N, 3, none⟩ = some (.bool s.ht) ∧ w'.cell? ⟨N, 4, none⟩ = some (.bool s.hm) ∧ w'.cell? ⟨N, 5, none⟩ = some (.bool s.tag.1) ∧ w'.cell? ⟨N, 6, none⟩ = some (.string (strB s.tag.2)) ∧ w'.cell? ⟨N, 7, none⟩ = some (.int .i64 s.md) ∧ EvS N q u fv ps s w w' :=
  ⟨h.a.c0, h.a.c1, h.a.c2, h.a.c3, h.a.c4, h.a.c5, h.a.c6, h.a.c7, h⟩
section
variable {N : Nat} {q : List UInt8} {u fv : Value} {ps : Flds} {s : StV} {w w' : World}
theorem ev_state (h : EvS N q u fv ps s w w') : Calls Tryz.prog 26 #[stV s] w' fun e w2 => e = .returned (stV s) ∧ EvS N q u fv ps s w w2 := by
  refine (state_any s w').mono ?_
  rintro e w2 ⟨rfl, hB⟩
  exact ⟨rfl, h.below hB⟩
theorem ev_eval {du dm : Option Nat} {x : Int} (hf : Hid (FitY ps)) (hdu : Hid (DateIs (valF ps nIU) du)) (hdm : Hid (DateIs (valF ps nIS) dm)) (hx : Hid (evalL q ps s du dm = x)) (h : EvS N q u fv ps s w w') :
    Calls Tryz.prog 25 #[.string (strB q), fv, stV s] w' fun e w2 => e = .returned (.int .i64 x) ∧ EvS N q u fv ps s w w2 := by
  refine (evaluate_any q fv ps s du dm w' h.f hf.out hdu.out hdm.out h.e).mono ?_
  rintro e w2 ⟨rfl, hB⟩
  exact ⟨by rw [hx.out], h.below hB⟩
theorem ev_ref {du dm : Option Nat} {x : Int} (hf : Hid (FitY ps)) (hdu : Hid (DateIs (valF ps nIU) du)) (hdm : Hid (DateIs (valF ps nIS) dm)) (hx : Hid (evalL q ps s du dm = x)) (h : EvS N q u fv ps s w w') :
    Calls Tryz.prog 27 #[.string (strB q), u, stV s] w' fun e w2 => e = .returned (.int .i64 x) ∧ EvS N q u fv ps s w w2 := by
  refine (refEvaluate_any q u ps s du dm w' h.r hf.out hdu.out hdm.out).mono ?_
  rintro e w2 ⟨rfl, hB⟩
  exact ⟨by rw [hx.out], h.below hB⟩
theorem ev_use {dr : Option Nat} {x : Bool} (hf : Hid (FitY ps)) (hdr : Hid (DateIs (valF ps nIR) dr)) (hx : Hid (useL q ps s dr = x)) (h : EvS N q u fv ps s w w') :
    Calls Tryz.prog 28 #[.string (strB q), fv, stV s] w' fun e w2 => e = .returned (.bool x) ∧ EvS N q u fv ps s w w2 := by
  refine (useRange_any q fv ps s dr w' h.f hf.out hdr.out h.e).mono ?_
  rintro e w2 ⟨rfl, hB⟩
  exact ⟨by rw [hx.out], h.below hB⟩
theorem ev_useR {dr : Option Nat} {x : Bool} (hf : Hid (FitY ps)) (hdr : Hid (DateIs (valF ps nIR) dr)) (hx : Hid (useL q ps s dr = x)) (h : EvS N q u fv ps s w w') :
    Calls Tryz.prog 29 #[.string (strB q), u, stV s] w' fun e w2 => e = .returned (.bool x) ∧ EvS N q u fv ps s w w2 := by
  refine (refUseRange_any q u ps s dr w' h.r hf.out hdr.out).mono ?_
  rintro e w2 ⟨rfl, hB⟩
  exact ⟨by rw [hx.out], h.below hB⟩
end
set_option maxHeartbeats 16000000 in
set_option maxRecDepth 100000 in
theorem evaluates_walk (q : List UInt8) (u : Value) (ps : Flds) (s : StV) (w : World) (hE : EnvY w) (hA : AskOk w q u ps) :
    Calls Tryz.prog 7 #[askV q u s] w fun e w' => e = .returned (.bool true) ∧ Below w.heap.size w w' := by
  obtain ⟨hql, hr, hpl, hpb⟩ := hA
  have HW0 := Lib.hid (below_new w (.cells (askC q u s) 54))
  have HA0 := Lib.hid (askB_new w q u s 54)
  have HE0 := Lib.hid (hE.below HW0.out)
  have HR0 := Lib.hid (hr.below HW0.out)
  have HF := Lib.hid (fun (w : World) (hr : ReadsQ w u ps) => few_any u ps w hr (by unfold maxLen at hpl; omega) hpb)
  clear hE hr hpb hql
  obtain ⟨fw, hfw⟩ : ∃ x, fewB ps = x := ⟨_, rfl⟩
  rw [hfw] at HF
  cases fw with
  | false =>
    clear hfw
    go_enter Tryz.func7, Tryz.ntmps7
    go_wp2_with fail
    refine (awakeY_any _ HE0.out).mono ?_
    rintro e w1 ⟨rfl, hB1⟩
    have HB1 := Lib.hid (HW0.out.trans (hB1.mono HW0.out.size))
    have HE1 := Lib.hid (HE0.out.below hB1)
    have HR1 := Lib.hid (HR0.out.below hB1)
    have c1 := (HA0.out.below hB1).c1
    clear hB1
    go_wp2_with fail
    refine (HF.out _ HR1.out).mono ?_
    rintro e w2 ⟨rfl, hB2⟩
    have HB2 := Lib.hid (HB1.out.trans (hB2.mono HB1.out.size))
    have HE2 := Lib.hid (HE1.out.below hB2)
    clear hB2
    go_wp2_with fail
    refine (awakeY_any _ HE2.out).mono ?_
    rintro e w3 ⟨rfl, hB3⟩
    go_wp2_with fail
    go_ret
    exact ⟨rfl, HB2.out.trans (hB3.mono HB2.out.size)⟩
  | true =>
    obtain ⟨hl20, hb3⟩ := few_yes hfw
    have HFit := Lib.hid (fit_of (by omega : ps.length ≤ 30) hb3)
    have HFl := Lib.hid (fun (w : World) (hr : ReadsQ w u ps) => fields_any u ps w hr (by omega) (fun p hp => by have := hb3 p hp; omega))
    clear hfw hb3 hl20
    obtain ⟨du, hdu⟩ := date_ex (valF ps nIU)
    obtain ⟨dm, hdm⟩ := date_ex (valF ps nIS)
    obtain ⟨dr, hdr⟩ := date_ex (valF ps nIR)
    have HDU := Lib.hid hdu
    have HDM := Lib.hid hdm
    have HDR := Lib.hid hdr
    obtain ⟨x, hx⟩ : ∃ x, evalL q ps s du dm = x := ⟨_, rfl⟩
    obtain ⟨y, hy⟩ : ∃ y, useL q ps s dr = y := ⟨_, rfl⟩
    have HX := Lib.hid hx
    have HY := Lib.hid hy
    have hxx : (x == x) = true := by simp
    have hyy : (y == y) = true := by simp
    clear hdu hdm hdr hx hy
    go_enter Tryz.func7, Tryz.ntmps7
    go_wp2_with fail
    refine (awakeY_any _ HE0.out).mono ?_
    rintro e w1 ⟨rfl, hB1⟩
    have HB1 := Lib.hid (HW0.out.trans (hB1.mono HW0.out.size))
    have HE1 := Lib.hid (HE0.out.below hB1)
    have HR1 := Lib.hid (HR0.out.below hB1)
    have HA1 := Lib.hid (HA0.out.below hB1)
    have c1 := HA1.out.c1
    clear hB1
    go_wp2_with fail
    refine (HF.out _ HR1.out).mono ?_
    rintro e w2 ⟨rfl, hB2⟩
    have HB2 := Lib.hid (HB1.out.trans (hB2.mono HB1.out.size))
    have HE2 := Lib.hid (HE1.out.below hB2)
    have HR2 := Lib.hid (HR1.out.below hB2)
    have HA2 := Lib.hid (HA1.out.below hB2)
    clear hB2 c1
    have c1 := HA2.out.c1
    go_wp2_with fail
    refine (HFl.out _ HR2.out).mono ?_
    rintro e w3 ⟨fv, rfl, hO, hB3⟩
    have HS := Lib.hid (show EvS w.heap.size q u fv ps s w w3.drew from (⟨HA2.out.below hB3, HE2.out.below hB3, HR2.out.below hB3, hO.q, HB2.out.trans (hB3.mono HB2.out.size)⟩ : EvS w.heap.size q u fv ps s w w3).below (Below.refl _ _).drew)
    clear c1 hB3 hO
    go_wp2
    go_region_held3 (fun w' => w'.cell? ⟨w.heap.size, 0, none⟩ = some (.string (strB q)) ∧ w'.cell? ⟨w.heap.size, 1, none⟩ = some u ∧ w'.cell? ⟨w.heap.size, 2, none⟩ = some (.bool s.ex) ∧ w'.cell? ⟨w.heap.size, 3, none⟩ = some (.bool s.ht) ∧ w'.cell? ⟨w.heap.size, 4, none⟩ = some (.bool s.hm) ∧ w'.cell? ⟨w.heap.size, 5, none⟩ = some (.bool s.tag.1) ∧ w'.cell? ⟨w.heap.size, 6, none⟩ = some (.string (strB s.tag.2)) ∧ w'.cell? ⟨w.heap.size, 7, none⟩ = some (.int .i64 s.md) ∧ EvS w.heap.size q u fv ps s w w')
      (first | with_reducible exact ev_all hK | with_reducible exact ev_all HS.out)
      (first
        | (go_at_call 26; refine (ev_state (by first | exact HS.out | assumption)).mono ?_; rintro e w10 ⟨rfl, hK⟩)
        | (go_at_call 25; refine (ev_eval HFit HDU HDM HX (by first | assumption | exact HS.out)).mono ?_; rintro e w10 ⟨rfl, hK⟩)
        | (go_at_call 27; refine (ev_ref HFit HDU HDM HX (by first | assumption | exact HS.out)).mono ?_; rintro e w10 ⟨rfl, hK⟩)
        | (go_at_call 28; refine (ev_use HFit HDR HY (by first | assumption | exact HS.out)).mono ?_; rintro e w10 ⟨rfl, hK⟩)
        | (go_at_call 29; refine (ev_useR HFit HDR HY (by first | assumption | exact HS.out)).mono ?_; rintro e w10 ⟨rfl, hK⟩))
    go_wp2_with fail
    go_ret
    exact ⟨rfl, hK.b⟩
end Go.Proofs.YtkpeaghbacoehaaGreatDoor
