import Derived.Test.YtkpeaghbacoehaaGreatDoorTie
import Derived.Test.YtkpeaghbacoehaaGreatDoorCards
import Derived.WalkKit
import Derived.ProofKit
import Derived.OpenShut
import Derived.LaidMore
import Derived.Lay
import Derived.SevenTiedAt
import Derived.Stop.Joined
import Derived.Below
import Derived.Stop.LaidErr
import Derived.Shelf.Vars
import Derived.Deep.DeepHandedRow
import Derived.Test.YtkpeaghbacoehaaGreatDoorPqYSafeCard1
import Derived.Deep.SlicePairs
import Derived.Carry
import Derived.Test.YtkpeaghbacoehaaGreatDoorFSetOne
import Derived.Deep.RegionHeld3
import Derived.Deep.DeepCutAuto
import Derived.Deep.CutBlock
import Derived.Test.YtkpeaghbacoehaaGreatDoorFSet
import Derived.Test.YtkpeaghbacoehaaGreatDoorFAdd
/- What every row of layer 10 shares: the program's knob, the start that lays the nine listed variables, what the walks ask of a world, and the row's last step. -/
namespace Go.Proofs.YtkpeaghbacoehaaGreatDoor
open Go.ChangeShapes Go.WideShapes Go.ChangeAt Go.RowKit

theorem own : ownKnob Tryz.prog.godebug = none := by kernel_rfl
def laidA : List (String × DataW Unit) := Rows.validatorTagsRow.laid
theorem laid_plainA (w : World) : laidMetH Tryz.prog laidA w = laidMet Tryz.prog laidA w := MakeChecks.laidMetH_plain _ _ _ (by kernel_rfl)
set_option maxRecDepth 100000 in
theorem laid_metA (os : Os) (args : Array Value) : laidMetH Tryz.prog laidA ((World.laidAll Tryz.prog os laidA).forCall (fun _ _ => 0) ⟨#[], args, []⟩).memory := by
  rw [laid_plainA]; exact laidMet_laidAll _ (by kernel_rfl) (by kernel_rfl)
/-- An array of strings that reads as a list of strings holds them. -/
theorem cells_of_strs {H : Type} {enc : TypeId × Value → H} {P : Program} {w : World} {base : Nat} {sp : Nat → Bool} {held : Bool} {fuel : Nat} {t e : TypeId} {n : Nat} {cs : List Value} {ls : List (List UInt8)} {p : List MemPlace}
    (ht : P.underlying t = some (.array n e)) (he : P.underlying e = some .string) (hce : P.cellsOf e = 1) (hct : P.cellsOf t = n)
    (h : DataW.trod enc P w base sp held fuel t cs = some (.agg (ls.map fun l => .lit (.string l)), p)) : cs = ls.map fun l => Value.string (strB l) := by
  cases fuel with
  | zero => simp [DataW.trod] at h
  | succ fuel =>
    simp only [DataW.trod, ht, hce, hct, Nat.mul_one] at h
    split at h
    · rename_i hl
      obtain ⟨xs, hm, hx⟩ := Option.map_eq_some_iff.1 h
      have hxs : xs.map (·.1) = ls.map fun l => (DataW.lit (.string l) : DataW H) := by
        have := congrArg Prod.fst hx
        simpa using this
      have hxl : xs.length = n := by simpa using Lib.mapM_length hm
      have hzl : ls.length = n := by
        have := congrArg List.length hxs
        simp at this
        omega
      apply List.ext_getElem?
      intro i
      by_cases hi : i < n
      · obtain ⟨b, hb, hf⟩ := Lib.mapM_at hm i i (by simp [hi])
        obtain ⟨z, hc, hz, _⟩ := DataW.trod_string he hf
        have h1 : cs[i]? = some (.string z) := by
          have := congrArg (·[0]?) hc
          simpa [List.getElem?_take, List.getElem?_drop] using this
        have h2 : (xs.map (·.1))[i]? = some (DataW.lit (.string z.data.toList) : DataW H) := by simp [hb, hz]
        rw [hxs] at h2
        simp only [List.getElem?_map, Option.map_eq_some_iff, DataW.lit.injEq, Lit.string.injEq] at h2
        obtain ⟨z', hz', e⟩ := h2
        rw [h1]
        simp [hz', e, strB_of]
      · rw [List.getElem?_eq_none (by omega), List.getElem?_eq_none (by simp; omega)]
    · cases h
theorem strs_of_head {P : Program} {W : World} {name : String} {ls : List (List UInt8)} {rest : List (String × DataW Unit)} {g : Nat} {t e : TypeId} {n : Nat}
    (hg : P.globalNamed name = some g) (hty : (P.globals[g]?).map (·.type) = some t) (ht : P.underlying t = some (.array n e)) (he : P.underlying e = some .string) (hce : P.cellsOf e = 1) (hct : P.cellsOf t = n)
    (h : laidMet P ((name, .agg (ls.map fun l => .lit (.string l))) :: rest) W) : W.var? P name = some (ls.map fun l => Value.string (strB l)).toArray := by
  obtain ⟨ps, ⟨g', t', cs, fuel, p, q, hg', ht', hvar, hd, _, _⟩, _⟩ := h
  obtain rfl := Option.some.inj (hg.symm.trans hg')
  obtain rfl := Option.some.inj (hty.symm.trans ht')
  rw [hvar, ← cells_of_strs ht he hce hct hd]
theorem tTab : (Tryz.prog.globals[(7 : Nat)]?).map (·.type) = some 181 := by kernel_rfl
theorem tMon : (Tryz.prog.globals[(0 : Nat)]?).map (·.type) = some 131 := by kernel_rfl
theorem tDay : (Tryz.prog.globals[(1 : Nat)]?).map (·.type) = some 134 := by kernel_rfl
theorem eTab : (Rows.laid_internal_strconv_uint64pow10 : DataW Unit) = Lib.tabData .u64 Lib.pow10Tab := by rfl
theorem eMon : (Rows.laid_quayside_httpdate_monthNames : DataW Unit) = .agg ([moS 1, moS 2, moS 3, moS 4, moS 5, moS 6, moS 7, moS 8, moS 9, moS 10, moS 11, moS 12].map fun l => .lit (.string l)) := by rfl
theorem eDay : (Rows.laid_quayside_httpdate_weekdayNames : DataW Unit) = .agg ([wdS 0, wdS 1, wdS 2, wdS 3, wdS 4, wdS 5, wdS 6].map fun l => .lit (.string l)) := by rfl
theorem tab_of {W : World} {rest : List (String × DataW Unit)} (h : laidMet Tryz.prog (("internal/strconv.uint64pow10", Rows.laid_internal_strconv_uint64pow10) :: rest) W) : Lib.TabIs Tryz.prog W "internal/strconv.uint64pow10" .u64 Lib.pow10Tab := by
  rw [eTab] at h
  exact Lib.tabIs_of_head gTab tTab Tryz.underlying181 Tryz.underlying165 (by kernel_rfl) (by kernel_rfl) h
theorem mon_of {W : World} {rest : List (String × DataW Unit)} (h : laidMet Tryz.prog (("quayside/httpdate.monthNames", Rows.laid_quayside_httpdate_monthNames) :: rest) W) : W.var? Tryz.prog "quayside/httpdate.monthNames" = some monA := by
  rw [eMon] at h
  exact strs_of_head gMon tMon Tryz.underlying131 Tryz.underlying9 (by kernel_rfl) (by kernel_rfl) h
theorem day_of {W : World} {rest : List (String × DataW Unit)} (h : laidMet Tryz.prog (("quayside/httpdate.weekdayNames", Rows.laid_quayside_httpdate_weekdayNames) :: rest) W) : W.var? Tryz.prog "quayside/httpdate.weekdayNames" = some dayA := by
  rw [eDay] at h
  exact strs_of_head gDay tDay Tryz.underlying134 Tryz.underlying9 (by kernel_rfl) (by kernel_rfl) h
theorem gES : Tryz.prog.globalNamed "strconv.ErrSyntax" = some 5 := by kernel_rfl
theorem gESType : (Tryz.prog.globals[(5 : Nat)]?).map (·.type) = some 26 := by kernel_rfl
theorem star : "*" ++ "errors.errorString" = "*errors.errorString" := by decide
theorem rowES (u : TypeId) (h : Tryz.prog.typeName? 3 u = some "*errors.errorString") : u = 177 :=
  typeName_ptr_named (nm := "errors.errorString") (by rw [star]; kernel_rfl) (by kernel_rfl) (by decide) u (by rw [star]; exact h)
theorem envP_of {W : World} (hL : laidMetH Tryz.prog laidA W) : EnvP W := by
  rw [laid_plainA] at hL
  have hT := hL.tail.tail.tail.tail.tail
  obtain ⟨a, s, hv, -, -, -⟩ := laid_sentinel (text := [105, 110, 118, 97, 108, 105, 100, 32, 115, 121, 110, 116, 97, 120]) hT gES gESType Tryz.underlying26 rowES Tryz.underlying177 Tryz.underlying179 rfl rfl Tryz.underlying9 (by kernel_rfl) (by kernel_rfl)
  have h0 := World.var?_cell gES hv 0
  exact ⟨⟨tab_of hL.tail.tail, mon_of hT.tail.tail, day_of hT.tail⟩, _, by simpa using h0, Or.inr ⟨_, _, rfl⟩⟩
theorem max_len {W : World} (h : W.ShapedOpen Tryz.prog) : ∃ m, W.cell? ⟨2, 0, none⟩ = some (.int .i64 m) :=
  cell_of_shapedOpen_int (P := Tryz.prog) (g := 2) (t := 3) (zero := #[.int .i64 0]) h (of_decide_eq_true (by kernel_rfl)) (by kernel_rfl) rfl (by kernel_rfl) (by kernel_rfl) Tryz.underlying3
/-- What the walks ask of a world holds where a row's call begins. -/
theorem has_max {W : World} (hsh : W.ShapedOpen Tryz.prog) : MaxIs W := max_len hsh
theorem env_y {W : World} (hL : laidMetH Tryz.prog laidA W) (hsh : W.ShapedOpen Tryz.prog) : EnvY W := ⟨has_max hsh, envP_of hL⟩
section
variable {H : Type} {enc : TypeId × Value → H}
/-- The witness of a row at a world of one's own making whose shape is shown by other means. -/
theorem witness_row_shaped {C : Checked} {os : Os} {f : FuncId} {fn : Func} {s : OpenSpec} {conds : List PathCond} {apart : Bool} {laid : List (String × DataW Unit)} (modest : Bool) (w0 : World) (args : Array Value) (hos : w0.os = os)
    (hsh : (w0.forCall (fun _ _ => 0) ⟨#[], args, []⟩).Shaped C.prog)
    (hok : Input.okWideB C.prog (w0.forCall (fun _ _ => 0) ⟨#[], args, []⟩) f ⟨#[], args, []⟩ = true)
    (hrow : s.preRow enc C.prog fn conds apart laid (w0.forCall (fun _ _ => 0) ⟨#[], args, []⟩).memory args) :
    ∃ (w : World) (tape : Tape) (i : Input), w.os = os ∧ (w.forCall tape i).Shaped C.prog ∧ i.vars = [] ∧ Input.okWide C.prog (w.forCall tape i) .any w.heap.size f i ∧
      s.preRow enc C.prog fn conds apart laid (w.forCall tape i).memory i.args ∧ ({ modest := modest } : Assume).holds C.prog (lone (Frame.enter C.prog f i.args .normal) [] (w.forCall tape i)) :=
  ⟨w0, fun _ _ => 0, ⟨#[], args, []⟩, hos, hsh, (Input.okWide_of_okWideB (base := 0) hok).1, (Input.okWide_of_okWideB hok).2, hrow, by
    simp only [Assume.holds]
    exact ⟨by simp, by simp, fun _ => Modest.zero, by simp, by simp⟩⟩
end
section
variable {H : Type} {enc : TypeId × Value → H} {P : Program}
/-- The row's last step from 'Below': what was there when the call began is as it was; new blocks may have come. -/
theorem post_below {f : Func} {s : ChangeSpec} {apart fresh handsOn again : Bool} {W W' : World} {args : Array Value} {v : Value} {ds gs : List (DataW H)} {before pa pv : List MemPlace}
    (hW : DataW.Whole enc P f.params.toList s.vars apart W args.toList ds gs before)
    (hres : ∀ (b : Nat) (sp : Nat → Bool) (hd : Bool), DataW.TrodAll enc P W' b sp hd f.resultTypes.toList (v.resultList f.resultTypes.size) (s.fn H (ds ++ gs)).results [])
    (hargs : ∀ sp : Nat → Bool, (∀ p ∈ before, sp p.block = true) → DataW.TrodAll enc P W' 0 sp true f.params.toList args.toList (s.fn H (ds ++ gs)).args pa)
    (hvars : ∀ sp : Nat → Bool, (∀ p ∈ before, sp p.block = true) → DataW.TrodVars enc P W' sp s.vars (s.fn H (ds ++ gs)).vars pv)
    (hps : before = pa ++ pv) (hb : Below W.heap.size W W')
    (hok : ∀ (j : Nat) (t : TypeId) (r : Value), f.resultTypes[j]? = some t → (v.resultList f.resultTypes.size)[j]? = some r → Value.okWide P W' .any 0 t r) :
    s.post enc P f apart fresh handsOn again W args v W' := by
  have lt : ∀ p ∈ before, p.block < W.heap.size := fun p hp => hW.lt p hp
  have old : ∀ p ∈ before, (fun b => decide (b < W.heap.size)) p.block = true := fun p hp => by simpa using lt p hp
  refine ⟨ds, gs, before, [], pa, pv, hW, hres _ _ _, hargs _ old, hvars _ old, World.keptBut_mono (fun p hp => ⟨hp, ?_⟩) (hb.frame (· ∈ before)), fun _ => ?_⟩
  · rw [hps, List.mem_append] at hp
    exact Or.inr hp
  · obtain ⟨_, _, _, _, _, hz, hn⟩ := hW
    refine ⟨hok, _, _, ([] ++ pa) ++ pv, ⟨[] ++ pa, pv, trodAll_append (hargs _ (fun _ _ => rfl)) (hres _ _ _), hvars _ (fun _ _ => rfl), rfl, ?_, ?_⟩, ?_⟩
    · intro b off hp
      have hin : MemPlace.cell b off ∈ before := by rw [hps]; simpa using hp
      rw [hb.frozen (lt _ hin)]
      exact hz b off hin
    · intro ha
      have := hn ha
      rw [hps] at this
      simpa using this
    · intro p hp _
      rw [hps]
      simpa using hp
end
end Go.Proofs.YtkpeaghbacoehaaGreatDoor

/- A tag and a conditional request of the reference among the arguments, opened. -/
namespace Go.Proofs.YtkpeaghbacoehaaGreatDoor
open Go.ChangeShapes Go.WideShapes Go.ChangeAt Go.RowKit
open Go.ChangeMaps (shut_string open_string)

theorem laidOut : laidOutB Tryz.prog = true := by kernel_rfl
theorem weight_in {H : Type} {P : Program} {e : TypeId} {d : DataW H} {n : Nat} : ∀ {l : List (DataW H)}, d ∈ l → n ∈ d.weights P e → n ∈ DataW.weightsAll P e l
  | x :: r, hd, hn => by
    simp only [DataW.weightsAll, List.mem_append]
    rcases List.mem_cons.1 hd with e | e
    · subst e; exact .inl hn
    · exact .inr (weight_in e hn)
set_option maxRecDepth 100000 in
/-- A slice of the reference's fields among the arguments. -/
theorem open_fields {H : Type} {enc : TypeId × Value → H} {w : World} {v : Value} {d : DataW H} {p : List MemPlace} (h : ∃ fuel, DataW.trod enc Tryz.prog w 0 (fun _ => true) true fuel 50 [v] = some (d, p)) (hw : ∀ n ∈ d.weights Tryz.prog 50, n ≤ reachBytes) :
    ∃ ps : List (List UInt8 × List UInt8), ReadsQ w v ps ∧ ps.length ≤ maxLen ∧ (∀ q ∈ ps, q.1.length ≤ 140737488355328 ∧ q.2.length ≤ 140737488355328) := by
  obtain ⟨fuel, hf⟩ := h
  rcases Go.Deep.open_slice_pairs Tryz.underlying50 Tryz.underlying80 (by kernel_rfl) rfl rfl (by kernel_rfl) (by kernel_rfl) hf with ⟨hcs, hx⟩ | ⟨a, len, cap, m, n, V0, V1, D0, D1, P0, P1, hcs, _, hl, hm, hmm, hx, hall⟩
  · simp only [List.cons.injEq, and_true] at hcs
    subst hcs
    exact ⟨[], ⟨none, 0, rfl, fun j l h => by simp at h⟩, by simp, by simp⟩
  · simp only [List.cons.injEq, and_true] at hcs
    subst hcs
    simp only [Prod.mk.injEq] at hx
    obtain ⟨rfl, _⟩ := hx
    simp only [if_true] at hmm
    subst hmm
    have each : ∀ i, i < len → ∃ q : ByteArray × ByteArray, V0 i = .string q.1 ∧ V1 i = .string q.2 ∧ D0 i = .lit (.string q.1.data.toList) ∧ D1 i = .lit (.string q.2.data.toList) := by
      intro i hi
      obtain ⟨_, _, t0, t1⟩ := hall i (by omega)
      obtain ⟨s0, e0, f0, _⟩ := DataW.trod_string Tryz.underlying9 t0
      obtain ⟨s1, e1, f1, _⟩ := DataW.trod_string Tryz.underlying9 t1
      simp only [List.cons.injEq, and_true, Prod.mk.injEq] at e0 e1 f0 f1
      exact ⟨(s0, s1), e0, e1, f0.1, f1.1⟩
    obtain ⟨q, hq⟩ := Go.Deep.choose_lt each
    have hlen : ((List.range len).map fun i => ((q i).1.data.toList, (q i).2.data.toList)).length = len := by simp
    have hwt : ∀ i, i < len → (q i).1.data.toList.length ≤ 140737488355328 ∧ (q i).2.data.toList.length ≤ 140737488355328 := by
      intro i hi
      obtain ⟨_, _, d0, d1⟩ := hq i hi
      have hin : (DataW.agg [D0 i, D1 i]) ∈ (List.range len).map fun i => DataW.agg [D0 i, D1 i] := List.mem_map.mpr ⟨i, List.mem_range.mpr hi, rfl⟩
      have key : ∀ k ∈ (DataW.agg [D0 i, D1 i]).weights Tryz.prog 80, k ≤ reachBytes := by
        intro k hk
        refine hw k ?_
        unfold DataW.weights
        rw [Tryz.underlying50]
        simp only [List.mem_cons, List.mem_append]
        exact .inr (.inl (weight_in hin hk))
      unfold DataW.weights at key
      rw [Tryz.underlying80] at key
      rw [d0, d1] at key
      simp only [DataW.weightsEach, DataW.weights, List.map_cons, List.map_nil, List.mem_append, List.mem_cons, List.not_mem_nil, or_false] at key
      have k0 := key _ (.inl rfl)
      have k1 := key _ (.inr rfl)
      unfold reachBytes at k0 k1
      omega
    refine ⟨(List.range len).map fun i => ((q i).1.data.toList, (q i).2.data.toList), ⟨some a, m, by rw [hlen], fun j l hj => ?_⟩, ?_, ?_⟩
    · have hjl : j < len := by have := (List.getElem?_eq_some_iff.mp hj).1; omega
      have hj' : ((q j).1.data.toList, (q j).2.data.toList) = l := by
        rw [List.getElem?_map, List.getElem?_range hjl] at hj
        exact Option.some.inj hj
      obtain ⟨c0, c1, _, _⟩ := hall j (by omega)
      obtain ⟨v0, v1, _, _⟩ := hq j hjl
      obtain ⟨z0, _, _, _⟩ := hall 0 (by omega)
      obtain ⟨b, off, spot⟩ := a
      have hspot : spot = none := by simpa [Addr.add] using World.cell?_spot z0
      subst hspot
      have hlt : b < w.heap.size := by have := World.block_lt_of_cell? w _ z0; simpa [Addr.add] using this
      rw [v0, Go.WideShapes.add_plain] at c0
      rw [v1, Go.WideShapes.add_plain, ← Nat.add_assoc] at c1
      subst hj'
      exact ⟨b, off, rfl, hlt, by rw [strB_of]; exact c0, by rw [strB_of]; exact c1⟩
    · rw [hlen]; omega
    · intro x hx
      obtain ⟨i, hi, rfl⟩ := List.mem_map.mp hx
      exact hwt i (List.mem_range.mp hi)

section
variable {H : Type} {enc : TypeId × Value → H} {P : Program} {w : World} {base : Nat} {spare : Nat → Bool} {held : Bool}
theorem trod_struct3 {t : TypeId} {f0 f1 f2 : Field} {fuel : Nat} {cs : List Value} {x : DataW H × List MemPlace} (ht : P.underlying t = some (.struct #[f0, f1, f2])) (h : DataW.trod enc P w base spare held fuel t cs = some x) :
    ∃ y0 y1 y2 n, x = (.agg [y0.1, y1.1, y2.1], y0.2 ++ (y1.2 ++ y2.2)) ∧ cs.length = P.cellsOf t ∧ DataW.trod enc P w base spare held n f0.type ((cs.drop f0.offset).take (P.cellsOf f0.type)) = some y0 ∧
      DataW.trod enc P w base spare held n f1.type ((cs.drop f1.offset).take (P.cellsOf f1.type)) = some y1 ∧ DataW.trod enc P w base spare held n f2.type ((cs.drop f2.offset).take (P.cellsOf f2.type)) = some y2 := by
  obtain ⟨xs, n, _, rfl, hl, hlen, hf⟩ := DataW.trod_struct ht h
  match xs, hlen with
  | [y0, y1, y2], _ => exact ⟨y0, y1, y2, n, by simp, hl, by simpa using hf 0 f0 rfl, by simpa using hf 1 f1 rfl, by simpa using hf 2 f2 rfl⟩
end
section
variable {H : Type} {enc : TypeId × Value → H} {P : Program} {w : World} {base : Nat} {spare : Nat → Bool} {held : Bool}
theorem trod_struct2 {t : TypeId} {f0 f1 : Field} {fuel : Nat} {cs : List Value} {x : DataW H × List MemPlace} (ht : P.underlying t = some (.struct #[f0, f1])) (h : DataW.trod enc P w base spare held fuel t cs = some x) :
    ∃ y0 y1 n, x = (.agg [y0.1, y1.1], y0.2 ++ y1.2) ∧ cs.length = P.cellsOf t ∧ DataW.trod enc P w base spare held n f0.type ((cs.drop f0.offset).take (P.cellsOf f0.type)) = some y0 ∧
      DataW.trod enc P w base spare held n f1.type ((cs.drop f1.offset).take (P.cellsOf f1.type)) = some y1 := by
  obtain ⟨xs, n, _, rfl, hl, hlen, hf⟩ := DataW.trod_struct ht h
  match xs, hlen with
  | [y0, y1], _ => exact ⟨y0, y1, n, by simp, hl, by simpa using hf 0 f0 rfl, by simpa using hf 1 f1 rfl⟩
end
section
variable {H : Type} {enc : TypeId × Value → H} {P : Program} {w : World} {base : Nat} {spare : Nat → Bool} {held : Bool}
theorem trod_struct5 {t : TypeId} {f0 f1 f2 f3 f4 : Field} {fuel : Nat} {cs : List Value} {x : DataW H × List MemPlace} (ht : P.underlying t = some (.struct #[f0, f1, f2, f3, f4])) (h : DataW.trod enc P w base spare held fuel t cs = some x) :
    ∃ y0 y1 y2 y3 y4 n, x = (.agg [y0.1, y1.1, y2.1, y3.1, y4.1], y0.2 ++ (y1.2 ++ (y2.2 ++ (y3.2 ++ y4.2)))) ∧ DataW.trod enc P w base spare held n f0.type ((cs.drop f0.offset).take (P.cellsOf f0.type)) = some y0 ∧
      DataW.trod enc P w base spare held n f1.type ((cs.drop f1.offset).take (P.cellsOf f1.type)) = some y1 ∧ DataW.trod enc P w base spare held n f2.type ((cs.drop f2.offset).take (P.cellsOf f2.type)) = some y2 ∧
      DataW.trod enc P w base spare held n f3.type ((cs.drop f3.offset).take (P.cellsOf f3.type)) = some y3 ∧ DataW.trod enc P w base spare held n f4.type ((cs.drop f4.offset).take (P.cellsOf f4.type)) = some y4 := by
  obtain ⟨xs, n, _, rfl, hl, hlen, hf⟩ := DataW.trod_struct ht h
  match xs, hlen with
  | [y0, y1, y2, y3, y4], _ => exact ⟨y0, y1, y2, y3, y4, n, by simp, by simpa using hf 0 f0 rfl, by simpa using hf 1 f1 rfl, by simpa using hf 2 f2 rfl, by simpa using hf 3 f3 rfl, by simpa using hf 4 f4 rfl⟩
end
theorem cellsStr : Tryz.prog.cellsOf 9 = 1 := by kernel_rfl
theorem cellsBool : Tryz.prog.cellsOf 4 = 1 := by kernel_rfl
set_option maxRecDepth 100000 in
theorem open_tag {H : Type} {enc : TypeId × Value → H} {w : World} {v : Value} {d : DataW H} {p : List MemPlace} {base : Nat} (hv : Value.okWide Tryz.prog w .any base 23 v)
    (h : DataW.Trod enc Tryz.prog w 0 (fun _ => true) true 23 v d p) (hw : ∀ n ∈ d.weights Tryz.prog 23, n ≤ reachBytes) : ∃ r : Tg, v = tgV r ∧ r.2.length ≤ 140737488355328 := by
  obtain ⟨cs, rfl, hsz⟩ : ∃ cs, v = .agg cs ∧ cs.size = 2 := by
    simp only [Value.okWide, Tryz.underlying23] at hv
    obtain ⟨cs, h1, h2, _⟩ := hv
    exact ⟨cs, h1, h2.trans (by kernel_rfl)⟩
  obtain ⟨c0, c1, rfl⟩ : ∃ c0 c1, cs = #[c0, c1] := by
    obtain ⟨l⟩ := cs
    match l, hsz with
    | [a, b], _ => exact ⟨a, b, rfl⟩
    | [], hz => simp at hz
    | [_], hz => simp at hz
    | _ :: _ :: _ :: _, hz => simp at hz
  obtain ⟨fuel, hf⟩ := h
  have hf' : DataW.trod enc Tryz.prog w 0 (fun _ => true) true fuel 23 [c0, c1] = some (d, p) := by simpa [Value.cells] using hf
  obtain ⟨y0, y1, n, hx, _, g0, g1⟩ := trod_struct2 Tryz.underlying23 hf'
  simp only [cellsStr, cellsBool, List.drop_zero, List.drop_succ_cons, List.take_succ_cons, List.take_zero] at g0 g1
  obtain ⟨b0, e0, f0⟩ := DataW.trod_bool Tryz.underlying4 g0
  obtain ⟨s1, e1, f1, _⟩ := DataW.trod_string Tryz.underlying9 g1
  simp only [List.cons.injEq, and_true] at e0 e1
  simp only [Prod.mk.injEq] at hx
  rw [hx.1, f0, f1] at hw
  have key := hw
  unfold DataW.weights at key
  rw [Tryz.underlying23] at key
  simp only [DataW.weightsEach, DataW.weights, List.map_cons, List.map_nil, List.mem_append, List.mem_cons, List.not_mem_nil, or_false] at key
  have k1 : s1.data.toList.length ≤ reachBytes := by
    first
    | exact key _ (.inr rfl)
    | exact key _ rfl
    | (have := key s1.data.toList.length (by simp); exact this)
  unfold reachBytes at k1
  exact ⟨(b0, s1.data.toList), by rw [e0, e1]; show _ = Value.agg #[.bool b0, .string (strB s1.data.toList)]; rw [strB_of], by show s1.data.toList.length ≤ _; omega⟩
/-- A conditional request as a value, and what holds of it. -/
abbrev askV (q : List UInt8) (u : Value) (s : StV) : Value := .agg #[.string (strB q), u, .bool s.ex, .bool s.ht, .bool s.hm, .bool s.tag.1, .string (strB s.tag.2), .int .i64 s.md]
def AskOk (w : World) (q : List UInt8) (u : Value) (ps : List (List UInt8 × List UInt8)) : Prop :=
  q.length ≤ 140737488355328 ∧ ReadsQ w u ps ∧ ps.length ≤ maxLen ∧ (∀ x ∈ ps, x.1.length ≤ 140737488355328 ∧ x.2.length ≤ 140737488355328)
set_option maxRecDepth 100000 in
theorem open_ask {H : Type} {enc : TypeId × Value → H} {w : World} {v : Value} {d : DataW H} {p : List MemPlace} {base : Nat} (hv : Value.okWide Tryz.prog w .any base 54 v)
    (h : DataW.Trod enc Tryz.prog w 0 (fun _ => true) true 54 v d p) (hw : ∀ n ∈ d.weights Tryz.prog 54, n ≤ reachBytes) :
    ∃ (q : List UInt8) (u : Value) (ps : List (List UInt8 × List UInt8)) (s : StV), v = askV q u s ∧ AskOk w q u ps := by
  obtain ⟨cs, rfl, hsz⟩ : ∃ cs, v = .agg cs ∧ cs.size = 8 := by
    simp only [Value.okWide, Tryz.underlying54] at hv
    obtain ⟨cs, h1, h2, _⟩ := hv
    exact ⟨cs, h1, h2.trans (by kernel_rfl)⟩
  obtain ⟨c0, c1, c2, c3, c4, c5, c6, c7, rfl⟩ : ∃ c0 c1 c2 c3 c4 c5 c6 c7, cs = #[c0, c1, c2, c3, c4, c5, c6, c7] := by
    obtain ⟨l⟩ := cs
    match l, hsz with
    | [a, b, c, d, e, f, g, h], _ => exact ⟨a, b, c, d, e, f, g, h, rfl⟩
    | [], hz => simp at hz
    | [_], hz => simp at hz
    | [_, _], hz => simp at hz
    | [_, _, _], hz => simp at hz
    | [_, _, _, _], hz => simp at hz
    | [_, _, _, _, _], hz => simp at hz
    | [_, _, _, _, _, _], hz => simp at hz
    | [_, _, _, _, _, _, _], hz => simp at hz
    | _ :: _ :: _ :: _ :: _ :: _ :: _ :: _ :: _ :: _, hz => simp at hz
  obtain ⟨fuel, hf⟩ := h
  have hf' : DataW.trod enc Tryz.prog w 0 (fun _ => true) true fuel 54 [c0, c1, c2, c3, c4, c5, c6, c7] = some (d, p) := by simpa [Value.cells] using hf
  obtain ⟨y0, y1, y2, n, hx, _, g0, g1, g2⟩ := trod_struct3 Tryz.underlying54 hf'
  have hcb : Tryz.prog.cellsOf 50 = 1 := by kernel_rfl
  have hcs : Tryz.prog.cellsOf 52 = 6 := by kernel_rfl
  have hct : Tryz.prog.cellsOf 23 = 2 := by kernel_rfl
  have hci : Tryz.prog.cellsOf 3 = 1 := by kernel_rfl
  simp only [cellsStr, hcb, hcs, List.drop_zero, List.drop_succ_cons, List.take_succ_cons, List.take_zero] at g0 g1 g2
  obtain ⟨s0, e0, f0, _⟩ := DataW.trod_string Tryz.underlying9 g0
  simp only [List.cons.injEq, and_true] at e0
  obtain ⟨z0, z1, z2, z3, z4, n2, _, q0, q1, q2, q3, q4⟩ := trod_struct5 Tryz.underlying52 g2
  simp only [cellsBool, hct, hci, List.drop_zero, List.drop_succ_cons, List.take_succ_cons, List.take_zero] at q0 q1 q2 q3 q4
  obtain ⟨b0, d0, _⟩ := DataW.trod_bool Tryz.underlying4 q0
  obtain ⟨b1, d1, _⟩ := DataW.trod_bool Tryz.underlying4 q1
  obtain ⟨b2, d2, _⟩ := DataW.trod_bool Tryz.underlying4 q2
  obtain ⟨x0, x1, n3, _, _, t0, t1⟩ := trod_struct2 Tryz.underlying23 q3
  simp only [cellsBool, cellsStr, List.drop_zero, List.drop_succ_cons, List.take_succ_cons, List.take_zero] at t0 t1
  obtain ⟨b3, d3, _⟩ := DataW.trod_bool Tryz.underlying4 t0
  obtain ⟨s4, d4, _, _⟩ := DataW.trod_string Tryz.underlying9 t1
  obtain ⟨i5, d5, _, _⟩ := DataW.trod_int Tryz.underlying3 q4
  simp only [List.cons.injEq, and_true] at d0 d1 d2 d3 d4 d5
  simp only [Prod.mk.injEq] at hx
  rw [hx.1, f0] at hw
  have key := hw
  unfold DataW.weights at key
  rw [Tryz.underlying54] at key
  simp only [DataW.weightsEach, DataW.weights, List.map_cons, List.map_nil, List.mem_append, List.mem_cons, List.not_mem_nil, or_false] at key
  have k0 : s0.data.toList.length ≤ reachBytes := key _ (.inl rfl)
  have k1 : ∀ n ∈ y1.1.weights Tryz.prog 50, n ≤ reachBytes := fun n hn => key n (.inr (.inl hn))
  unfold reachBytes at k0
  obtain ⟨ps, r1, r2, r3⟩ := open_fields ⟨n, g1⟩ k1
  refine ⟨s0.data.toList, c1, ps, ⟨b0, b1, b2, (b3, s4.data.toList), i5⟩, ?_, by omega, r1, r2, r3⟩
  rw [e0, d0, d1, d2, d3, d4, d5]
  show _ = Value.agg #[.string (strB s0.data.toList), _, _, _, _, _, .string (strB s4.data.toList), _]
  rw [strB_of, strB_of]
end Go.Proofs.YtkpeaghbacoehaaGreatDoor

/- ValidatorPrecedence: for every request and texts the statement's function returns true: the walk. -/
namespace Go.Proofs.YtkpeaghbacoehaaGreatDoor
open Go.RowKit

abbrev askC (q : List UInt8) (u : Value) (s : StV) : Array Value := #[.string (strB q), u, .bool s.ex, .bool s.ht, .bool s.hm, .bool s.tag.1, .string (strB s.tag.2), .int .i64 s.md]
/-- A block of a request's eight cells, and what else the two calls read. -/
structure AskR (N : Nat) (q : List UInt8) (u : Value) (ps : Flds) (s : StV) (w w' : World) : Prop where
  c0 : w'.cell? ⟨N, 0, none⟩ = some (.string (strB q))
  c1 : w'.cell? ⟨N, 1, none⟩ = some u
  c2 : w'.cell? ⟨N, 2, none⟩ = some (.bool s.ex)
  c3 : w'.cell? ⟨N, 3, none⟩ = some (.bool s.ht)
  c4 : w'.cell? ⟨N, 4, none⟩ = some (.bool s.hm)
  c5 : w'.cell? ⟨N, 5, none⟩ = some (.bool s.tag.1)
  c6 : w'.cell? ⟨N, 6, none⟩ = some (.string (strB s.tag.2))
  c7 : w'.cell? ⟨N, 7, none⟩ = some (.int .i64 s.md)
  lt : N < w'.heap.size
  e : EnvY w'
  r : ReadsQ w' u ps
  b : Below w.heap.size w w'
theorem AskR.below {N : Nat} {q : List UInt8} {u : Value} {ps : Flds} {s : StV} {w w1 w2 : World} (h : AskR N q u ps s w w1) (hb : Below w1.heap.size w1 w2) : AskR N q u ps s w w2 :=
  ⟨(hb.cell (p := ⟨N, 0, none⟩) h.lt).trans h.c0, (hb.cell (p := ⟨N, 1, none⟩) h.lt).trans h.c1, (hb.cell (p := ⟨N, 2, none⟩) h.lt).trans h.c2, (hb.cell (p := ⟨N, 3, none⟩) h.lt).trans h.c3, (hb.cell (p := ⟨N, 4, none⟩) h.lt).trans h.c4, (hb.cell (p := ⟨N, 5, none⟩) h.lt).trans h.c5, (hb.cell (p := ⟨N, 6, none⟩) h.lt).trans h.c6, (hb.cell (p := ⟨N, 7, none⟩) h.lt).trans h.c7, Nat.lt_of_lt_of_le h.lt hb.size, h.e.below hb, h.r.below hb, h.b.trans (hb.mono h.b.size)⟩
theorem askR_new {q : List UInt8} {u : Value} {ps : Flds} (s : StV) (w : World) (T : TypeId) (hE : EnvY w) (hr : ReadsQ w u ps) : AskR w.heap.size q u ps s w (w.alloc (.cells (askC q u s) T)) :=
  ⟨by rw [World.cell?_alloc_at _ _ _ _ rfl]; rfl, by rw [World.cell?_alloc_at _ _ _ _ rfl]; rfl, by rw [World.cell?_alloc_at _ _ _ _ rfl]; rfl, by rw [World.cell?_alloc_at _ _ _ _ rfl]; rfl, by rw [World.cell?_alloc_at _ _ _ _ rfl]; rfl, by rw [World.cell?_alloc_at _ _ _ _ rfl]; rfl, by rw [World.cell?_alloc_at _ _ _ _ rfl]; rfl, by rw [World.cell?_alloc_at _ _ _ _ rfl]; rfl, by simp, hE.below (below_new _ _), hr.below (below_new _ _), below_new _ _⟩
theorem askR_all {N : Nat} {q : List UInt8} {u : Value} {ps : Flds} {s : StV} {w w' : World} (h : AskR N q u ps s w w') : w'.cell? ⟨N, 0, none⟩ = some (.string (strB q)) ∧ w'.cell? ⟨N, 1, none⟩ = some u ∧ w'.cell? ⟨N, 2, none⟩ = some (.bool s.ex) ∧ w'.cell? ⟨N, 3, none⟩ = some (.bool s.ht) ∧ w'.cell? ⟨N, 4, none⟩ = some (.bool s.hm) ∧ w'.cell? ⟨N, 5, none⟩ = some (.bool s.tag.1) ∧ w'.cell? ⟨N, 6, none⟩ = some (.string (strB s.tag.2)) ∧ w'.cell? ⟨N, 7, none⟩ = some (.int .i64 s.md) ∧ AskR N q u ps s w w' :=
  ⟨h.c0, h.c1, h.c2, h.c3, h.c4, h.c5, h.c6, h.c7, h⟩
theorem AskR.other {N M : Nat} {q : List UInt8} {u : Value} {ps : Flds} {s : StV} {w w1 w2 : World} (h : AskR N q u ps s w w1) (hM : w1.heap.size ≤ M) (hb : Below w1.heap.size w1 w2) (a b c d e f : Value) :
    AskR N q u ps s w ((((((w2.setCell ⟨M, 0, none⟩ a).setCell ⟨M, 1, none⟩ b).setCell ⟨M, 2, none⟩ c).setCell ⟨M, 3, none⟩ d).setCell ⟨M, 4, none⟩ e).setCell ⟨M, 5, none⟩ f) := h.below (below_six hb hM _ _ _ _ _ _)
theorem ownsP_six {T : TypeId} {B M : Nat} {w' : World} {v : Value} {ps : Flds} (h : OwnsP T B w' v ps) (hM : M < B) (a b c d e f : Value) :
    OwnsP T B ((((((w'.setCell ⟨M, 0, none⟩ a).setCell ⟨M, 1, none⟩ b).setCell ⟨M, 2, none⟩ c).setCell ⟨M, 3, none⟩ d).setCell ⟨M, 4, none⟩ e).setCell ⟨M, 5, none⟩ f) v ps := by
  have hn : ∀ k, v.ownBlock ≠ some (⟨M, k, none⟩ : Addr).block := fun k hq => by have := (World.ownsRow.lt h _ hq).1; simp at this; omega
  exact ownsRow_setCell_other (ownsRow_setCell_other (ownsRow_setCell_other (ownsRow_setCell_other (ownsRow_setCell_other (ownsRow_setCell_other h (hn 0) a) (hn 1) b) (hn 2) c) (hn 3) d) (hn 4) e) (hn 5) f
/-- What stands behind the two calls. -/
structure TwoR (N M : Nat) (q : List UInt8) (u fv : Value) (ps : Flds) (s : StV) (w w' : World) : Prop where
  a : AskR N q u ps s w w'
  f : ReadsQ w' fv ps
  s : StB M w' s
theorem set_memY {ps : Flds} {n v : List UInt8} : ∀ p ∈ setL ps n v, p ∈ ps ∨ p = (lowS n, v) := by
  induction ps with
  | nil => intro p hp; exact .inr (by simpa [setL] using hp)
  | cons r rs ih =>
    intro p hp
    rw [setL] at hp
    split at hp
    · rcases List.mem_cons.mp hp with rfl | hp
      · exact .inr rfl
      · exact .inl (List.mem_cons_of_mem _ (List.mem_filter.mp hp).1)
    · rcases List.mem_cons.mp hp with rfl | hp
      · exact .inl (by simp)
      · rcases ih p hp with h | h
        · exact .inl (List.mem_cons_of_mem _ h)
        · exact .inr h
theorem set_lenY (ps : Flds) (n v : List UInt8) : (setL ps n v).length ≤ ps.length + 1 := by
  induction ps with
  | nil => simp [setL]
  | cons r rs ih =>
    rw [setL]
    split
    · have := rem_len rs n; simp only [List.length_cons]; omega
    · simp only [List.length_cons]; omega
theorem lowS_lenY (n : List UInt8) : (lowS n).length = n.length := by unfold lowS; simp
theorem set_each {ps : Flds} {n v : List UInt8} (hb : ∀ p ∈ ps, p.1.length + p.2.length ≤ 3000) (hn : n.length ≤ 100) (hv : v.length ≤ 500) : ∀ p ∈ setL ps n v, p.1.length + p.2.length ≤ 3000 := by
  intro p hp
  rcases set_memY p hp with h | h
  · exact hb p h
  · subst h
    show (lowS n).length + v.length ≤ 3000
    rw [lowS_lenY]; omega
theorem val_same {ps qs : Flds} {n : List UInt8} (h : allL ps n = allL qs n) : valF ps n = valF qs n ∧ fnd ps n = fnd qs n := by unfold valF fnd; rw [h]; exact ⟨rfl, rfl⟩
theorem eval_match {q : List UInt8} {ps : Flds} {s : StV} {x y : List UInt8} {du du' dm dm' : Option Nat} (h1 : DateIs (valF (setL ps nIM x) nIS) dm) (h2 : DateIs (valF (setL (setL ps nIM x) nIU y) nIS) dm') :
    evalL q (setL ps nIM x) s du dm = evalL q (setL (setL ps nIM x) nIU y) s du' dm' := by
  have e1 := val_same (all_set_other (ps := setL ps nIM x) (n := nIU) (m := nIM) (v := y) (by decide))
  have e2 := val_same (all_set_other (ps := setL ps nIM x) (n := nIU) (m := nIN) (v := y) (by decide))
  have e3 := val_same (all_set_other (ps := setL ps nIM x) (n := nIU) (m := nIS) (v := y) (by decide))
  have hf : fnd (setL ps nIM x) nIM = true := by unfold fnd; rw [all_set_same rfl]; rfl
  rw [e3.1] at h2
  have hd := h1.uniq h2
  subst hd
  unfold evalL otherL
  rw [e1.1, e1.2, e2.1, e2.2, hf, if_pos rfl, if_pos rfl]
theorem eval_none {q : List UInt8} {ps : Flds} {s : StV} {x y : List UInt8} {du du' dm dm' : Option Nat} (h1 : DateIs (valF (setL ps nIN x) nIU) du) (h2 : DateIs (valF (setL (setL ps nIN x) nIS y) nIU) du') :
    evalL q (setL ps nIN x) s du dm = evalL q (setL (setL ps nIN x) nIS y) s du' dm' := by
  have e1 := val_same (all_set_other (ps := setL ps nIN x) (n := nIS) (m := nIM) (v := y) (by decide))
  have e2 := val_same (all_set_other (ps := setL ps nIN x) (n := nIS) (m := nIN) (v := y) (by decide))
  have e3 := val_same (all_set_other (ps := setL ps nIN x) (n := nIS) (m := nIU) (v := y) (by decide))
  have hf : fnd (setL ps nIN x) nIN = true := by unfold fnd; rw [all_set_same rfl]; rfl
  rw [e3.1] at h2
  have hd := h1.uniq h2
  subst hd
  unfold evalL otherL
  rw [e1.1, e1.2, e2.1, e2.2, hf, if_pos rfl, if_pos rfl]
theorem setY_any (fv : Value) (ps : Flds) (n x : ByteArray) (w : World) (hr : ReadsQ w fv ps) (hn : n.size ≤ 100) (hx : x.size ≤ 500) (hl : ps.length ≤ 30) (hb : ∀ p ∈ ps, p.1.length + p.2.length ≤ 3000) :
    Calls Tryz.prog 30 #[fv, .string n, .string x] w fun e w' => ∃ v, e = .returned v ∧ ReadsQ w' v (setL ps n.data.toList x.data.toList) ∧ Below w.heap.size w w' := by
  have := set_any fv ps n.data.toList x.data.toList w hr (by simp; omega) (by simp; omega) (by omega) (fun p hp => by have := hb p hp; omega)
  rw [strB_of, strB_of] at this
  refine this.mono ?_
  rintro e w' ⟨v, rfl, hO, hB⟩
  exact ⟨v, rfl, hO.q, hB⟩
/-- What the last statement reads. -/
structure PreS (N M : Nat) (q : List UInt8) (u va vb vc vd : Value) (ps pa pb pc pd : Flds) (s : StV) (w w' : World) : Prop where
  a : AskR N q u ps s w w'
  s : StB M w' s
  ra : ReadsQ w' va pa
  rb : ReadsQ w' vb pb
  rc : ReadsQ w' vc pc
  rd : ReadsQ w' vd pd
theorem PreS.below {N M : Nat} {q : List UInt8} {u va vb vc vd : Value} {ps pa pb pc pd : Flds} {s : StV} {w w1 w2 : World} (h : PreS N M q u va vb vc vd ps pa pb pc pd s w w1) (hb : Below w1.heap.size w1 w2) : PreS N M q u va vb vc vd ps pa pb pc pd s w w2 :=
  ⟨h.a.below hb, h.s.below hb, h.ra.below hb, h.rb.below hb, h.rc.below hb, h.rd.below hb⟩
theorem pre_all {N M : Nat} {q : List UInt8} {u va vb vc vd : Value} {ps pa pb pc pd : Flds} {s : StV} {w w' : World} (h : PreS N M q u va vb vc vd ps pa pb pc pd s w w') : w'.cell? ⟨N, 0, none⟩ = some (.string (strB q)) ∧ w'.cell? ⟨M, 0, none⟩ = some (.bool s.ex) ∧ w'.cell? ⟨M, 1, none⟩ = some (.bool s.ht) ∧ w'.cell? ⟨M, 2, none⟩ = some (.bool s.hm) ∧ w'.cell? ⟨M, 3, none⟩ = some (.bool s.tag.1) ∧ w'.cell? ⟨M, 4, none⟩ = some (.string (strB s.tag.2)) ∧ w'.cell? ⟨M, 5, none⟩ = some (.int .i64 s.md) ∧ PreS N M q u va vb vc vd ps pa pb pc pd s w w' :=
  ⟨h.a.c0, h.s.c0, h.s.c1, h.s.c2, h.s.c3, h.s.c4, h.s.c5, h⟩
theorem pre_eval {N M : Nat} {q : List UInt8} {u va vb vc vd : Value} {ps pa pb pc pd : Flds} {s : StV} {w w' : World} {fv : Value} {pf : Flds} {du dm : Option Nat} {x : Int} (hf : Hid (FitY pf)) (hdu : Hid (DateIs (valF pf nIU) du)) (hdm : Hid (DateIs (valF pf nIS) dm)) (hx : Hid (evalL q pf s du dm = x)) (h : PreS N M q u va vb vc vd ps pa pb pc pd s w w') (hr : ReadsQ w' fv pf) :
    Calls Tryz.prog 25 #[.string (strB q), fv, stV s] w' fun e w2 => e = .returned (.int .i64 x) ∧ PreS N M q u va vb vc vd ps pa pb pc pd s w w2 := by
  refine (evaluate_any q fv pf s du dm w' hr hf.out hdu.out hdm.out h.a.e).mono ?_
  rintro e w2 ⟨rfl, hB⟩
  exact ⟨by rw [hx.out], h.below hB⟩
set_option maxHeartbeats 16000000 in
set_option maxRecDepth 100000 in
theorem precedence_walk (q : List UInt8) (u : Value) (ps : Flds) (s : StV) (x y : ByteArray) (w : World) (hE : EnvY w) (hA : AskOk w q u ps) (hs : x.size ≤ 140737488355328) (hy : y.size ≤ 140737488355328) :
    Calls Tryz.prog 8 #[askV q u s, .string x, .string y] w fun e w' => e = .returned (.bool true) ∧ Below w.heap.size w w' := by
  obtain ⟨hql, hr, hpl, hpb⟩ := hA
  have HR0 := Lib.hid (askR_new (ps := ps) (q := q) (u := u) s w 54 hE hr)
  have HF := Lib.hid (fun (w : World) (hr : ReadsQ w u ps) => few_any u ps w hr (by unfold maxLen at hpl; omega) hpb)
  clear hE hr hpb hql
  obtain ⟨fw, hfw⟩ : ∃ x, fewB ps = x := ⟨_, rfl⟩
  rw [hfw] at HF
  cases fw with
  | false =>
    clear hfw
    go_enter Tryz.func8, Tryz.ntmps8
    go_wp2_with fail
    refine (awakeY_any _ HR0.out.e).mono ?_
    rintro e w1 ⟨rfl, hB1⟩
    have HR1 := Lib.hid (HR0.out.below hB1)
    have c1 := HR1.out.c1
    clear hB1
    go_wp2_with fail
    refine (HF.out _ HR1.out.r).mono ?_
    rintro e w2 ⟨rfl, hB2⟩
    have HR2 := Lib.hid (HR1.out.below hB2)
    clear hB2
    go_wp2_with fail
    refine (awakeY_any _ HR2.out.e).mono ?_
    rintro e w3 ⟨rfl, hB3⟩
    go_wp2_with fail
    go_ret
    exact ⟨rfl, (HR2.out.below hB3).b⟩
  | true =>
    by_cases hxy : x.size + y.size ≤ 500
    · obtain ⟨hl20, hb3⟩ := few_yes hfw
      have HFl := Lib.hid (fun (w : World) (hr : ReadsQ w u ps) => fields_any u ps w hr (by omega) (fun p hp => by have := hb3 p hp; omega))
      have HB3 := Lib.hid hb3
      clear hfw hb3
      go_enter Tryz.func8, Tryz.ntmps8
      go_wp2_with fail
      refine (awakeY_any _ HR0.out.e).mono ?_
      rintro e w1 ⟨rfl, hB1⟩
      have HR1 := Lib.hid (HR0.out.below hB1)
      have c1 := HR1.out.c1
      clear hB1
      go_wp2_with fail
      refine (HF.out _ HR1.out.r).mono ?_
      rintro e w2 ⟨rfl, hB2⟩
      have HR2 := Lib.hid (HR1.out.below hB2)
      have HRd := Lib.hid (HR2.out.below (Below.refl _ _).drew)
      clear hB2 c1
      go_wp2_with fail
      go_upto_region 3 with fail
      go_cut [7, 8] (fun u7 u8 wx => ∃ fv M, u7 = fv ∧ u8 = .pointer (some ⟨M, 0, none⟩) ∧ TwoR w.heap.size M q u fv ps s w wx)
      case first =>
        refine wp_region_held_drew (S := (fun w' => w'.cell? ⟨w.heap.size, 0, none⟩ = some (.string (strB q)) ∧ w'.cell? ⟨w.heap.size, 1, none⟩ = some u ∧ w'.cell? ⟨w.heap.size, 2, none⟩ = some (.bool s.ex) ∧ w'.cell? ⟨w.heap.size, 3, none⟩ = some (.bool s.ht) ∧ w'.cell? ⟨w.heap.size, 4, none⟩ = some (.bool s.hm) ∧ w'.cell? ⟨w.heap.size, 5, none⟩ = some (.bool s.tag.1) ∧ w'.cell? ⟨w.heap.size, 6, none⟩ = some (.string (strB s.tag.2)) ∧ w'.cell? ⟨w.heap.size, 7, none⟩ = some (.int .i64 s.md) ∧ AskR w.heap.size q u ps s w w')) (by kernel_rfl) (askR_all HRd.out) (fun hHeld => ?_)
        refine wpAnyH_take (i := 0) (oi := { dst := some 30, op := _, type := _, pos := _, after := _, guard := _ }) (v := ?_) rfl (by kernel_rfl) (by kernel_rfl) (by kernel_rfl) (fun _ _ _ h => h) (Or.inl ⟨by rfl, ?_⟩) (by assumption) ?_
        rotate_left
        focus (intro w hSw; (try dsimp only at hSw); first | (go_simp; done) | (go_simp; with_reducible rfl))
        (try simp only [Act.put, List.setIfInBounds_toArray, List.set_cons_zero, List.set_cons_succ])
        refine wpAnyH_take (i := 1) (oi := { dst := some 31, op := _, type := _, pos := _, after := _, guard := _ }) (v := ?_) rfl (by kernel_rfl) (by kernel_rfl) (by kernel_rfl) (fun _ _ _ h => h) (Or.inl ⟨by rfl, ?_⟩) (by assumption) ?_
        rotate_left
        focus (intro w hSw; (try dsimp only at hSw); first | (go_simp; done) | (go_simp; with_reducible rfl))
        (try simp only [Act.put, List.setIfInBounds_toArray, List.set_cons_zero, List.set_cons_succ])
        refine wpAnyH_take (i := 3) (oi := { dst := some 33, op := _, type := _, pos := _, after := _, guard := _ }) (v := ?_) rfl (by kernel_rfl) (by kernel_rfl) (by kernel_rfl) (fun _ _ _ h => h) (Or.inl ⟨by rfl, ?_⟩) (by assumption) ?_
        rotate_left
        focus (intro w hSw; (try dsimp only at hSw); first | (go_simp; done) | (go_simp; with_reducible rfl))
        (try simp only [Act.put, List.setIfInBounds_toArray, List.set_cons_zero, List.set_cons_succ])
        refine wpAnyH_take (i := 4) (oi := { dst := some 34, op := _, type := _, pos := _, after := _, guard := _ }) (v := ?_) rfl (by kernel_rfl) (by kernel_rfl) (by kernel_rfl) (fun _ _ _ h => h) (Or.inl ⟨by rfl, ?_⟩) (by assumption) ?_
        rotate_left
        focus (intro w hSw; (try dsimp only at hSw); first | (go_simp; done) | (go_simp; with_reducible rfl))
        (try simp only [Act.put, List.setIfInBounds_toArray, List.set_cons_zero, List.set_cons_succ])
        refine wpAnyH_ready (rs := [2, 6]) (by kernel_rfl) (by simp) ?_
        refine AllReadyH.cons (o := { dst := some 32, op := _, type := _, pos := _, after := _, guard := _ }) rfl (fun K hK => ?_) (AllReadyH.cons (o := { dst := some 8, op := _, type := _, pos := _, after := _, guard := _ }) rfl (fun K hK => ?_) AllReadyH.nil)
        · go_simp
          go_at_call 24
          refine (HFl.out _ HRd.out.r).mono ?_
          rintro e wa ⟨fv, rfl, hO, hBa⟩
          have hRa := HRd.out.below hBa
          refine hK.out _ _ (askR_all hRa) (fun hHa => ?_)
          clear hK K
          (try simp only [Act.put, List.setIfInBounds_toArray, List.set_cons_zero, List.set_cons_succ])
          refine wpAnyH_ready (rs := [5, 6]) (by kernel_rfl) (by simp) ?_
          refine AllReadyH.cons (o := { dst := some 35, op := _, type := _, pos := _, after := _, guard := _ }) rfl (fun K hK => ?_) (AllReadyH.cons (o := { dst := some 8, op := _, type := _, pos := _, after := _, guard := _ }) rfl (fun K hK => ?_) AllReadyH.nil)
          · go_simp
            go_at_call 26
            refine (state_any s _).mono ?_
            rintro e wb ⟨rfl, hBb⟩
            have hRb := hRa.below hBb
            refine hK.out _ _ (askR_all hRb) (fun hHb => ?_)
            clear hK K
            (try simp only [Act.put, List.setIfInBounds_toArray, List.set_cons_zero, List.set_cons_succ])
            refine wpAnyH_ready (rs := [6]) (by kernel_rfl) (by simp) ?_
            refine AllReadyH.cons (o := { dst := some 8, op := _, type := _, pos := _, after := _, guard := _ }) rfl (fun K hK => ?_) AllReadyH.nil
            go_simp
            have hRm := hRb.below (below_new wb (.cells (stC zS) 61))
            have hM := stB_new wb zS 61
            refine hK.out _ _ (askR_all hRm) (fun hHm => ?_)
            clear hK K
            (try simp only [Act.put, List.setIfInBounds_toArray, List.set_cons_zero, List.set_cons_succ])
            refine wpAnyH_take (i := 7) (oi := { dst := some 7, op := _, type := _, pos := _, after := _, guard := _ }) (v := ?_) rfl (by kernel_rfl) (by kernel_rfl) (by kernel_rfl) (fun _ _ _ h => h) (Or.inl ⟨by rfl, ?_⟩) (by assumption) ?_
            rotate_left
            focus (intro w hSw; (try dsimp only at hSw); first | (go_simp; done) | (go_simp; with_reducible rfl))
            (try simp only [Act.put, List.setIfInBounds_toArray, List.set_cons_zero, List.set_cons_succ])
            refine wpAnyH_ready (rs := [8]) (by kernel_rfl) (by simp) ?_
            refine AllReadyH.cons (o := { dst := none, op := _, type := _, pos := _, after := _, guard := _ }) rfl (fun K hK => ?_) AllReadyH.nil
            go_simp
            have hRz := hRb.below (below_new wb (.cells (stC s) 61))
            refine hK.out _ _ (askR_all hRz) (fun hHz => ?_)
            clear hK K
            (try simp only [Act.put, List.setIfInBounds_toArray, List.set_cons_zero, List.set_cons_succ])
            refine wpAnyH_done (by kernel_rfl) ?_ _
            (try go_wp2_with fail)
            go_meet
            exact ⟨fv, wb.heap.size, rfl, rfl, ⟨hRz, (hO.q.below hBb).below (below_new _ _), stB_new wb s 61⟩⟩
          · go_simp
            have hRm := hRa.below (below_new wa (.cells (stC zS) 61))
            have hM := stB_new wa zS 61
            refine hK.out _ _ (askR_all hRm) (fun hHm => ?_)
            clear hK K
            (try simp only [Act.put, List.setIfInBounds_toArray, List.set_cons_zero, List.set_cons_succ])
            refine wpAnyH_ready (rs := [5]) (by kernel_rfl) (by simp) ?_
            refine AllReadyH.cons (o := { dst := some 35, op := _, type := _, pos := _, after := _, guard := _ }) rfl (fun K hK => ?_) AllReadyH.nil
            go_simp
            go_at_call 26
            refine (state_any s _).mono ?_
            rintro e wb ⟨rfl, hBb⟩
            have hRb := hRm.below hBb
            refine hK.out _ _ (askR_all hRb) (fun hHb => ?_)
            clear hK K
            (try simp only [Act.put, List.setIfInBounds_toArray, List.set_cons_zero, List.set_cons_succ])
            have hMM := hM.below hBb
            have hSM := hMM
            obtain ⟨z0, z1, z2, z3, z4, z5, zf, zl⟩ := hMM
            have zf0 := zf 0
            have zf1 := zf 1
            have zf2 := zf 2
            have zf3 := zf 3
            have zf4 := zf 4
            have zf5 := zf 5
            clear zf
            refine wpAnyH_take (i := 7) (oi := { dst := some 7, op := _, type := _, pos := _, after := _, guard := _ }) (v := ?_) rfl (by kernel_rfl) (by kernel_rfl) (by kernel_rfl) (fun _ _ _ h => h) (Or.inl ⟨by rfl, ?_⟩) (by assumption) ?_
            rotate_left
            focus (intro w hSw; (try dsimp only at hSw); first | (go_simp; done) | (go_simp; with_reducible rfl))
            (try simp only [Act.put, List.setIfInBounds_toArray, List.set_cons_zero, List.set_cons_succ])
            refine wpAnyH_ready (rs := [8]) (by kernel_rfl) (by simp) ?_
            refine AllReadyH.cons (o := { dst := none, op := _, type := _, pos := _, after := _, guard := _ }) rfl (fun K hK => ?_) AllReadyH.nil
            go_simp
            have hbz : Below wa.heap.size wa wb := (below_new wa (.cells (stC zS) 61)).trans (hBb.mono (by simp))
            have hRz := hRa.other (Nat.le_refl _) hbz (.bool s.ex) (.bool s.ht) (.bool s.hm) (.bool s.tag.1) (.string (strB s.tag.2)) (.int .i64 s.md)
            refine hK.out _ _ (askR_all hRz) (fun hHz => ?_)
            clear hK K
            (try simp only [Act.put, List.setIfInBounds_toArray, List.set_cons_zero, List.set_cons_succ])
            refine wpAnyH_done (by kernel_rfl) ?_ _
            (try go_wp2_with fail)
            go_meet
            exact ⟨fv, wa.heap.size, rfl, rfl, ⟨hRz, hO.q.below (below_six hbz (Nat.le_refl _) (.bool s.ex) (.bool s.ht) (.bool s.hm) (.bool s.tag.1) (.string (strB s.tag.2)) (.int .i64 s.md)), hSM.set s⟩⟩
        · go_simp
          have hRm := HRd.out.below (below_new w2.drew (.cells (stC zS) 61))
          have hM := stB_new w2.drew zS 61
          refine hK.out _ _ (askR_all hRm) (fun hHm => ?_)
          clear hK K
          (try simp only [Act.put, List.setIfInBounds_toArray, List.set_cons_zero, List.set_cons_succ])
          refine wpAnyH_ready (rs := [2]) (by kernel_rfl) (by simp) ?_
          refine AllReadyH.cons (o := { dst := some 32, op := _, type := _, pos := _, after := _, guard := _ }) rfl (fun K hK => ?_) AllReadyH.nil
          go_simp
          go_at_call 24
          refine (HFl.out _ hRm.r).mono ?_
          rintro e wa ⟨fv, rfl, hO, hBa⟩
          have hRa := hRm.below hBa
          refine hK.out _ _ (askR_all hRa) (fun hHa => ?_)
          clear hK K
          (try simp only [Act.put, List.setIfInBounds_toArray, List.set_cons_zero, List.set_cons_succ])
          refine wpAnyH_ready (rs := [5]) (by kernel_rfl) (by simp) ?_
          refine AllReadyH.cons (o := { dst := some 35, op := _, type := _, pos := _, after := _, guard := _ }) rfl (fun K hK => ?_) AllReadyH.nil
          go_simp
          go_at_call 26
          refine (state_any s _).mono ?_
          rintro e wb ⟨rfl, hBb⟩
          have hRb := hRa.below hBb
          refine hK.out _ _ (askR_all hRb) (fun hHb => ?_)
          clear hK K
          (try simp only [Act.put, List.setIfInBounds_toArray, List.set_cons_zero, List.set_cons_succ])
          have hMM := (hM.below hBa).below hBb
          have hSM : StB w2.heap.size wb zS := hMM
          have hMM := hSM
          obtain ⟨z0, z1, z2, z3, z4, z5, zf, zl⟩ := hMM
          have zf0 := zf 0
          have zf1 := zf 1
          have zf2 := zf 2
          have zf3 := zf 3
          have zf4 := zf 4
          have zf5 := zf 5
          clear zf
          refine wpAnyH_take (i := 7) (oi := { dst := some 7, op := _, type := _, pos := _, after := _, guard := _ }) (v := ?_) rfl (by kernel_rfl) (by kernel_rfl) (by kernel_rfl) (fun _ _ _ h => h) (Or.inl ⟨by rfl, ?_⟩) (by assumption) ?_
          rotate_left
          focus (intro w hSw; (try dsimp only at hSw); first | (go_simp; done) | (go_simp; with_reducible rfl))
          (try simp only [Act.put, List.setIfInBounds_toArray, List.set_cons_zero, List.set_cons_succ])
          refine wpAnyH_ready (rs := [8]) (by kernel_rfl) (by simp) ?_
          refine AllReadyH.cons (o := { dst := none, op := _, type := _, pos := _, after := _, guard := _ }) rfl (fun K hK => ?_) AllReadyH.nil
          go_simp
          have hbz : Below w2.drew.heap.size w2.drew wb := ((below_new w2.drew (.cells (stC zS) 61)).trans (hBa.mono (by simp))).trans (hBb.mono (by have := hBa.size; simp at this ⊢; omega))
          have hRz := HRd.out.other (M := w2.heap.size) (Nat.le_refl _) hbz (.bool s.ex) (.bool s.ht) (.bool s.hm) (.bool s.tag.1) (.string (strB s.tag.2)) (.int .i64 s.md)
          refine hK.out _ _ (askR_all hRz) (fun hHz => ?_)
          clear hK K
          (try simp only [Act.put, List.setIfInBounds_toArray, List.set_cons_zero, List.set_cons_succ])
          refine wpAnyH_done (by kernel_rfl) ?_ _
          (try go_wp2_with fail)
          go_meet
          exact ⟨fv, w2.heap.size, rfl, rfl, ⟨hRz, (ownsP_six (M := w2.heap.size) (hO.below hBb) (by simp) (.bool s.ex) (.bool s.ht) (.bool s.hm) (.bool s.tag.1) (.string (strB s.tag.2)) (.int .i64 s.md)).q, hSM.set s⟩⟩
      case rest =>
        obtain ⟨fv, M, h7, rfl, hT⟩ := hcut
        have h7' := h7.symm
        subst h7'
        clear h7
        have HT := Lib.hid hT
        clear hT
        have hxl : x.data.toList.length ≤ 500 := by simp; omega
        have hyl : y.data.toList.length ≤ 500 := by simp; omega
        have HA1 := Lib.hid (set_lenY ps nIM x.data.toList)
        have HA2 := Lib.hid (set_lenY (setL ps nIM x.data.toList) nIU y.data.toList)
        have HC1 := Lib.hid (set_lenY ps nIN x.data.toList)
        have HC2 := Lib.hid (set_lenY (setL ps nIN x.data.toList) nIS y.data.toList)
        have HEa := Lib.hid (set_each (n := nIM) (v := x.data.toList) HB3.out (by decide) hxl)
        have HEb := Lib.hid (set_each (n := nIU) (v := y.data.toList) HEa.out (by decide) hyl)
        have HEc := Lib.hid (set_each (n := nIN) (v := x.data.toList) HB3.out (by decide) hxl)
        have HEd := Lib.hid (set_each (n := nIS) (v := y.data.toList) HEc.out (by decide) hyl)
        have HFa := Lib.hid (fit_of (by have := HA1.out; omega) HEa.out)
        have HFb := Lib.hid (fit_of (by have := HA1.out; have := HA2.out; omega) HEb.out)
        have HFc := Lib.hid (fit_of (by have := HC1.out; omega) HEc.out)
        have HFd := Lib.hid (fit_of (by have := HC1.out; have := HC2.out; omega) HEd.out)
        obtain ⟨ua, hua⟩ := date_ex (valF (setL ps nIM x.data.toList) nIU)
        obtain ⟨ma, hma⟩ := date_ex (valF (setL ps nIM x.data.toList) nIS)
        obtain ⟨ub, hub⟩ := date_ex (valF (setL (setL ps nIM x.data.toList) nIU y.data.toList) nIU)
        obtain ⟨mb, hmb⟩ := date_ex (valF (setL (setL ps nIM x.data.toList) nIU y.data.toList) nIS)
        obtain ⟨uc, huc⟩ := date_ex (valF (setL ps nIN x.data.toList) nIU)
        obtain ⟨mc, hmc⟩ := date_ex (valF (setL ps nIN x.data.toList) nIS)
        obtain ⟨ud, hud⟩ := date_ex (valF (setL (setL ps nIN x.data.toList) nIS y.data.toList) nIU)
        obtain ⟨md, hmd⟩ := date_ex (valF (setL (setL ps nIN x.data.toList) nIS y.data.toList) nIS)
        obtain ⟨r1, hr1⟩ : ∃ r, evalL q (setL ps nIM x.data.toList) s ua ma = r := ⟨_, rfl⟩
        obtain ⟨r2, hr2⟩ : ∃ r, evalL q (setL ps nIN x.data.toList) s uc mc = r := ⟨_, rfl⟩
        have H1 := Lib.hid hr1
        have H2 := Lib.hid ((eval_match (y := y.data.toList) (du' := ub) hma hmb).symm.trans hr1)
        have H3 := Lib.hid hr2
        have H4 := Lib.hid ((eval_none (y := y.data.toList) (dm' := md) huc hud).symm.trans hr2)
        have Dua := Lib.hid hua
        have Dma := Lib.hid hma
        have Dub := Lib.hid hub
        have Dmb := Lib.hid hmb
        have Duc := Lib.hid huc
        have Dmc := Lib.hid hmc
        have Dud := Lib.hid hud
        have Dmd := Lib.hid hmd
        clear hua hma hub hmb huc hmc hud hmd hr1 hr2
        have HS1 := Lib.hid (fun (w : World) (hr : ReadsQ w fv ps) => setY_any fv ps ⟨#[105, 102, 45, 109, 97, 116, 99, 104]⟩ x w hr (by decide) (by omega) (by omega) HB3.out)
        have HS3 := Lib.hid (fun (w : World) (hr : ReadsQ w fv ps) => setY_any fv ps ⟨#[105, 102, 45, 110, 111, 110, 101, 45, 109, 97, 116, 99, 104]⟩ x w hr (by decide) (by omega) (by omega) HB3.out)
        have HS2 := Lib.hid (fun (v : Value) (w : World) (hr : ReadsQ w v (setL ps nIM x.data.toList)) => setY_any v _ ⟨#[105, 102, 45, 117, 110, 109, 111, 100, 105, 102, 105, 101, 100, 45, 115, 105, 110, 99, 101]⟩ y w hr (by decide) (by omega) (by have := HA1.out; omega) HEa.out)
        have HS4 := Lib.hid (fun (v : Value) (w : World) (hr : ReadsQ w v (setL ps nIN x.data.toList)) => setY_any v _ ⟨#[105, 102, 45, 109, 111, 100, 105, 102, 105, 101, 100, 45, 115, 105, 110, 99, 101]⟩ y w hr (by decide) (by omega) (by have := HC1.out; omega) HEc.out)
        clear hxl hyl
        go_wp2_with fail
        refine (HS1.out _ HT.out.f).mono ?_
        rintro e w4 ⟨va, rfl, hra, hB4⟩
        have HA4 := Lib.hid (HT.out.a.below hB4)
        have HM4 := Lib.hid (HT.out.s.below hB4)
        have HF4 := Lib.hid (HT.out.f.below hB4)
        have Hra := Lib.hid (show ReadsQ w4 va (setL ps nIM x.data.toList) from hra)
        clear hra hB4
        go_wp2_with fail
        refine (HS2.out _ _ Hra.out).mono ?_
        rintro e w5 ⟨vb, rfl, hrb, hB5⟩
        have HA5 := Lib.hid (HA4.out.below hB5)
        have HM5 := Lib.hid (HM4.out.below hB5)
        have HF5 := Lib.hid (HF4.out.below hB5)
        have Hra5 := Lib.hid (Hra.out.below hB5)
        have Hrb5 := Lib.hid (show ReadsQ w5 vb (setL (setL ps nIM x.data.toList) nIU y.data.toList) from hrb)
        clear hrb hB5
        go_wp2_with fail
        refine (HS3.out _ HF5.out).mono ?_
        rintro e w6 ⟨vc, rfl, hrc, hB6⟩
        have HA6 := Lib.hid (HA5.out.below hB6)
        have HM6 := Lib.hid (HM5.out.below hB6)
        have Hra6 := Lib.hid (Hra5.out.below hB6)
        have Hrb6 := Lib.hid (Hrb5.out.below hB6)
        have Hrc6 := Lib.hid (show ReadsQ w6 vc (setL ps nIN x.data.toList) from hrc)
        clear hrc hB6
        go_wp2_with fail
        refine (HS4.out _ _ Hrc6.out).mono ?_
        rintro e w7 ⟨vd, rfl, hrd, hB7⟩
        have HP := Lib.hid ((show PreS w.heap.size M q u va vb vc vd ps (setL ps nIM x.data.toList) (setL (setL ps nIM x.data.toList) nIU y.data.toList) (setL ps nIN x.data.toList) (setL (setL ps nIN x.data.toList) nIS y.data.toList) s w w7 from ⟨HA6.out.below hB7, HM6.out.below hB7, Hra6.out.below hB7, Hrb6.out.below hB7, Hrc6.out.below hB7, hrd⟩).below (Below.refl _ _).drew)
        clear hrd hB7
        have hq1 : (r1 == r1) = true := by simp
        have hq2 : (r2 == r2) = true := by simp
        generalize setL (setL ps nIM x.data.toList) nIU y.data.toList = pb at *
        generalize setL ps nIM x.data.toList = pa at *
        generalize setL (setL ps nIN x.data.toList) nIS y.data.toList = pd at *
        generalize setL ps nIN x.data.toList = pc at *
        go_wp2_with fail
        go_upto_region 8 with fail
        go_region_held3 (fun w' => w'.cell? ⟨w.heap.size, 0, none⟩ = some (.string (strB q)) ∧ w'.cell? ⟨M, 0, none⟩ = some (.bool s.ex) ∧ w'.cell? ⟨M, 1, none⟩ = some (.bool s.ht) ∧ w'.cell? ⟨M, 2, none⟩ = some (.bool s.hm) ∧ w'.cell? ⟨M, 3, none⟩ = some (.bool s.tag.1) ∧ w'.cell? ⟨M, 4, none⟩ = some (.string (strB s.tag.2)) ∧ w'.cell? ⟨M, 5, none⟩ = some (.int .i64 s.md) ∧ PreS w.heap.size M q u va vb vc vd ps pa pb pc pd s w w')
          (first | with_reducible exact pre_all hK | with_reducible exact pre_all HP.out)
          (first
            | (go_at_call 25; with_reducible refine (pre_eval HFa Dua Dma H1 HP.out HP.out.ra).mono ?_; rintro e w10 ⟨rfl, hK⟩)
            | (go_at_call 25; with_reducible refine (pre_eval HFb Dub Dmb H2 hK hK.rb).mono ?_; rintro e w11 ⟨rfl, hK⟩)
            | (go_at_call 25; with_reducible refine (pre_eval HFc Duc Dmc H3 hK hK.rc).mono ?_; rintro e w12 ⟨rfl, hK⟩)
            | (go_at_call 25; with_reducible refine (pre_eval HFd Dud Dmd H4 hK hK.rd).mono ?_; rintro e w13 ⟨rfl, hK⟩))
        go_wp2_with fail
        go_ret
        exact ⟨rfl, hK.a.b⟩
    · have hxy' : 500 < x.size + y.size := by omega
      clear hfw
      go_enter Tryz.func8, Tryz.ntmps8
      go_wp2_with fail
      refine (awakeY_any _ HR0.out.e).mono ?_
      rintro e w1 ⟨rfl, hB1⟩
      have HR1 := Lib.hid (HR0.out.below hB1)
      have c1 := HR1.out.c1
      clear hB1
      go_wp2_with fail
      refine (HF.out _ HR1.out.r).mono ?_
      rintro e w2 ⟨rfl, hB2⟩
      have HR2 := Lib.hid (HR1.out.below hB2)
      clear hB2
      go_wp2_with fail
      refine (awakeY_any _ HR2.out.e).mono ?_
      rintro e w3 ⟨rfl, hB3⟩
      go_wp2_with fail
      go_ret
      exact ⟨rfl, (HR2.out.below hB3).b⟩
end Go.Proofs.YtkpeaghbacoehaaGreatDoor

/- ValidatorSafe: for every request the statement's function returns true: the walk. -/
namespace Go.Proofs.YtkpeaghbacoehaaGreatDoor
open Go.RowKit

def evS (f1 m1 la f3 m3 rd si : Bool) : Int := if (if f1 = true then !m1 else la) = true then 3 else if f3 = true then (if m3 = true then (if rd = true then 2 else 3) else 1) else if rd = true ∧ si = true then 2 else 1
theorem evalL_S (m : List UInt8) (ps : Flds) (s : StV) (du dm : Option Nat) : evalL m ps s du dm = evS (fnd ps nIM) (mtL (valF ps nIM) s true) (laterL s du) (fnd ps nIN) (mtL (valF ps nIN) s false) (readsM m) (sinceL s dm) := rfl
def safN : List (List UInt8) := [nIM, nIN, nIS, nIU]
def remK (ps : Flds) (k : Nat) : Flds := (safN.take k).foldl remL ps
theorem remK_step (ps : Flds) {k : Nat} {n : List UInt8} (h : safN[k]? = some n) : remK ps (k + 1) = remL (remK ps k) n := by
  unfold remK
  rw [List.take_add_one, h, List.foldl_append]; rfl
theorem remL_sub {ps : Flds} {n : List UInt8} : ∀ p ∈ remL ps n, p ∈ ps := fun _ hp => (List.mem_filter.mp hp).1
theorem remK_le (ps : Flds) : ∀ k, (remK ps k).length ≤ ps.length ∧ ∀ p ∈ remK ps k, p ∈ ps := by
  intro k
  induction k with
  | zero => exact ⟨Nat.le_refl _, fun _ h => h⟩
  | succ k ih =>
    cases h : safN[k]? with
    | none =>
      have e : remK ps (k + 1) = remK ps k := by unfold remK; rw [List.take_add_one, h]; simp
      rw [e]; exact ih
    | some n =>
      rw [remK_step ps h]
      exact ⟨Nat.le_trans (rem_len _ _) ih.1, fun p hp => ih.2 p (remL_sub p hp)⟩
def remA (ps : Flds) : Flds := remK ps 4
theorem remA_eq (ps : Flds) : remA ps = remL (remL (remL (remL ps nIM) nIN) nIS) nIU := rfl
theorem remA_IU (ps : Flds) : allL (remA ps) nIU = [] := by rw [remA_eq]; exact all_rem_same rfl
theorem remA_IS (ps : Flds) : allL (remA ps) nIS = [] := by rw [remA_eq, all_rem_other (by decide)]; exact all_rem_same rfl
theorem remA_IN (ps : Flds) : allL (remA ps) nIN = [] := by rw [remA_eq, all_rem_other (by decide), all_rem_other (by decide)]; exact all_rem_same rfl
theorem remA_IM (ps : Flds) : allL (remA ps) nIM = [] := by rw [remA_eq, all_rem_other (by decide), all_rem_other (by decide), all_rem_other (by decide)]; exact all_rem_same rfl
theorem no_val {ps : Flds} {n : List UInt8} (h : allL ps n = []) : valF ps n = [] ∧ fnd ps n = false := by unfold valF fnd; rw [h]; exact ⟨rfl, rfl⟩
theorem one_val {ps : Flds} {n v : List UInt8} (h : allL ps n = [v]) : valF ps n = v ∧ fnd ps n = true := by unfold valF fnd; rw [h]; exact ⟨rfl, rfl⟩
theorem no_later (s : StV) : laterL s none = false := by unfold laterL; cases s.ex <;> cases s.hm <;> rfl
theorem no_since (s : StV) : sinceL s none = false := by unfold sinceL; cases s.ex <;> cases s.hm <;> rfl
theorem saf_plain (q : List UInt8) (ps : Flds) (s : StV) : evalL q (remA ps) s none none = 1 := by
  rw [evalL_S, (no_val (remA_IM ps)).2, (no_val (remA_IN ps)).2, no_later, no_since]
  unfold evS
  cases readsM q <;> rfl
theorem mt_star {v : List UInt8} (h : starL v = true) (s : StV) (sg : Bool) : mtL v s sg = s.ex := by unfold mtL; rw [h]; simp
def mPs (ps : Flds) : Flds := addL (remA ps) nIM [42]
def nPs (ps : Flds) : Flds := addL (remA ps) nIN [32, 42, 32]
theorem mPs_IM (ps : Flds) : allL (mPs ps) nIM = [[42]] := by unfold mPs; rw [all_add_same rfl, remA_IM]; rfl
theorem mPs_IN (ps : Flds) : allL (mPs ps) nIN = [] := by unfold mPs; rw [all_add_other (by decide), remA_IN]
theorem mPs_IU (ps : Flds) : allL (mPs ps) nIU = [] := by unfold mPs; rw [all_add_other (by decide), remA_IU]
theorem mPs_IS (ps : Flds) : allL (mPs ps) nIS = [] := by unfold mPs; rw [all_add_other (by decide), remA_IS]
theorem nPs_IN (ps : Flds) : allL (nPs ps) nIN = [[32, 42, 32]] := by unfold nPs; rw [all_add_same rfl, remA_IN]; rfl
theorem nPs_IM (ps : Flds) : allL (nPs ps) nIM = [] := by unfold nPs; rw [all_add_other (by decide), remA_IM]
theorem nPs_IU (ps : Flds) : allL (nPs ps) nIU = [] := by unfold nPs; rw [all_add_other (by decide), remA_IU]
theorem nPs_IS (ps : Flds) : allL (nPs ps) nIS = [] := by unfold nPs; rw [all_add_other (by decide), remA_IS]
theorem saf_match (q : List UInt8) (ps : Flds) (s : StV) : evalL q (mPs ps) s none none = if s.ex = true then 1 else 3 := by
  rw [evalL_S, (one_val (mPs_IM ps)).1, (one_val (mPs_IM ps)).2, (no_val (mPs_IN ps)).2, no_since, mt_star (by decide)]
  unfold evS
  cases s.ex <;> cases readsM q <;> rfl
theorem saf_none (q : List UInt8) (ps : Flds) (s : StV) : evalL q (nPs ps) s none none = if s.ex = true then (if readsM q = true then 2 else 3) else 1 := by
  rw [evalL_S, (no_val (nPs_IM ps)).2, (one_val (nPs_IN ps)).1, (one_val (nPs_IN ps)).2, no_later, mt_star (v := [32, 42, 32]) (by decide)]
  unfold evS
  cases s.ex <;> cases readsM q <;> rfl
theorem addY_any (fv : Value) (ps : Flds) (n x : ByteArray) (w : World) (hr : ReadsQ w fv ps) (hn : n.size ≤ 100) (hx : x.size ≤ 500) (hl : ps.length ≤ 30) :
    Calls Tryz.prog 32 #[fv, .string n, .string x] w fun e w' => ∃ v, e = .returned v ∧ ReadsQ w' v (addL ps n.data.toList x.data.toList) ∧ Below w.heap.size w w' := by
  have := add_any fv ps n.data.toList x.data.toList w hr (by simp; omega) (by simp; omega) (by omega)
  rw [strB_of, strB_of] at this
  refine this.mono ?_
  rintro e w' ⟨v, rfl, hO, hB⟩
  exact ⟨v, rfl, hO.q, hB⟩
/-- What the last statements read. -/
structure SafS (N M : Nat) (q : List UInt8) (u v : Value) (ps : Flds) (s : StV) (w w' : World) : Prop where
  a : AskR N q u ps s w w'
  s : StB M w' s
  r : ReadsQ w' v (remA ps)
theorem SafS.below {N M : Nat} {q : List UInt8} {u v : Value} {ps : Flds} {s : StV} {w w1 w2 : World} (h : SafS N M q u v ps s w w1) (hb : Below w1.heap.size w1 w2) : SafS N M q u v ps s w w2 := ⟨h.a.below hb, h.s.below hb, h.r.below hb⟩
theorem saf_all {N M : Nat} {q : List UInt8} {u v : Value} {ps : Flds} {s : StV} {w w' : World} (h : SafS N M q u v ps s w w') : w'.cell? ⟨N, 0, none⟩ = some (.string (strB q)) ∧ w'.cell? ⟨M, 0, none⟩ = some (.bool s.ex) ∧ w'.cell? ⟨M, 1, none⟩ = some (.bool s.ht) ∧ w'.cell? ⟨M, 2, none⟩ = some (.bool s.hm) ∧ w'.cell? ⟨M, 3, none⟩ = some (.bool s.tag.1) ∧ w'.cell? ⟨M, 4, none⟩ = some (.string (strB s.tag.2)) ∧ w'.cell? ⟨M, 5, none⟩ = some (.int .i64 s.md) ∧ SafS N M q u v ps s w w' :=
  ⟨h.a.c0, h.s.c0, h.s.c1, h.s.c2, h.s.c3, h.s.c4, h.s.c5, h⟩
theorem saf_eval {N M : Nat} {q : List UInt8} {u v : Value} {ps : Flds} {s : StV} {w w' : World} {fv : Value} {pf : Flds} {x : Int} (hf : Hid (FitY pf)) (hdu : Hid (DateIs (valF pf nIU) none)) (hdm : Hid (DateIs (valF pf nIS) none)) (hx : Hid (evalL q pf s none none = x)) (h : SafS N M q u v ps s w w') (hr : ReadsQ w' fv pf) :
    Calls Tryz.prog 25 #[.string (strB q), fv, stV s] w' fun e w2 => e = .returned (.int .i64 x) ∧ SafS N M q u v ps s w w2 := by
  refine (evaluate_any q fv pf s none none w' hr hf.out hdu.out hdm.out h.a.e).mono ?_
  rintro e w2 ⟨rfl, hB⟩
  exact ⟨by rw [hx.out], h.below hB⟩
theorem saf_add {N M : Nat} {q : List UInt8} {u v : Value} {ps : Flds} {s : StV} {w w' : World} {n x : ByteArray} {pf : Flds} (hpf : Hid (addL (remA ps) n.data.toList x.data.toList = pf)) (hn : n.size ≤ 100) (hx : x.size ≤ 500) (hl : Hid ((remA ps).length ≤ 30)) (h : SafS N M q u v ps s w w') :
    Calls Tryz.prog 32 #[v, .string n, .string x] w' fun e w2 => ∃ va, e = .returned va ∧ ReadsQ w2 va pf ∧ SafS N M q u v ps s w w2 := by
  refine (addY_any v (remA ps) n x w' h.r hn hx hl.out).mono ?_
  rintro e w2 ⟨va, rfl, hra, hB⟩
  exact ⟨va, rfl, by rw [hpf.out] at hra; exact hra, h.below hB⟩
theorem safN_cell {w : World} {T : TypeId} {k : Nat} {n : List UInt8} (h : safN[k]? = some n) : (w.alloc (.cells #[.string ⟨#[105, 102, 45, 109, 97, 116, 99, 104]⟩, .string ⟨#[105, 102, 45, 110, 111, 110, 101, 45, 109, 97, 116, 99, 104]⟩, .string ⟨#[105, 102, 45, 109, 111, 100, 105, 102, 105, 101, 100, 45, 115, 105, 110, 99, 101]⟩, .string ⟨#[105, 102, 45, 117, 110, 109, 111, 100, 105, 102, 105, 101, 100, 45, 115, 105, 110, 99, 101]⟩] T)).cell? ⟨w.heap.size, k, none⟩ = some (.string (strB n)) := by
  rw [World.cell?_alloc_at _ _ _ _ rfl]
  match k, h with
  | 0, h => simp only [safN, List.getElem?_cons_zero, Option.some.injEq] at h; subst h; rfl
  | 1, h => simp [safN] at h; subst h; rfl
  | 2, h => simp [safN] at h; subst h; rfl
  | 3, h => simp [safN] at h; subst h; rfl
  | k + 4, h => simp [safN] at h
set_option maxHeartbeats 16000000 in
set_option maxRecDepth 100000 in
theorem safe_walk (q : List UInt8) (u : Value) (ps : Flds) (s : StV) (w : World) (hE : EnvY w) (hA : AskOk w q u ps) :
    Calls Tryz.prog 9 #[askV q u s] w fun e w' => e = .returned (.bool true) ∧ Below w.heap.size w w' := by
  obtain ⟨hql, hr, hpl, hpb⟩ := hA
  have HR0 := Lib.hid (askR_new (ps := ps) (q := q) (u := u) s w 54 hE hr)
  have HF := Lib.hid (fun (w : World) (hr : ReadsQ w u ps) => few_any u ps w hr (by unfold maxLen at hpl; omega) hpb)
  clear hE hr hpb hql
  obtain ⟨fw, hfw⟩ : ∃ x, fewB ps = x := ⟨_, rfl⟩
  rw [hfw] at HF
  cases fw with
  | false =>
    clear hfw
    go_enter Tryz.func9, Tryz.ntmps9
    go_wp2_with fail
    refine (awakeY_any _ HR0.out.e).mono ?_
    rintro e w1 ⟨rfl, hB1⟩
    have HR1 := Lib.hid (HR0.out.below hB1)
    have c1 := HR1.out.c1
    clear hB1
    go_wp2_with fail
    refine (HF.out _ HR1.out.r).mono ?_
    rintro e w2 ⟨rfl, hB2⟩
    have HR2 := Lib.hid (HR1.out.below hB2)
    clear hB2
    go_wp2_with fail
    refine (awakeY_any _ HR2.out.e).mono ?_
    rintro e w3 ⟨rfl, hB3⟩
    go_wp2_with fail
    go_ret
    exact ⟨rfl, (HR2.out.below hB3).b⟩
  | true =>
      obtain ⟨hl20, hb3⟩ := few_yes hfw
      have HFl := Lib.hid (fun (w : World) (hr : ReadsQ w u ps) => fields_any u ps w hr (by omega) (fun p hp => by have := hb3 p hp; omega))
      have HB3 := Lib.hid hb3
      have HL20 := Lib.hid hl20
      have HFit := Lib.hid (fit_of (by omega : ps.length ≤ 30) hb3)
      clear hfw hb3
      go_enter Tryz.func9, Tryz.ntmps9
      go_wp2_with fail
      refine (awakeY_any _ HR0.out.e).mono ?_
      rintro e w1 ⟨rfl, hB1⟩
      have HR1 := Lib.hid (HR0.out.below hB1)
      have c1 := HR1.out.c1
      clear hB1
      go_wp2_with fail
      refine (HF.out _ HR1.out.r).mono ?_
      rintro e w2 ⟨rfl, hB2⟩
      have HR2 := Lib.hid (HR1.out.below hB2)
      have HRd := Lib.hid (HR2.out.below (Below.refl _ _).drew)
      clear hB2 c1
      go_wp2_with fail
      go_upto_region 3 with fail
      go_cut [3, 4] (fun u7 u8 wx => ∃ fv M, u7 = fv ∧ u8 = .pointer (some ⟨M, 0, none⟩) ∧ TwoR w.heap.size M q u fv ps s w wx)
      case first =>
        refine wp_region_held_drew (S := (fun w' => w'.cell? ⟨w.heap.size, 0, none⟩ = some (.string (strB q)) ∧ w'.cell? ⟨w.heap.size, 1, none⟩ = some u ∧ w'.cell? ⟨w.heap.size, 2, none⟩ = some (.bool s.ex) ∧ w'.cell? ⟨w.heap.size, 3, none⟩ = some (.bool s.ht) ∧ w'.cell? ⟨w.heap.size, 4, none⟩ = some (.bool s.hm) ∧ w'.cell? ⟨w.heap.size, 5, none⟩ = some (.bool s.tag.1) ∧ w'.cell? ⟨w.heap.size, 6, none⟩ = some (.string (strB s.tag.2)) ∧ w'.cell? ⟨w.heap.size, 7, none⟩ = some (.int .i64 s.md) ∧ AskR w.heap.size q u ps s w w')) (by kernel_rfl) (askR_all HRd.out) (fun hHeld => ?_)
        refine wpAnyH_take (i := 0) (oi := { dst := some 19, op := _, type := _, pos := _, after := _, guard := _ }) (v := ?_) rfl (by kernel_rfl) (by kernel_rfl) (by kernel_rfl) (fun _ _ _ h => h) (Or.inl ⟨by rfl, ?_⟩) (by assumption) ?_
        rotate_left
        focus (intro w hSw; (try dsimp only at hSw); first | (go_simp; done) | (go_simp; with_reducible rfl))
        (try simp only [Act.put, List.setIfInBounds_toArray, List.set_cons_zero, List.set_cons_succ])
        refine wpAnyH_take (i := 1) (oi := { dst := some 20, op := _, type := _, pos := _, after := _, guard := _ }) (v := ?_) rfl (by kernel_rfl) (by kernel_rfl) (by kernel_rfl) (fun _ _ _ h => h) (Or.inl ⟨by rfl, ?_⟩) (by assumption) ?_
        rotate_left
        focus (intro w hSw; (try dsimp only at hSw); first | (go_simp; done) | (go_simp; with_reducible rfl))
        (try simp only [Act.put, List.setIfInBounds_toArray, List.set_cons_zero, List.set_cons_succ])
        refine wpAnyH_take (i := 3) (oi := { dst := some 22, op := _, type := _, pos := _, after := _, guard := _ }) (v := ?_) rfl (by kernel_rfl) (by kernel_rfl) (by kernel_rfl) (fun _ _ _ h => h) (Or.inl ⟨by rfl, ?_⟩) (by assumption) ?_
        rotate_left
        focus (intro w hSw; (try dsimp only at hSw); first | (go_simp; done) | (go_simp; with_reducible rfl))
        (try simp only [Act.put, List.setIfInBounds_toArray, List.set_cons_zero, List.set_cons_succ])
        refine wpAnyH_take (i := 4) (oi := { dst := some 23, op := _, type := _, pos := _, after := _, guard := _ }) (v := ?_) rfl (by kernel_rfl) (by kernel_rfl) (by kernel_rfl) (fun _ _ _ h => h) (Or.inl ⟨by rfl, ?_⟩) (by assumption) ?_
        rotate_left
        focus (intro w hSw; (try dsimp only at hSw); first | (go_simp; done) | (go_simp; with_reducible rfl))
        (try simp only [Act.put, List.setIfInBounds_toArray, List.set_cons_zero, List.set_cons_succ])
        refine wpAnyH_ready (rs := [2, 6]) (by kernel_rfl) (by simp) ?_
        refine AllReadyH.cons (o := { dst := some 21, op := _, type := _, pos := _, after := _, guard := _ }) rfl (fun K hK => ?_) (AllReadyH.cons (o := { dst := some 4, op := _, type := _, pos := _, after := _, guard := _ }) rfl (fun K hK => ?_) AllReadyH.nil)
        · go_simp
          go_at_call 24
          refine (HFl.out _ HRd.out.r).mono ?_
          rintro e wa ⟨fv, rfl, hO, hBa⟩
          have hRa := HRd.out.below hBa
          refine hK.out _ _ (askR_all hRa) (fun hHa => ?_)
          clear hK K
          (try simp only [Act.put, List.setIfInBounds_toArray, List.set_cons_zero, List.set_cons_succ])
          refine wpAnyH_ready (rs := [5, 6]) (by kernel_rfl) (by simp) ?_
          refine AllReadyH.cons (o := { dst := some 24, op := _, type := _, pos := _, after := _, guard := _ }) rfl (fun K hK => ?_) (AllReadyH.cons (o := { dst := some 4, op := _, type := _, pos := _, after := _, guard := _ }) rfl (fun K hK => ?_) AllReadyH.nil)
          · go_simp
            go_at_call 26
            refine (state_any s _).mono ?_
            rintro e wb ⟨rfl, hBb⟩
            have hRb := hRa.below hBb
            refine hK.out _ _ (askR_all hRb) (fun hHb => ?_)
            clear hK K
            (try simp only [Act.put, List.setIfInBounds_toArray, List.set_cons_zero, List.set_cons_succ])
            refine wpAnyH_ready (rs := [6]) (by kernel_rfl) (by simp) ?_
            refine AllReadyH.cons (o := { dst := some 4, op := _, type := _, pos := _, after := _, guard := _ }) rfl (fun K hK => ?_) AllReadyH.nil
            go_simp
            have hRm := hRb.below (below_new wb (.cells (stC zS) 61))
            have hM := stB_new wb zS 61
            refine hK.out _ _ (askR_all hRm) (fun hHm => ?_)
            clear hK K
            (try simp only [Act.put, List.setIfInBounds_toArray, List.set_cons_zero, List.set_cons_succ])
            refine wpAnyH_take (i := 7) (oi := { dst := some 3, op := _, type := _, pos := _, after := _, guard := _ }) (v := ?_) rfl (by kernel_rfl) (by kernel_rfl) (by kernel_rfl) (fun _ _ _ h => h) (Or.inl ⟨by rfl, ?_⟩) (by assumption) ?_
            rotate_left
            focus (intro w hSw; (try dsimp only at hSw); first | (go_simp; done) | (go_simp; with_reducible rfl))
            (try simp only [Act.put, List.setIfInBounds_toArray, List.set_cons_zero, List.set_cons_succ])
            refine wpAnyH_ready (rs := [8]) (by kernel_rfl) (by simp) ?_
            refine AllReadyH.cons (o := { dst := none, op := _, type := _, pos := _, after := _, guard := _ }) rfl (fun K hK => ?_) AllReadyH.nil
            go_simp
            have hRz := hRb.below (below_new wb (.cells (stC s) 61))
            refine hK.out _ _ (askR_all hRz) (fun hHz => ?_)
            clear hK K
            (try simp only [Act.put, List.setIfInBounds_toArray, List.set_cons_zero, List.set_cons_succ])
            refine wpAnyH_done (by kernel_rfl) ?_ _
            (try go_wp2_with fail)
            go_meet
            exact ⟨fv, wb.heap.size, rfl, rfl, ⟨hRz, (hO.q.below hBb).below (below_new _ _), stB_new wb s 61⟩⟩
          · go_simp
            have hRm := hRa.below (below_new wa (.cells (stC zS) 61))
            have hM := stB_new wa zS 61
            refine hK.out _ _ (askR_all hRm) (fun hHm => ?_)
            clear hK K
            (try simp only [Act.put, List.setIfInBounds_toArray, List.set_cons_zero, List.set_cons_succ])
            refine wpAnyH_ready (rs := [5]) (by kernel_rfl) (by simp) ?_
            refine AllReadyH.cons (o := { dst := some 24, op := _, type := _, pos := _, after := _, guard := _ }) rfl (fun K hK => ?_) AllReadyH.nil
            go_simp
            go_at_call 26
            refine (state_any s _).mono ?_
            rintro e wb ⟨rfl, hBb⟩
            have hRb := hRm.below hBb
            refine hK.out _ _ (askR_all hRb) (fun hHb => ?_)
            clear hK K
            (try simp only [Act.put, List.setIfInBounds_toArray, List.set_cons_zero, List.set_cons_succ])
            have hMM := hM.below hBb
            have hSM := hMM
            obtain ⟨z0, z1, z2, z3, z4, z5, zf, zl⟩ := hMM
            have zf0 := zf 0
            have zf1 := zf 1
            have zf2 := zf 2
            have zf3 := zf 3
            have zf4 := zf 4
            have zf5 := zf 5
            clear zf
            refine wpAnyH_take (i := 7) (oi := { dst := some 3, op := _, type := _, pos := _, after := _, guard := _ }) (v := ?_) rfl (by kernel_rfl) (by kernel_rfl) (by kernel_rfl) (fun _ _ _ h => h) (Or.inl ⟨by rfl, ?_⟩) (by assumption) ?_
            rotate_left
            focus (intro w hSw; (try dsimp only at hSw); first | (go_simp; done) | (go_simp; with_reducible rfl))
            (try simp only [Act.put, List.setIfInBounds_toArray, List.set_cons_zero, List.set_cons_succ])
            refine wpAnyH_ready (rs := [8]) (by kernel_rfl) (by simp) ?_
            refine AllReadyH.cons (o := { dst := none, op := _, type := _, pos := _, after := _, guard := _ }) rfl (fun K hK => ?_) AllReadyH.nil
            go_simp
            have hbz : Below wa.heap.size wa wb := (below_new wa (.cells (stC zS) 61)).trans (hBb.mono (by simp))
            have hRz := hRa.other (Nat.le_refl _) hbz (.bool s.ex) (.bool s.ht) (.bool s.hm) (.bool s.tag.1) (.string (strB s.tag.2)) (.int .i64 s.md)
            refine hK.out _ _ (askR_all hRz) (fun hHz => ?_)
            clear hK K
            (try simp only [Act.put, List.setIfInBounds_toArray, List.set_cons_zero, List.set_cons_succ])
            refine wpAnyH_done (by kernel_rfl) ?_ _
            (try go_wp2_with fail)
            go_meet
            exact ⟨fv, wa.heap.size, rfl, rfl, ⟨hRz, hO.q.below (below_six hbz (Nat.le_refl _) (.bool s.ex) (.bool s.ht) (.bool s.hm) (.bool s.tag.1) (.string (strB s.tag.2)) (.int .i64 s.md)), hSM.set s⟩⟩
        · go_simp
          have hRm := HRd.out.below (below_new w2.drew (.cells (stC zS) 61))
          have hM := stB_new w2.drew zS 61
          refine hK.out _ _ (askR_all hRm) (fun hHm => ?_)
          clear hK K
          (try simp only [Act.put, List.setIfInBounds_toArray, List.set_cons_zero, List.set_cons_succ])
          refine wpAnyH_ready (rs := [2]) (by kernel_rfl) (by simp) ?_
          refine AllReadyH.cons (o := { dst := some 21, op := _, type := _, pos := _, after := _, guard := _ }) rfl (fun K hK => ?_) AllReadyH.nil
          go_simp
          go_at_call 24
          refine (HFl.out _ hRm.r).mono ?_
          rintro e wa ⟨fv, rfl, hO, hBa⟩
          have hRa := hRm.below hBa
          refine hK.out _ _ (askR_all hRa) (fun hHa => ?_)
          clear hK K
          (try simp only [Act.put, List.setIfInBounds_toArray, List.set_cons_zero, List.set_cons_succ])
          refine wpAnyH_ready (rs := [5]) (by kernel_rfl) (by simp) ?_
          refine AllReadyH.cons (o := { dst := some 24, op := _, type := _, pos := _, after := _, guard := _ }) rfl (fun K hK => ?_) AllReadyH.nil
          go_simp
          go_at_call 26
          refine (state_any s _).mono ?_
          rintro e wb ⟨rfl, hBb⟩
          have hRb := hRa.below hBb
          refine hK.out _ _ (askR_all hRb) (fun hHb => ?_)
          clear hK K
          (try simp only [Act.put, List.setIfInBounds_toArray, List.set_cons_zero, List.set_cons_succ])
          have hMM := (hM.below hBa).below hBb
          have hSM : StB w2.heap.size wb zS := hMM
          have hMM := hSM
          obtain ⟨z0, z1, z2, z3, z4, z5, zf, zl⟩ := hMM
          have zf0 := zf 0
          have zf1 := zf 1
          have zf2 := zf 2
          have zf3 := zf 3
          have zf4 := zf 4
          have zf5 := zf 5
          clear zf
          refine wpAnyH_take (i := 7) (oi := { dst := some 3, op := _, type := _, pos := _, after := _, guard := _ }) (v := ?_) rfl (by kernel_rfl) (by kernel_rfl) (by kernel_rfl) (fun _ _ _ h => h) (Or.inl ⟨by rfl, ?_⟩) (by assumption) ?_
          rotate_left
          focus (intro w hSw; (try dsimp only at hSw); first | (go_simp; done) | (go_simp; with_reducible rfl))
          (try simp only [Act.put, List.setIfInBounds_toArray, List.set_cons_zero, List.set_cons_succ])
          refine wpAnyH_ready (rs := [8]) (by kernel_rfl) (by simp) ?_
          refine AllReadyH.cons (o := { dst := none, op := _, type := _, pos := _, after := _, guard := _ }) rfl (fun K hK => ?_) AllReadyH.nil
          go_simp
          have hbz : Below w2.drew.heap.size w2.drew wb := ((below_new w2.drew (.cells (stC zS) 61)).trans (hBa.mono (by simp))).trans (hBb.mono (by have := hBa.size; simp at this ⊢; omega))
          have hRz := HRd.out.other (M := w2.heap.size) (Nat.le_refl _) hbz (.bool s.ex) (.bool s.ht) (.bool s.hm) (.bool s.tag.1) (.string (strB s.tag.2)) (.int .i64 s.md)
          refine hK.out _ _ (askR_all hRz) (fun hHz => ?_)
          clear hK K
          (try simp only [Act.put, List.setIfInBounds_toArray, List.set_cons_zero, List.set_cons_succ])
          refine wpAnyH_done (by kernel_rfl) ?_ _
          (try go_wp2_with fail)
          go_meet
          exact ⟨fv, w2.heap.size, rfl, rfl, ⟨hRz, (ownsP_six (M := w2.heap.size) (hO.below hBb) (by simp) (.bool s.ex) (.bool s.ht) (.bool s.hm) (.bool s.tag.1) (.string (strB s.tag.2)) (.int .i64 s.md)).q, hSM.set s⟩⟩
      case rest =>
        obtain ⟨fv, M, h7, rfl, hT⟩ := hcut
        have h7' := h7.symm
        subst h7'
        clear h7
        have HT := Lib.hid hT
        clear hT
        obtain ⟨du, hdu⟩ := date_ex (valF ps nIU)
        obtain ⟨dm, hdm⟩ := date_ex (valF ps nIS)
        have HV := Lib.hid (evaluate_any q fv ps s du dm _ HT.out.f HFit.out hdu hdm HT.out.a.e)
        obtain ⟨r, hr⟩ : ∃ r, evalL q ps s du dm = r := ⟨_, rfl⟩
        have HRng := Lib.hid (evalL_range q ps s du dm)
        rw [hr] at HV HRng
        clear hdu hdm hr
        obtain ⟨c0, _, _, _, _, _, _, _, _, _, _, _⟩ := HT.out.a
        obtain ⟨d0, d1, d2, d3, d4, d5, _, _⟩ := HT.out.s
        go_wp2_with fail
        refine HV.out.mono ?_
        rintro e w5 ⟨rfl, hB5⟩
        have HA5 := Lib.hid (HT.out.a.below hB5)
        have HM5 := Lib.hid (HT.out.s.below hB5)
        have HF5 := Lib.hid (HT.out.f.below hB5)
        clear hB5 c0 d0 d1 d2 d3 d4 d5
        have hGT := meth_any q [71, 69, 84]
        have hHD := meth_any q [72, 69, 65, 68]
        go_upto_region 5 with fail
        go_cut [49] (fun u49 wx => u49 = .bool false ∧ wx = w5)
        case first =>
          have c0 := HA5.out.c0
          rcases HRng.out with h | ⟨h, hrd⟩ | h
          · subst h
            go_wp2_with fail
            go_meet
            exact ⟨rfl, rfl⟩
          · subst h
            by_cases hg : q = [71, 69, 84]
            · rw [decide_eq_true hg] at hGT
              clear hg hrd
              go_wp2_with fail
              go_meet
              exact ⟨rfl, rfl⟩
            · have hh : q = [72, 69, 65, 68] := by
                unfold readsM mGET mHEAD at hrd
                rw [decide_eq_false hg] at hrd
                simpa using hrd
              rw [decide_eq_false hg] at hGT
              rw [decide_eq_true hh] at hHD
              clear hg hh hrd
              go_wp2_with fail
              go_meet
              exact ⟨rfl, rfl⟩
          · subst h
            go_wp2_with fail
            go_meet
            exact ⟨rfl, rfl⟩
        case rest =>
          obtain ⟨rfl, hw⟩ := hcut
          have hw' := hw.symm
          subst hw'
          clear hw hGT hHD
          go_wp2_with fail
          have hbN := below_new w5 (.cells #[.string ⟨#[105, 102, 45, 109, 97, 116, 99, 104]⟩, .string ⟨#[105, 102, 45, 110, 111, 110, 101, 45, 109, 97, 116, 99, 104]⟩, .string ⟨#[105, 102, 45, 109, 111, 100, 105, 102, 105, 101, 100, 45, 115, 105, 110, 99, 101]⟩, .string ⟨#[105, 102, 45, 117, 110, 109, 111, 100, 105, 102, 105, 101, 100, 45, 115, 105, 110, 99, 101]⟩] 9)
          have HA6 := Lib.hid (HA5.out.below hbN)
          have HM6 := Lib.hid (HM5.out.below hbN)
          have HF6 := Lib.hid (HF5.out.below hbN)
          have HN6 := Lib.hid (fun (k : Nat) (n : List UInt8) (h : safN[k]? = some n) => safN_cell (w := w5) (T := 9) h)
          have HLt := Lib.hid (show w5.heap.size < (w5.alloc (.cells #[.string ⟨#[105, 102, 45, 109, 97, 116, 99, 104]⟩, .string ⟨#[105, 102, 45, 110, 111, 110, 101, 45, 109, 97, 116, 99, 104]⟩, .string ⟨#[105, 102, 45, 109, 111, 100, 105, 102, 105, 101, 100, 45, 115, 105, 110, 99, 101]⟩, .string ⟨#[105, 102, 45, 117, 110, 109, 111, 100, 105, 102, 105, 101, 100, 45, 115, 105, 110, 99, 101]⟩] 9)).heap.size by simp)
          clear hbN
          generalize (w5.alloc (.cells #[.string ⟨#[105, 102, 45, 109, 97, 116, 99, 104]⟩, .string ⟨#[105, 102, 45, 110, 111, 110, 101, 45, 109, 97, 116, 99, 104]⟩, .string ⟨#[105, 102, 45, 109, 111, 100, 105, 102, 105, 101, 100, 45, 115, 105, 110, 99, 101]⟩, .string ⟨#[105, 102, 45, 117, 110, 109, 111, 100, 105, 102, 105, 101, 100, 45, 115, 105, 110, 99, 101]⟩] 9)) = W6 at *
          generalize w5.heap.size = N9 at *
          go_loopw [3, 52] (fun f i wr => ∃ (k : Nat) (fq : Value), f = fq ∧ i = .int .i64 k ∧ k ≤ 4 ∧ ReadsQ wr fq (remK ps k) ∧ Below W6.heap.size W6 wr) (fun _ i _ => 4 - (intOf i).toNat)
          case atStart => exact ⟨0, _, rfl, rfl, Nat.zero_le _, HF6.out, Below.refl _ _⟩
          case round =>
            obtain ⟨k, fq, hfq, rfl, hk, hrk, hBr⟩ := hrel
            have hfq' := hfq.symm
            subst hfq'
            clear hfq
            have HBR := Lib.hid hBr
            have HRK := Lib.hid hrk
            have HKL := Lib.hid (remK_le ps k)
            clear hBr hrk
            by_cases hlt : k < 4
            · obtain ⟨n, hn⟩ : ∃ n, safN[k]? = some n := by
                have : k < safN.length := hlt
                exact ⟨safN[k], by simp [this]⟩
              have hc : wr.cell? ⟨N9, k, none⟩ = some (.string (strB n)) := (HBR.out.cell (p := ⟨N9, k, none⟩) HLt.out).trans (HN6.out k n hn)
              have HN := Lib.hid hn
              have hnl : n.length ≤ 100 := by
                have hm := List.mem_of_getElem? hn
                simp only [safN, List.mem_cons, List.mem_nil_iff, or_false] at hm
                rcases hm with rfl | rfl | rfl | rfl <;> decide
              have hns : (strB n).size = n.length := strB_size n
              clear hn
              go_wp2_with fail
              refine (remove_any _ (remK ps k) (strB n) _ HRK.out (by omega) (by have := HKL.out.1; omega) (fun p hp => by have := HB3.out p (HKL.out.2 p hp); omega)).mono ?_
              rintro e w8 ⟨v, rfl, hO, hB8⟩
              have hrv := hO.q
              rw [strB_list, ← remK_step ps HN.out] at hrv
              have HRv := Lib.hid hrv
              clear hO hrv
              go_wp2_with fail
              go_roundw
              case rel => exact ⟨k + 1, _, rfl, by go_num, by omega, HRv.out, HBR.out.trans (hB8.mono HBR.out.size)⟩
              case measure => simp [intOf]; omega
            · have hk4 : k = 4 := by omega
              subst hk4
              have HSf0 := Lib.hid (fun (f : Value) (hrk : ReadsQ wr f (remK ps 4)) => (⟨HA6.out.below HBR.out, HM6.out.below HBR.out, hrk⟩ : SafS w.heap.size M q u f ps s w wr))
              go_wp2_with fail
              have HSf := Lib.hid (HSf0.out _ HRK.out)
              have HSd := Lib.hid (HSf.out.below (Below.refl wr.heap.size wr).drew)
              have HL30 := Lib.hid (show (remA ps).length ≤ 30 from by have := (remK_le ps 4).1; have := HL20.out; show (remK ps 4).length ≤ 30; omega)
              have HEr : ∀ p ∈ remA ps, p.1.length + p.2.length ≤ 3000 := fun p hp => HB3.out p ((remK_le ps 4).2 p hp)
              have HFr := Lib.hid (fit_of HL30.out HEr)
              have HLr : (remA ps).length ≤ 20 := by have := (remK_le ps 4).1; have := HL20.out; show (remK ps 4).length ≤ 20; omega
              have HFm := Lib.hid (show FitY (mPs ps) from fit_of (by unfold mPs addL; simp; omega) (fun p hp => by
                unfold mPs addL at hp
                rcases List.mem_append.mp hp with h | h
                · exact HEr p h
                · have : p = (lowS nIM, [42]) := by simpa using h
                  subst this; decide))
              have HFn := Lib.hid (show FitY (nPs ps) from fit_of (by unfold nPs addL; simp; omega) (fun p hp => by
                unfold nPs addL at hp
                rcases List.mem_append.mp hp with h | h
                · exact HEr p h
                · have : p = (lowS nIN, [32, 42, 32]) := by simpa using h
                  subst this; decide))
              clear HEr HLr
              have D1 := Lib.hid (show DateIs (valF (mPs ps) nIU) none by rw [(no_val (mPs_IU ps)).1]; exact date_nil)
              have D2 := Lib.hid (show DateIs (valF (mPs ps) nIS) none by rw [(no_val (mPs_IS ps)).1]; exact date_nil)
              have D3 := Lib.hid (show DateIs (valF (nPs ps) nIU) none by rw [(no_val (nPs_IU ps)).1]; exact date_nil)
              have D4 := Lib.hid (show DateIs (valF (nPs ps) nIS) none by rw [(no_val (nPs_IS ps)).1]; exact date_nil)
              have D5 := Lib.hid (show DateIs (valF (remA ps) nIU) none by rw [(no_val (remA_IU ps)).1]; exact date_nil)
              have D6 := Lib.hid (show DateIs (valF (remA ps) nIS) none by rw [(no_val (remA_IS ps)).1]; exact date_nil)
              have HPm := Lib.hid (show addL (remA ps) (⟨#[105, 102, 45, 109, 97, 116, 99, 104]⟩ : ByteArray).data.toList (⟨#[42]⟩ : ByteArray).data.toList = mPs ps from rfl)
              have HPn := Lib.hid (show addL (remA ps) (⟨#[105, 102, 45, 110, 111, 110, 101, 45, 109, 97, 116, 99, 104]⟩ : ByteArray).data.toList (⟨#[32, 42, 32]⟩ : ByteArray).data.toList = nPs ps from rfl)
              obtain ⟨ex, hex⟩ : ∃ x, s.ex = x := ⟨_, rfl⟩
              obtain ⟨xm, hxm, hxm2⟩ : ∃ xm : Int, evalL q (mPs ps) s none none = xm ∧ (xm == 1) = ex := ⟨_, rfl, by rw [saf_match, hex]; cases ex <;> rfl⟩
              obtain ⟨xn, hxn, hxn2⟩ : ∃ xn : Int, evalL q (nPs ps) s none none = xn ∧ (xn == 1) = !ex := ⟨_, rfl, by rw [saf_none, hex]; cases ex <;> cases readsM q <;> rfl⟩
              have X1 := Lib.hid hxm
              have X2 := Lib.hid hxn
              have X3 := Lib.hid (saf_plain q ps s)
              have HEX := Lib.hid hex
              have Y1 := Lib.hid hxm2
              have Y2 := Lib.hid hxn2
              clear hxm hxn hex hxm2 hxn2
              go_region_held3 (fun w' => w'.cell? ⟨w.heap.size, 0, none⟩ = some (.string (strB q)) ∧ w'.cell? ⟨M, 0, none⟩ = some (.bool s.ex) ∧ w'.cell? ⟨M, 1, none⟩ = some (.bool s.ht) ∧ w'.cell? ⟨M, 2, none⟩ = some (.bool s.hm) ∧ w'.cell? ⟨M, 3, none⟩ = some (.bool s.tag.1) ∧ w'.cell? ⟨M, 4, none⟩ = some (.string (strB s.tag.2)) ∧ w'.cell? ⟨M, 5, none⟩ = some (.int .i64 s.md) ∧ SafS w.heap.size M q u fq ps s w w')
                (first | with_reducible exact saf_all hK | with_reducible exact saf_all HSd.out)
                (first
                  | (go_at_call 32; with_reducible refine (saf_add HPm (by decide) (by decide) HL30 HSd.out).mono ?_; rintro e w10 ⟨va, rfl, hra, hK⟩)
                  | (go_at_call 25; with_reducible refine (saf_eval HFm D1 D2 X1 hK hra).mono ?_; rintro e w11 ⟨rfl, hK⟩))
              have HSe := Lib.hid hK
              have HSg := Lib.hid (hK.below (Below.refl _ _).drew)
              clear hK
              go_wp2_with fail
              go_upto_region 13 with fail
              go_region_held3 (fun w' => w'.cell? ⟨w.heap.size, 0, none⟩ = some (.string (strB q)) ∧ w'.cell? ⟨M, 0, none⟩ = some (.bool s.ex) ∧ w'.cell? ⟨M, 1, none⟩ = some (.bool s.ht) ∧ w'.cell? ⟨M, 2, none⟩ = some (.bool s.hm) ∧ w'.cell? ⟨M, 3, none⟩ = some (.bool s.tag.1) ∧ w'.cell? ⟨M, 4, none⟩ = some (.string (strB s.tag.2)) ∧ w'.cell? ⟨M, 5, none⟩ = some (.int .i64 s.md) ∧ SafS w.heap.size M q u fq ps s w w')
                (first | with_reducible exact saf_all hK | with_reducible exact saf_all HSg.out)
                (first
                  | (go_at_call 32; with_reducible refine (saf_add HPn (by decide) (by decide) HL30 HSg.out).mono ?_; rintro e w12 ⟨vb, rfl, hrb, hK⟩)
                  | (go_at_call 25; with_reducible refine (saf_eval HFn D3 D4 X2 hK hrb).mono ?_; rintro e w13 ⟨rfl, hK⟩))
              have HSk := Lib.hid hK
              obtain ⟨c0, c1, c2, c3, c4, c5, c6, c7, _, _, _, _⟩ := hK.a
              obtain ⟨d0, d1, d2, d3, d4, d5, _, _⟩ := hK.s
              clear hK
              go_wp2_with fail
              refine (saf_eval HFr D5 D6 X3 HSk.out HSk.out.r).mono ?_
              rintro e w14 ⟨rfl, hK⟩
              obtain ⟨c0, c1, c2, c3, c4, c5, c6, c7, _, _, _, _⟩ := hK.a
              rw [HEX.out] at c2
              have y1 := Y1.out
              have y2 := Y2.out
              cases ex
              all_goals
                go_wp2_with fail
                go_ret
                exact ⟨rfl, hK.a.b⟩
end Go.Proofs.YtkpeaghbacoehaaGreatDoor
