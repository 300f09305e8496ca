import Derived.Test.YtieolalohindgaaGreatDoorTie
import Derived.Test.YtieolalohindgaaGreatDoorCards
import Derived.WalkKit
import Derived.ProofKit
import Derived.OpenShut
import Derived.LaidMore
import Derived.Lay
import Derived.SevenTiedAt
import Derived.Stop.Joined
import Derived.Below
import Derived.Stop.LaidErr
import Derived.Shelf.Vars
import Derived.Deep.DeepHandedRow
import Derived.Test.YtieolalohindgaaGreatDoorPa21
import Derived.Test.YtieolalohindgaaGreatDoorPa27
import Derived.Test.YtieolalohindgaaGreatDoorPa24
import Derived.Deep.SlicePairs
import Derived.Carry
/- What every row of layer 17 shares: the program's knob, the start that lays the nine listed variables, what the walks ask of a world, and the row's last step. -/
namespace Go.Proofs.YtieolalohindgaaGreatDoor
open Go.ChangeShapes Go.WideShapes Go.ChangeAt Go.RowKit

theorem own : ownKnob Tryz.prog.godebug = none := by kernel_rfl
def laidA : List (String × DataW Unit) := Rows.policyJudgesRow.laid
theorem laid_plainA (w : World) : laidMetH Tryz.prog laidA w = laidMet Tryz.prog laidA w := MakeChecks.laidMetH_plain _ _ _ (by kernel_rfl)
set_option maxRecDepth 100000 in
theorem laid_metA (os : Os) (args : Array Value) : laidMetH Tryz.prog laidA ((World.laidAll Tryz.prog os laidA).forCall (fun _ _ => 0) ⟨#[], args, []⟩).memory := by
  rw [laid_plainA]; exact laidMet_laidAll _ (by kernel_rfl) (by kernel_rfl)
/-- An array of strings that reads as a list of strings holds them. -/
theorem cells_of_strs {H : Type} {enc : TypeId × Value → H} {P : Program} {w : World} {base : Nat} {sp : Nat → Bool} {held : Bool} {fuel : Nat} {t e : TypeId} {n : Nat} {cs : List Value} {ls : List (List UInt8)} {p : List MemPlace}
    (ht : P.underlying t = some (.array n e)) (he : P.underlying e = some .string) (hce : P.cellsOf e = 1) (hct : P.cellsOf t = n)
    (h : DataW.trod enc P w base sp held fuel t cs = some (.agg (ls.map fun l => .lit (.string l)), p)) : cs = ls.map fun l => Value.string (strB l) := by
  cases fuel with
  | zero => simp [DataW.trod] at h
  | succ fuel =>
    simp only [DataW.trod, ht, hce, hct, Nat.mul_one] at h
    split at h
    · rename_i hl
      obtain ⟨xs, hm, hx⟩ := Option.map_eq_some_iff.1 h
      have hxs : xs.map (·.1) = ls.map fun l => (DataW.lit (.string l) : DataW H) := by
        have := congrArg Prod.fst hx
        simpa using this
      have hxl : xs.length = n := by simpa using Lib.mapM_length hm
      have hzl : ls.length = n := by
        have := congrArg List.length hxs
        simp at this
        omega
      apply List.ext_getElem?
      intro i
      by_cases hi : i < n
      · obtain ⟨b, hb, hf⟩ := Lib.mapM_at hm i i (by simp [hi])
        obtain ⟨z, hc, hz, _⟩ := DataW.trod_string he hf
        have h1 : cs[i]? = some (.string z) := by
          have := congrArg (·[0]?) hc
          simpa [List.getElem?_take, List.getElem?_drop] using this
        have h2 : (xs.map (·.1))[i]? = some (DataW.lit (.string z.data.toList) : DataW H) := by simp [hb, hz]
        rw [hxs] at h2
        simp only [List.getElem?_map, Option.map_eq_some_iff, DataW.lit.injEq, Lit.string.injEq] at h2
        obtain ⟨z', hz', e⟩ := h2
        rw [h1]
        simp [hz', e, strB_of]
      · rw [List.getElem?_eq_none (by omega), List.getElem?_eq_none (by simp; omega)]
    · cases h
theorem strs_of_head {P : Program} {W : World} {name : String} {ls : List (List UInt8)} {rest : List (String × DataW Unit)} {g : Nat} {t e : TypeId} {n : Nat}
    (hg : P.globalNamed name = some g) (hty : (P.globals[g]?).map (·.type) = some t) (ht : P.underlying t = some (.array n e)) (he : P.underlying e = some .string) (hce : P.cellsOf e = 1) (hct : P.cellsOf t = n)
    (h : laidMet P ((name, .agg (ls.map fun l => .lit (.string l))) :: rest) W) : W.var? P name = some (ls.map fun l => Value.string (strB l)).toArray := by
  obtain ⟨ps, ⟨g', t', cs, fuel, p, q, hg', ht', hvar, hd, _, _⟩, _⟩ := h
  obtain rfl := Option.some.inj (hg.symm.trans hg')
  obtain rfl := Option.some.inj (hty.symm.trans ht')
  rw [hvar, ← cells_of_strs ht he hce hct hd]
theorem tTab : (Tryz.prog.globals[(7 : Nat)]?).map (·.type) = some 199 := by kernel_rfl
theorem tMon : (Tryz.prog.globals[(1 : Nat)]?).map (·.type) = some 159 := by kernel_rfl
theorem tDay : (Tryz.prog.globals[(2 : Nat)]?).map (·.type) = some 162 := by kernel_rfl
theorem eTab : (Rows.laid_internal_strconv_uint64pow10 : DataW Unit) = Lib.tabData .u64 Lib.pow10Tab := by rfl
theorem eMon : (Rows.laid_quayside_httpdate_monthNames : DataW Unit) = .agg ([moS 1, moS 2, moS 3, moS 4, moS 5, moS 6, moS 7, moS 8, moS 9, moS 10, moS 11, moS 12].map fun l => .lit (.string l)) := by rfl
theorem eDay : (Rows.laid_quayside_httpdate_weekdayNames : DataW Unit) = .agg ([wdS 0, wdS 1, wdS 2, wdS 3, wdS 4, wdS 5, wdS 6].map fun l => .lit (.string l)) := by rfl
theorem tab_of {W : World} {rest : List (String × DataW Unit)} (h : laidMet Tryz.prog (("internal/strconv.uint64pow10", Rows.laid_internal_strconv_uint64pow10) :: rest) W) : Lib.TabIs Tryz.prog W "internal/strconv.uint64pow10" .u64 Lib.pow10Tab := by
  rw [eTab] at h
  exact Lib.tabIs_of_head gTab tTab Tryz.underlying199 Tryz.underlying183 (by kernel_rfl) (by kernel_rfl) h
theorem mon_of {W : World} {rest : List (String × DataW Unit)} (h : laidMet Tryz.prog (("quayside/httpdate.monthNames", Rows.laid_quayside_httpdate_monthNames) :: rest) W) : W.var? Tryz.prog "quayside/httpdate.monthNames" = some monA := by
  rw [eMon] at h
  exact strs_of_head gMon tMon Tryz.underlying159 Tryz.underlying9 (by kernel_rfl) (by kernel_rfl) h
theorem day_of {W : World} {rest : List (String × DataW Unit)} (h : laidMet Tryz.prog (("quayside/httpdate.weekdayNames", Rows.laid_quayside_httpdate_weekdayNames) :: rest) W) : W.var? Tryz.prog "quayside/httpdate.weekdayNames" = some dayA := by
  rw [eDay] at h
  exact strs_of_head gDay tDay Tryz.underlying162 Tryz.underlying9 (by kernel_rfl) (by kernel_rfl) h
theorem gES : Tryz.prog.globalNamed "strconv.ErrSyntax" = some 5 := by kernel_rfl
theorem gESType : (Tryz.prog.globals[(5 : Nat)]?).map (·.type) = some 63 := by kernel_rfl
theorem star : "*" ++ "errors.errorString" = "*errors.errorString" := by decide
theorem rowES (u : TypeId) (h : Tryz.prog.typeName? 3 u = some "*errors.errorString") : u = 195 :=
  typeName_ptr_named (nm := "errors.errorString") (by rw [star]; kernel_rfl) (by kernel_rfl) (by decide) u (by rw [star]; exact h)
theorem envP_of {W : World} (hL : laidMetH Tryz.prog laidA W) : EnvP W := by
  rw [laid_plainA] at hL
  have hT := hL.tail.tail.tail.tail.tail
  obtain ⟨a, s, hv, -, -, -⟩ := laid_sentinel (text := [105, 110, 118, 97, 108, 105, 100, 32, 115, 121, 110, 116, 97, 120]) hT gES gESType Tryz.underlying63 rowES Tryz.underlying195 Tryz.underlying197 rfl rfl Tryz.underlying9 (by kernel_rfl) (by kernel_rfl)
  have h0 := World.var?_cell gES hv 0
  exact ⟨⟨tab_of hL.tail.tail, mon_of hT.tail.tail, day_of hT.tail⟩, _, by simpa using h0, Or.inr ⟨_, _, rfl⟩⟩
theorem max_len {W : World} (h : W.ShapedOpen Tryz.prog) : ∃ m, W.cell? ⟨0, 0, none⟩ = some (.int .i64 m) :=
  cell_of_shapedOpen_int (P := Tryz.prog) (g := 0) (t := 3) (zero := #[.int .i64 0]) h (of_decide_eq_true (by kernel_rfl)) (by kernel_rfl) rfl (by kernel_rfl) (by kernel_rfl) Tryz.underlying3
/-- What the walks ask of a world holds where a row's call begins. -/
theorem has_max {W : World} (hsh : W.ShapedOpen Tryz.prog) : MaxIs W := max_len hsh
theorem env_l {W : World} (hL : laidMetH Tryz.prog laidA W) (hsh : W.ShapedOpen Tryz.prog) : EnvL W := ⟨has_max hsh, envP_of hL⟩
section
variable {H : Type} {enc : TypeId × Value → H}
/-- The witness of a row at a world of one's own making whose shape is shown by other means. -/
theorem witness_row_shaped {C : Checked} {os : Os} {f : FuncId} {fn : Func} {s : OpenSpec} {conds : List PathCond} {apart : Bool} {laid : List (String × DataW Unit)} (modest : Bool) (w0 : World) (args : Array Value) (hos : w0.os = os)
    (hsh : (w0.forCall (fun _ _ => 0) ⟨#[], args, []⟩).Shaped C.prog)
    (hok : Input.okWideB C.prog (w0.forCall (fun _ _ => 0) ⟨#[], args, []⟩) f ⟨#[], args, []⟩ = true)
    (hrow : s.preRow enc C.prog fn conds apart laid (w0.forCall (fun _ _ => 0) ⟨#[], args, []⟩).memory args) :
    ∃ (w : World) (tape : Tape) (i : Input), w.os = os ∧ (w.forCall tape i).Shaped C.prog ∧ i.vars = [] ∧ Input.okWide C.prog (w.forCall tape i) .any w.heap.size f i ∧
      s.preRow enc C.prog fn conds apart laid (w.forCall tape i).memory i.args ∧ ({ modest := modest } : Assume).holds C.prog (lone (Frame.enter C.prog f i.args .normal) [] (w.forCall tape i)) :=
  ⟨w0, fun _ _ => 0, ⟨#[], args, []⟩, hos, hsh, (Input.okWide_of_okWideB (base := 0) hok).1, (Input.okWide_of_okWideB hok).2, hrow, by
    simp only [Assume.holds]
    exact ⟨by simp, by simp, fun _ => Modest.zero, by simp, by simp⟩⟩
end
section
variable {H : Type} {enc : TypeId × Value → H} {P : Program}
/-- The row's last step from 'Below': what was there when the call began is as it was; new blocks may have come. -/
theorem post_below {f : Func} {s : ChangeSpec} {apart fresh handsOn again : Bool} {W W' : World} {args : Array Value} {v : Value} {ds gs : List (DataW H)} {before pa pv : List MemPlace}
    (hW : DataW.Whole enc P f.params.toList s.vars apart W args.toList ds gs before)
    (hres : ∀ (b : Nat) (sp : Nat → Bool) (hd : Bool), DataW.TrodAll enc P W' b sp hd f.resultTypes.toList (v.resultList f.resultTypes.size) (s.fn H (ds ++ gs)).results [])
    (hargs : ∀ sp : Nat → Bool, (∀ p ∈ before, sp p.block = true) → DataW.TrodAll enc P W' 0 sp true f.params.toList args.toList (s.fn H (ds ++ gs)).args pa)
    (hvars : ∀ sp : Nat → Bool, (∀ p ∈ before, sp p.block = true) → DataW.TrodVars enc P W' sp s.vars (s.fn H (ds ++ gs)).vars pv)
    (hps : before = pa ++ pv) (hb : Below W.heap.size W W')
    (hok : ∀ (j : Nat) (t : TypeId) (r : Value), f.resultTypes[j]? = some t → (v.resultList f.resultTypes.size)[j]? = some r → Value.okWide P W' .any 0 t r) :
    s.post enc P f apart fresh handsOn again W args v W' := by
  have lt : ∀ p ∈ before, p.block < W.heap.size := fun p hp => hW.lt p hp
  have old : ∀ p ∈ before, (fun b => decide (b < W.heap.size)) p.block = true := fun p hp => by simpa using lt p hp
  refine ⟨ds, gs, before, [], pa, pv, hW, hres _ _ _, hargs _ old, hvars _ old, World.keptBut_mono (fun p hp => ⟨hp, ?_⟩) (hb.frame (· ∈ before)), fun _ => ?_⟩
  · rw [hps, List.mem_append] at hp
    exact Or.inr hp
  · obtain ⟨_, _, _, _, _, hz, hn⟩ := hW
    refine ⟨hok, _, _, ([] ++ pa) ++ pv, ⟨[] ++ pa, pv, trodAll_append (hargs _ (fun _ _ => rfl)) (hres _ _ _), hvars _ (fun _ _ => rfl), rfl, ?_, ?_⟩, ?_⟩
    · intro b off hp
      have hin : MemPlace.cell b off ∈ before := by rw [hps]; simpa using hp
      rw [hb.frozen (lt _ hin)]
      exact hz b off hin
    · intro ha
      have := hn ha
      rw [hps] at this
      simpa using this
    · intro p hp _
      rw [hps]
      simpa using hp
end
end Go.Proofs.YtieolalohindgaaGreatDoor

/- A stored response, directives, moments, a slice of the reference's fields, times of a response among the arguments, opened. -/
namespace Go.Proofs.YtieolalohindgaaGreatDoor
open Go.ChangeShapes Go.WideShapes Go.ChangeAt Go.RowKit
open Go.ChangeMaps (shut_string open_string)

theorem laidOut : laidOutB Tryz.prog = true := by kernel_rfl
theorem bulkL_part {H : Type} {d : DataW H} {l : List (DataW H)} (h : d ∈ l) : Rows.uptoBulk d ≤ Rows.uptoBulkAll l := by
  induction l with
  | nil => cases h
  | cons x r ih =>
    simp only [Rows.uptoBulkAll]
    rcases List.mem_cons.1 h with e | e
    · subst e; omega
    · have := ih e; omega
theorem bulkL_bound {H : Type} {l : List (DataW H)} (hk : Rows.uptoSmall H l = true) : Rows.uptoBulkAll l ≤ 1048576 := of_decide_eq_true hk
theorem bulkL_elems {H : Type} (elems spare : List (DataW H)) : Rows.uptoBulkAll elems ≤ Rows.uptoBulk (.slice elems spare) := by
  simp only [Rows.uptoBulk]; omega
theorem bulkL_pairs {H : Type} (q : Nat → ByteArray × ByteArray) (D0 D1 : Nat → DataW H) : ∀ L : List Nat, (∀ i ∈ L, D0 i = .lit (.string (q i).1.data.toList) ∧ D1 i = .lit (.string (q i).2.data.toList)) →
    3 * L.length + totL (L.map fun i => ((q i).1.data.toList, (q i).2.data.toList)) ≤ Rows.uptoBulkAll (L.map fun i => DataW.agg [D0 i, D1 i])
  | [], _ => by simp [totL]
  | i :: r, h => by
    have ih := bulkL_pairs q D0 D1 r (fun j hj => h j (List.mem_cons_of_mem _ hj))
    obtain ⟨e0, e1⟩ := h i (List.mem_cons_self ..)
    rw [List.map_cons, List.map_cons, Rows.uptoBulkAll]
    have e : Rows.uptoBulk (DataW.agg [D0 i, D1 i]) = (q i).1.data.toList.length + 1 + ((q i).2.data.toList.length + 1 + 0) + 1 := by
      rw [e0, e1]; simp only [Rows.uptoBulk, Rows.uptoBulkAll]
    have e2 : totL (((q i).1.data.toList, (q i).2.data.toList) :: r.map fun i => ((q i).1.data.toList, (q i).2.data.toList)) = (q i).1.data.toList.length + (q i).2.data.toList.length + totL (r.map fun i => ((q i).1.data.toList, (q i).2.data.toList)) := rfl
    rw [e2, e, List.length_cons]
    omega
set_option maxRecDepth 100000 in
/-- A slice of the reference's fields among the arguments. -/
theorem open_fl {H : Type} {enc : TypeId × Value → H} {w : World} {v : Value} {d : DataW H} {p : List MemPlace} (h : ∃ fuel, DataW.trod enc Tryz.prog w 0 (fun _ => true) true fuel 22 [v] = some (d, p)) :
    ∃ (ps : List (List UInt8 × List UInt8)) (a : Option Addr) (c : Nat), v = .slice a ps.length c ∧ ReadsQ w v ps ∧ Sane v ∧ 2 * ps.length + totL ps ≤ Rows.uptoBulk d := by
  obtain ⟨fuel, hf⟩ := h
  rcases Go.Deep.open_slice_pairs Tryz.underlying22 Tryz.underlying71 (by kernel_rfl) rfl rfl (by kernel_rfl) (by kernel_rfl) hf with ⟨hcs, hx⟩ | ⟨a, len, cap, m, n, V0, V1, D0, D1, P0, P1, hcs, _, hl, hm, hmm, hx, hall⟩
  · simp only [List.cons.injEq, and_true] at hcs
    subst hcs
    exact ⟨[], none, 0, rfl, ⟨none, 0, rfl, fun j l h => by simp at h⟩, fun a n c e => by cases e; exact ⟨Nat.le_refl _, fun _ => rfl⟩, by simp [totL]⟩
  · simp only [List.cons.injEq, and_true] at hcs
    subst hcs
    simp only [Prod.mk.injEq] at hx
    obtain ⟨rfl, _⟩ := hx
    simp only [if_true] at hmm
    subst hmm
    have each : ∀ i, i < len → ∃ q : ByteArray × ByteArray, V0 i = .string q.1 ∧ V1 i = .string q.2 ∧ D0 i = .lit (.string q.1.data.toList) ∧ D1 i = .lit (.string q.2.data.toList) := by
      intro i hi
      obtain ⟨_, _, t0, t1⟩ := hall i (by omega)
      obtain ⟨s0, e0, f0, _⟩ := DataW.trod_string Tryz.underlying9 t0
      obtain ⟨s1, e1, f1, _⟩ := DataW.trod_string Tryz.underlying9 t1
      simp only [List.cons.injEq, and_true, Prod.mk.injEq] at e0 e1 f0 f1
      exact ⟨(s0, s1), e0, e1, f0.1, f1.1⟩
    obtain ⟨q, hq⟩ := Go.Deep.choose_lt each
    have hlen : ((List.range len).map fun i => ((q i).1.data.toList, (q i).2.data.toList)).length = len := by simp
    have hbk := bulkL_pairs (H := H) q D0 D1 (List.range len) (fun i hi => ⟨(hq i (List.mem_range.mp hi)).2.2.1, (hq i (List.mem_range.mp hi)).2.2.2⟩)
    rw [List.length_range] at hbk
    refine ⟨(List.range len).map fun i => ((q i).1.data.toList, (q i).2.data.toList), some a, m, by rw [hlen], ⟨some a, m, by rw [hlen], fun j l hj => ?_⟩, fun a' n' c' e => by cases e; exact ⟨hl, fun h => by cases h⟩, ?_⟩
    · have hjl : j < len := by have := (List.getElem?_eq_some_iff.mp hj).1; omega
      have hj' : ((q j).1.data.toList, (q j).2.data.toList) = l := by
        rw [List.getElem?_map, List.getElem?_range hjl] at hj
        exact Option.some.inj hj
      obtain ⟨c0, c1, _, _⟩ := hall j (by omega)
      obtain ⟨v0, v1, _, _⟩ := hq j hjl
      obtain ⟨z0, _, _, _⟩ := hall 0 (by omega)
      obtain ⟨b, off, spot⟩ := a
      have hspot : spot = none := by simpa [Addr.add] using World.cell?_spot z0
      subst hspot
      have hlt : b < w.heap.size := by have := World.block_lt_of_cell? w _ z0; simpa [Addr.add] using this
      rw [v0, Go.WideShapes.add_plain] at c0
      rw [v1, Go.WideShapes.add_plain, ← Nat.add_assoc] at c1
      subst hj'
      exact ⟨b, off, rfl, hlt, by rw [strB_of]; exact c0, by rw [strB_of]; exact c1⟩
    · rw [hlen]
      refine Nat.le_trans ?_ (bulkL_elems _ _)
      omega
set_option maxRecDepth 100000 in
theorem open_flds {H : Type} {enc : TypeId × Value → H} {w : World} {v : Value} {d : DataW H} {p : List MemPlace} {base : Nat} (hv : Value.okWide Tryz.prog w .any base 22 v)
    (h : DataW.Trod enc Tryz.prog w 0 (fun _ => true) true 22 v d p) :
    ∃ (ps : List (List UInt8 × List UInt8)) (a : Option Addr) (c : Nat), v = .slice a ps.length c ∧ ReadsQ w v ps ∧ Sane v ∧ 2 * ps.length + totL ps ≤ Rows.uptoBulk d := by
  obtain ⟨a0, len, cap, rfl⟩ := okWide_slice Tryz.underlying22 hv
  obtain ⟨fuel, hf⟩ := h
  exact open_fl ⟨fuel, by simpa [Value.cells] using hf⟩
section
variable {H : Type} {enc : TypeId × Value → H} {P : Program} {w : World} {base : Nat} {spare : Nat → Bool} {held : Bool}
theorem trod_struct4 {t : TypeId} {f0 f1 f2 f3 : Field} {fuel : Nat} {cs : List Value} {x : DataW H × List MemPlace} (ht : P.underlying t = some (.struct #[f0, f1, f2, f3])) (h : DataW.trod enc P w base spare held fuel t cs = some x) :
    ∃ y0 y1 y2 y3 n, x = (.agg [y0.1, y1.1, y2.1, y3.1], y0.2 ++ (y1.2 ++ (y2.2 ++ y3.2))) ∧ DataW.trod enc P w base spare held n f0.type ((cs.drop f0.offset).take (P.cellsOf f0.type)) = some y0 ∧
      DataW.trod enc P w base spare held n f1.type ((cs.drop f1.offset).take (P.cellsOf f1.type)) = some y1 ∧ DataW.trod enc P w base spare held n f2.type ((cs.drop f2.offset).take (P.cellsOf f2.type)) = some y2 ∧
      DataW.trod enc P w base spare held n f3.type ((cs.drop f3.offset).take (P.cellsOf f3.type)) = some y3 := by
  obtain ⟨xs, n, _, rfl, hl, hlen, hf⟩ := DataW.trod_struct ht h
  match xs, hlen with
  | [y0, y1, y2, y3], _ => exact ⟨y0, y1, y2, y3, n, by simp, by simpa using hf 0 f0 rfl, by simpa using hf 1 f1 rfl, by simpa using hf 2 f2 rfl, by simpa using hf 3 f3 rfl⟩
end
section
variable {H : Type} {enc : TypeId × Value → H} {P : Program} {w : World} {base : Nat} {spare : Nat → Bool} {held : Bool}
theorem trod_struct12 {t : TypeId} {f0 f1 f2 f3 f4 f5 f6 f7 f8 f9 f10 f11 : Field} {fuel : Nat} {cs : List Value} {x : DataW H × List MemPlace} (ht : P.underlying t = some (.struct #[f0, f1, f2, f3, f4, f5, f6, f7, f8, f9, f10, f11])) (h : DataW.trod enc P w base spare held fuel t cs = some x) :
    ∃ y0 y1 y2 y3 y4 y5 y6 y7 y8 y9 y10 y11 n, DataW.trod enc P w base spare held n f0.type ((cs.drop f0.offset).take (P.cellsOf f0.type)) = some y0 ∧ DataW.trod enc P w base spare held n f1.type ((cs.drop f1.offset).take (P.cellsOf f1.type)) = some y1 ∧ DataW.trod enc P w base spare held n f2.type ((cs.drop f2.offset).take (P.cellsOf f2.type)) = some y2 ∧ DataW.trod enc P w base spare held n f3.type ((cs.drop f3.offset).take (P.cellsOf f3.type)) = some y3 ∧ DataW.trod enc P w base spare held n f4.type ((cs.drop f4.offset).take (P.cellsOf f4.type)) = some y4 ∧ DataW.trod enc P w base spare held n f5.type ((cs.drop f5.offset).take (P.cellsOf f5.type)) = some y5 ∧ DataW.trod enc P w base spare held n f6.type ((cs.drop f6.offset).take (P.cellsOf f6.type)) = some y6 ∧ DataW.trod enc P w base spare held n f7.type ((cs.drop f7.offset).take (P.cellsOf f7.type)) = some y7 ∧ DataW.trod enc P w base spare held n f8.type ((cs.drop f8.offset).take (P.cellsOf f8.type)) = some y8 ∧ DataW.trod enc P w base spare held n f9.type ((cs.drop f9.offset).take (P.cellsOf f9.type)) = some y9 ∧ DataW.trod enc P w base spare held n f10.type ((cs.drop f10.offset).take (P.cellsOf f10.type)) = some y10 ∧ DataW.trod enc P w base spare held n f11.type ((cs.drop f11.offset).take (P.cellsOf f11.type)) = some y11 := by
  obtain ⟨xs, n, _, rfl, hl, hlen, hf⟩ := DataW.trod_struct ht h
  match xs, hlen with
  | [y0, y1, y2, y3, y4, y5, y6, y7, y8, y9, y10, y11], _ => exact ⟨y0, y1, y2, y3, y4, y5, y6, y7, y8, y9, y10, y11, n, by simpa using hf 0 f0 rfl, by simpa using hf 1 f1 rfl, by simpa using hf 2 f2 rfl, by simpa using hf 3 f3 rfl, by simpa using hf 4 f4 rfl, by simpa using hf 5 f5 rfl, by simpa using hf 6 f6 rfl, by simpa using hf 7 f7 rfl, by simpa using hf 8 f8 rfl, by simpa using hf 9 f9 rfl, by simpa using hf 10 f10 rfl, by simpa using hf 11 f11 rfl⟩
end
theorem cellsI : Tryz.prog.cellsOf 3 = 1 := by kernel_rfl
theorem cellsB : Tryz.prog.cellsOf 4 = 1 := by kernel_rfl
set_option maxRecDepth 100000 in
/-- The reference's directives among the arguments. -/
theorem open_dv {H : Type} {enc : TypeId × Value → H} {w : World} {v : Value} {d : DataW H} {p : List MemPlace} {base : Nat} (hv : Value.okWide Tryz.prog w .any base 28 v)
    (h : DataW.Trod enc Tryz.prog w 0 (fun _ => true) true 28 v d p) : ∃ r : Dv, v = dvV r ∧ FitD r := by
  obtain ⟨cs, rfl, hsz⟩ : ∃ cs, v = .agg cs ∧ cs.size = 12 := by
    simp only [Value.okWide, Tryz.underlying28] at hv
    obtain ⟨cs, h1, h2, _⟩ := hv
    exact ⟨cs, h1, h2.trans (by kernel_rfl)⟩
  obtain ⟨c0, c1, c2, c3, c4, c5, c6, c7, c8, c9, c10, c11, rfl⟩ : ∃ c0 c1 c2 c3 c4 c5 c6 c7 c8 c9 c10 c11, cs = #[c0, c1, c2, c3, c4, c5, c6, c7, c8, c9, c10, c11] := by
    obtain ⟨l⟩ := cs
    have hl : l.length = 12 := by simpa using hsz
    match l, hl with
    | [a0, a1, a2, a3, a4, a5, a6, a7, a8, a9, a10, a11], _ => exact ⟨a0, a1, a2, a3, a4, a5, a6, a7, a8, a9, a10, a11, rfl⟩
  obtain ⟨fuel, hf⟩ := h
  have hf' : DataW.trod enc Tryz.prog w 0 (fun _ => true) true fuel 28 [c0, c1, c2, c3, c4, c5, c6, c7, c8, c9, c10, c11] = some (d, p) := by simpa [Value.cells] using hf
  obtain ⟨y0, y1, y2, y3, y4, y5, y6, y7, y8, y9, y10, y11, n, g0, g1, g2, g3, g4, g5, g6, g7, g8, g9, g10, g11⟩ := trod_struct12 Tryz.underlying28 hf'
  simp only [cellsI, cellsB, List.drop_zero, List.drop_succ_cons, List.take_succ_cons, List.take_zero] at g0 g1 g2 g3 g4 g5 g6 g7 g8 g9 g10 g11
  obtain ⟨b0, e0, _⟩ := DataW.trod_bool Tryz.underlying4 g0
  obtain ⟨b1, e1, _⟩ := DataW.trod_bool Tryz.underlying4 g1
  obtain ⟨b2, e2, _⟩ := DataW.trod_bool Tryz.underlying4 g2
  obtain ⟨b3, e3, _⟩ := DataW.trod_bool Tryz.underlying4 g3
  obtain ⟨b4, e4, _⟩ := DataW.trod_bool Tryz.underlying4 g4
  obtain ⟨b5, e5, _⟩ := DataW.trod_bool Tryz.underlying4 g5
  obtain ⟨b6, e6, _, w6⟩ := DataW.trod_int Tryz.underlying3 g6
  obtain ⟨b7, e7, _, w7⟩ := DataW.trod_int Tryz.underlying3 g7
  obtain ⟨b8, e8, _, w8⟩ := DataW.trod_int Tryz.underlying3 g8
  obtain ⟨b9, e9, _, w9⟩ := DataW.trod_int Tryz.underlying3 g9
  obtain ⟨b10, e10, _, w10⟩ := DataW.trod_int Tryz.underlying3 g10
  obtain ⟨b11, e11, _, w11⟩ := DataW.trod_int Tryz.underlying3 g11
  simp only [List.cons.injEq, and_true] at e0 e1 e2 e3 e4 e5 e6 e7 e8 e9 e10 e11
  subst e0 e1 e2 e3 e4 e5 e6 e7 e8 e9 e10 e11
  exact ⟨⟨b0, b1, b2, b3, b4, b5, b6, b7, b8, b9, b10, b11⟩, rfl, bounds_i64 w6, bounds_i64 w7, bounds_i64 w8, bounds_i64 w9, bounds_i64 w10, bounds_i64 w11⟩
section
variable {H : Type} {enc : TypeId × Value → H} {w : World} {base : Nat} {spare : Nat → Bool} {held : Bool}
set_option maxRecDepth 100000 in
theorem cells_tm {fuel : Nat} {cs : List Value} {x : DataW H × List MemPlace} (h : DataW.trod enc Tryz.prog w base spare held fuel 24 cs = some x) :
    ∃ o n d : Int, cs = [.int .i64 o, .int .i64 n, .int .i64 d] := by
  obtain ⟨xs, m, _, _, hl, hlen, hf⟩ := DataW.trod_struct Tryz.underlying24 h
  have ce : Tryz.prog.cellsOf 24 = 3 := by kernel_rfl
  have c1 : Tryz.prog.cellsOf 3 = 1 := by kernel_rfl
  rw [ce] at hl
  match cs, hl, xs, hlen with
  | [v0, v1, v2], _, [y0, y1, y2], _ =>
    have g0 := hf 0 _ rfl
    have g1 := hf 1 _ rfl
    have g2 := hf 2 _ rfl
    simp [c1] at g0 g1 g2
    obtain ⟨s0, e0, _, w0⟩ := DataW.trod_int Tryz.underlying3 g0
    obtain ⟨s1, e1, _, w1⟩ := DataW.trod_int Tryz.underlying3 g1
    obtain ⟨s2, e2, _, w2⟩ := DataW.trod_int Tryz.underlying3 g2
    simp only [List.cons.injEq, and_true] at e0 e1 e2
    exact ⟨s0, s1, s2, by rw [e0, e1, e2]⟩
set_option maxRecDepth 100000 in
theorem cells_mo {fuel : Nat} {cs : List Value} {x : DataW H × List MemPlace} (h : DataW.trod enc Tryz.prog w base spare held fuel 30 cs = some x) :
    ∃ o n : Int, cs = [.int .i64 o, .int .i64 n] := by
  obtain ⟨xs, m, _, _, hl, hlen, hf⟩ := DataW.trod_struct Tryz.underlying30 h
  have ce : Tryz.prog.cellsOf 30 = 2 := by kernel_rfl
  have c1 : Tryz.prog.cellsOf 3 = 1 := by kernel_rfl
  rw [ce] at hl
  match cs, hl, xs, hlen with
  | [v0, v1], _, [y0, y1], _ =>
    have g0 := hf 0 _ rfl
    have g1 := hf 1 _ rfl
    simp [c1] at g0 g1
    obtain ⟨s0, e0, _, w0⟩ := DataW.trod_int Tryz.underlying3 g0
    obtain ⟨s1, e1, _, w1⟩ := DataW.trod_int Tryz.underlying3 g1
    simp only [List.cons.injEq, and_true] at e0 e1
    exact ⟨s0, s1, by rw [e0, e1]⟩
set_option maxRecDepth 100000 in
theorem cells_mos {fuel : Nat} {cs : List Value} {x : DataW H × List MemPlace} (h : DataW.trod enc Tryz.prog w base spare held fuel 60 cs = some x) :
    ∃ n p m q : Int, cs = [.int .i64 n, .int .i64 p, .int .i64 m, .int .i64 q] := by
  obtain ⟨xs, m, _, _, hl, hlen, hf⟩ := DataW.trod_array Tryz.underlying60 h
  have ce : Tryz.prog.cellsOf 60 = 4 := by kernel_rfl
  have c1 : Tryz.prog.cellsOf 30 = 2 := by kernel_rfl
  rw [ce] at hl
  match cs, hl, xs, hlen with
  | [v0, v1, v2, v3], _, [y0, y1], _ =>
    have g0 := hf 0 (by decide)
    have g1 := hf 1 (by decide)
    simp [c1] at g0 g1
    obtain ⟨n, p, e0⟩ := cells_mo g0
    obtain ⟨m, q, e1⟩ := cells_mo g1
    simp only [List.cons.injEq, and_true] at e0 e1
    exact ⟨n, p, m, q, by rw [e0.1, e0.2, e1.1, e1.2]⟩
set_option maxRecDepth 100000 in
theorem cells_life {fuel : Nat} {cs : List Value} {x : DataW H × List MemPlace} (h : DataW.trod enc Tryz.prog w base spare held fuel 51 cs = some x) :
    ∃ m a l c k : Int, ∃ b : Bool, ∃ q : Int, cs = [.int .u16 m, .int .u16 a, .int .u16 l, .int .u8 c, .int .u8 k, .bool b, .int .i64 q] ∧ (0 ≤ m ∧ m ≤ 65535) ∧ (0 ≤ a ∧ a ≤ 65535) ∧ (0 ≤ l ∧ l ≤ 65535) ∧ (0 ≤ c ∧ c ≤ 255) ∧ (0 ≤ k ∧ k ≤ 255) := by
  obtain ⟨xs, m, _, _, hl, hlen, hf⟩ := DataW.trod_struct Tryz.underlying51 h
  have ce : Tryz.prog.cellsOf 51 = 7 := by kernel_rfl
  have c1 : Tryz.prog.cellsOf 5 = 1 := by kernel_rfl
  have c2 : Tryz.prog.cellsOf 4 = 1 := by kernel_rfl
  have c3 : Tryz.prog.cellsOf 49 = 1 := by kernel_rfl
  have c4 : Tryz.prog.cellsOf 3 = 1 := by kernel_rfl
  rw [ce] at hl
  match cs, hl, xs, hlen with
  | [v0, v1, v2, v3, v4, v5, v6], _, [y0, y1, y2, y3, y4, y5, y6], _ =>
    have g0 := hf 0 _ rfl
    have g1 := hf 1 _ rfl
    have g2 := hf 2 _ rfl
    have g3 := hf 3 _ rfl
    have g4 := hf 4 _ rfl
    have g5 := hf 5 _ rfl
    have g6 := hf 6 _ rfl
    simp [c1, c2, c3, c4] at g0 g1 g2 g3 g4 g5 g6
    obtain ⟨s0, e0, _, w0⟩ := DataW.trod_int Tryz.underlying49 g0
    obtain ⟨s1, e1, _, w1⟩ := DataW.trod_int Tryz.underlying49 g1
    obtain ⟨s2, e2, _, w2⟩ := DataW.trod_int Tryz.underlying49 g2
    obtain ⟨s3, e3, _, w3⟩ := DataW.trod_int Tryz.underlying5 g3
    obtain ⟨s4, e4, _, w4⟩ := DataW.trod_int Tryz.underlying5 g4
    obtain ⟨s5, e5, _⟩ := DataW.trod_bool Tryz.underlying4 g5
    obtain ⟨s6, e6, _, w6⟩ := DataW.trod_int Tryz.underlying3 g6
    simp only [List.cons.injEq, and_true] at e0 e1 e2 e3 e4 e5 e6
    exact ⟨s0, s1, s2, s3, s4, s5, s6, by rw [e0, e1, e2, e3, e4, e5, e6], bounds_u16 w0, bounds_u16 w1, bounds_u16 w2, bounds_u8 w3, bounds_u8 w4⟩
end
section
variable {H : Type} {enc : TypeId × Value → H} {w : World} {base : Nat} {v : Value} {d : DataW H} {p : List MemPlace}
set_option maxRecDepth 100000 in
theorem open_mo (hv : Value.okWide Tryz.prog w .any base 30 v) (h : DataW.Trod enc Tryz.prog w 0 (fun _ => true) true 30 v d p) : ∃ o n : Int, v = moV o n := by
  obtain ⟨cs, rfl⟩ : ∃ cs, v = .agg cs := by
    simp only [Value.okWide, Tryz.underlying30] at hv
    obtain ⟨cs, h1, _⟩ := hv
    exact ⟨cs, h1⟩
  obtain ⟨fuel, hf⟩ := h
  obtain ⟨o, n, hq⟩ := cells_mo (show DataW.trod enc Tryz.prog w 0 (fun _ => true) true fuel 30 cs.toList = some (d, p) by simpa [Value.cells] using hf)
  exact ⟨o, n, by rw [show cs = (cs.toList).toArray by simp, hq]⟩
set_option maxRecDepth 100000 in
theorem open_mos (hv : Value.okWide Tryz.prog w .any base 60 v) (h : DataW.Trod enc Tryz.prog w 0 (fun _ => true) true 60 v d p) : ∃ n p m q : Int, v = .agg #[.int .i64 n, .int .i64 p, .int .i64 m, .int .i64 q] := by
  obtain ⟨cs, rfl⟩ : ∃ cs, v = .agg cs := by
    simp only [Value.okWide, Tryz.underlying60] at hv
    obtain ⟨cs, h1, _⟩ := hv
    exact ⟨cs, h1⟩
  obtain ⟨fuel, hf⟩ := h
  obtain ⟨n, p, m, q, hq⟩ := cells_mos (show DataW.trod enc Tryz.prog w 0 (fun _ => true) true fuel 60 cs.toList = some (d, p) by simpa [Value.cells] using hf)
  exact ⟨n, p, m, q, by rw [show cs = (cs.toList).toArray by simp, hq]⟩
set_option maxRecDepth 100000 in
theorem open_life (hv : Value.okWide Tryz.prog w .any base 51 v) (h : DataW.Trod enc Tryz.prog w 0 (fun _ => true) true 51 v d p) : ∃ m a l c k : Int, ∃ b : Bool, ∃ q : Int, v = .agg #[.int .u16 m, .int .u16 a, .int .u16 l, .int .u8 c, .int .u8 k, .bool b, .int .i64 q] ∧ (0 ≤ m ∧ m ≤ 65535) ∧ (0 ≤ a ∧ a ≤ 65535) ∧ (0 ≤ l ∧ l ≤ 65535) ∧ (0 ≤ c ∧ c ≤ 255) ∧ (0 ≤ k ∧ k ≤ 255) := by
  obtain ⟨cs, rfl⟩ : ∃ cs, v = .agg cs := by
    simp only [Value.okWide, Tryz.underlying51] at hv
    obtain ⟨cs, h1, _⟩ := hv
    exact ⟨cs, h1⟩
  obtain ⟨fuel, hf⟩ := h
  obtain ⟨m, a, l, c, k, b, q, hq, hm, ha, hl, hc, hk⟩ := cells_life (show DataW.trod enc Tryz.prog w 0 (fun _ => true) true fuel 51 cs.toList = some (d, p) by simpa [Value.cells] using hf)
  exact ⟨m, a, l, c, k, b, q, by rw [show cs = (cs.toList).toArray by simp, hq], hm, ha, hl, hc, hk⟩
end
theorem cellsFs : Tryz.prog.cellsOf 22 = 1 := by kernel_rfl
theorem cellsTm : Tryz.prog.cellsOf 24 = 3 := by kernel_rfl
set_option maxRecDepth 100000 in
theorem open_stored {H : Type} {enc : TypeId × Value → H} {w : World} {v : Value} {d : DataW H} {p : List MemPlace} {base : Nat} (hv : Value.okWide Tryz.prog w .any base 26 v)
    (h : DataW.Trod enc Tryz.prog w 0 (fun _ => true) true 26 v d p) :
    ∃ (st : Int) (fa : Option Addr) (fc : Nat) (ps : Flds) (s r a : Int) (b : Bool), v = stV st (.slice fa ps.length fc) s r a b ∧ ReadsQ w (.slice fa ps.length fc) ps ∧ 2 * ps.length + totL ps ≤ Rows.uptoBulk d := by
  obtain ⟨cs, rfl, hsz⟩ : ∃ cs, v = .agg cs ∧ cs.size = 6 := by
    simp only [Value.okWide, Tryz.underlying26] at hv
    obtain ⟨cs, h1, h2, _⟩ := hv
    exact ⟨cs, h1, h2.trans (by kernel_rfl)⟩
  obtain ⟨c0, c1, c2, c3, c4, c5, rfl⟩ : ∃ c0 c1 c2 c3 c4 c5, cs = #[c0, c1, c2, c3, c4, c5] := by
    obtain ⟨l⟩ := cs
    have hl : l.length = 6 := by simpa using hsz
    match l, hl with
    | [a, b, c, d, e, f], _ => exact ⟨a, b, c, d, e, f, rfl⟩
  obtain ⟨fuel, hf⟩ := h
  have hf' : DataW.trod enc Tryz.prog w 0 (fun _ => true) true fuel 26 [c0, c1, c2, c3, c4, c5] = some (d, p) := by simpa [Value.cells] using hf
  obtain ⟨y0, y1, y2, y3, n, hx, g0, g1, g2, g3⟩ := trod_struct4 Tryz.underlying26 hf'
  simp only [cellsI, cellsB, cellsFs, cellsTm, List.drop_zero, List.drop_succ_cons, List.take_succ_cons, List.take_zero] at g0 g1 g2 g3
  obtain ⟨i0, e0, f0, _⟩ := DataW.trod_int Tryz.underlying3 g0
  obtain ⟨ps, fa, fc, rfl, rq, _, uq⟩ := open_fl ⟨n, g1⟩
  obtain ⟨s, r, a, e2⟩ := cells_tm g2
  obtain ⟨b3, e3, _⟩ := DataW.trod_bool Tryz.underlying4 g3
  simp only [List.cons.injEq, and_true] at e0 e2 e3
  simp only [Prod.mk.injEq] at hx
  have hb : Rows.uptoBulk d = Rows.uptoBulk y0.1 + (Rows.uptoBulk y1.1 + (Rows.uptoBulk y2.1 + (Rows.uptoBulk y3.1 + 0))) + 1 := by
    rw [hx.1]; simp only [Rows.uptoBulk, Rows.uptoBulkAll]
  refine ⟨i0, fa, fc, ps, s, r, a, b3, ?_, rq, by omega⟩
  rw [e0, e2.1, e2.2.1, e2.2.2, e3]
end Go.Proofs.YtieolalohindgaaGreatDoor
