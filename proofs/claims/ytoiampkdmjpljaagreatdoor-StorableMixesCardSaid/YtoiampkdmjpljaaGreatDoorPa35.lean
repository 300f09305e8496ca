import Derived.Test.YtoiampkdmjpljaaGreatDoorPa27
import Derived.Test.YtoiampkdmjpljaaGreatDoorPa34
import Derived.Test.YtoiampkdmjpljaaGreatDoorTie
import Derived.Test.YtoiampkdmjpljaaGreatDoorCards
import Derived.WalkKit
import Derived.ProofKit
import Derived.OpenShut
import Derived.LaidMore
import Derived.Lay
import Derived.SevenTiedAt
import Derived.Stop.Joined
import Derived.Below
import Derived.Stop.LaidErr
import Derived.Shelf.Vars
import Derived.Deep.DeepHandedRow
import Derived.Deep.SlicePairs
import Derived.Carry
/- StorablePasses, StorableReasons: the walks. -/
namespace Go.Proofs.YtoiampkdmjpljaaGreatDoor
open Go.RowKit

theorem lg_sum {u v : Value} {p q : Flds} (h : lgB [(u, p), (v, q)] = false) : (2 * p.length + totL p) + (2 * q.length + totL q) ≤ 4000 := by
  have h1 := of_decide_eq_false h
  have e : sumF [(u, p), (v, q)] = 0 + (2 * p.length + totL p) + (2 * q.length + totL q) := rfl
  omega
theorem fit_sum {p : Flds} (h : 2 * p.length + totL p ≤ 4100) : FitL p := ⟨by omega, fun x hx => by have := tot_mem hx; omega⟩
theorem lg_fits {u v : Value} {p q : Flds} (h : lgB [(u, p), (v, q)] = false) : FitL p ∧ FitL q := by
  have := lg_sum h
  exact ⟨fit_sum (by omega), fit_sum (by omega)⟩
set_option maxHeartbeats 4000000 in
set_option maxRecDepth 100000 in
theorem sb_passes_walk (n : Int) (w : World) (hE : EnvL w) :
    Calls Tryz.prog 4 #[.int .i64 n] w fun e w' => e = .returned (.bool true) ∧ Below w.heap.size w w' := by
  have HAw := Lib.hid (awake15_any w hE)
  have HP := Lib.hid (fun (w : World) => pass_any n w)
  clear hE
  by_cases h1 : 3 ≤ n
  · by_cases h2 : n ≤ 7
    · have e : (decide (3 ≤ n) && decide (n ≤ 7)) = true := by simp; omega
      rw [e] at HP
      clear e
      go_enter Tryz.func4, Tryz.ntmps4
      go_wp2_with fail
      refine HAw.out.mono ?_
      rintro e w1 ⟨rfl, hB1⟩
      go_wp2_with fail
      refine (HP.out _).mono ?_
      rintro e w2 ⟨rfl, rfl⟩
      go_wp2_with fail
      go_ret
      exact ⟨retB (by simp <;> omega), hB1⟩
    · have e : (decide (3 ≤ n) && decide (n ≤ 7)) = false := by simp; omega
      rw [e] at HP
      clear e
      go_enter Tryz.func4, Tryz.ntmps4
      go_wp2_with fail
      refine HAw.out.mono ?_
      rintro e w1 ⟨rfl, hB1⟩
      go_wp2_with fail
      refine (HP.out _).mono ?_
      rintro e w2 ⟨rfl, rfl⟩
      go_wp2_with fail
      go_ret
      exact ⟨retB (by simp <;> omega), hB1⟩
  · have e : (decide (3 ≤ n) && decide (n ≤ 7)) = false := by simp; omega
    rw [e] at HP
    clear e
    go_enter Tryz.func4, Tryz.ntmps4
    go_wp2_with fail
    refine HAw.out.mono ?_
    rintro e w1 ⟨rfl, hB1⟩
    go_wp2_with fail
    refine (HP.out _).mono ?_
    rintro e w2 ⟨rfl, rfl⟩
    go_wp2_with fail
    go_ret
    exact ⟨retB (by simp <;> omega), hB1⟩
set_option maxHeartbeats 16000000 in
set_option maxRecDepth 100000 in
theorem sb_reasons_walk (m : List UInt8) (qa : Option Addr) (qc : Nat) (q : Flds) (ra : Option Addr) (rc : Nat) (r : Flds) (s : Int) (w : World) (hE : EnvL w) (hq : ReadsQ w (.slice qa q.length qc) q) (hr : ReadsQ w (.slice ra r.length rc) r) (hbq : 2 * q.length + totL q ≤ 3000000) (hbr : 2 * r.length + totL r ≤ 3000000) :
    Calls Tryz.prog 3 #[caV m (.slice qa q.length qc) (.slice ra r.length rc) s] w fun e w' => e = .returned (.bool true) ∧ Below w.heap.size w w' := by
  have HS := Lib.hid (csS_new (m := m) s w 24 hq hr hE)
  have HLg := Lib.hid (fun (lv : Value) (w : World) (hr : ReadsF w lv [((.slice qa q.length qc), q), ((.slice ra r.length rc), r)]) => large15_any lv _ w hr (by simp) (by show 0 + (2 * q.length + totL q) + (2 * r.length + totL r) ≤ _; omega))
  have HAw := Lib.hid (fun (w : World) (hE : EnvL w) => awake15_any w hE)
  clear hE hq hr hbq hbr
  generalize hlg : lgB [((.slice qa q.length qc), q), ((.slice ra r.length rc), r)] = lg at *
  cases lg with
  | true =>
    clear hlg
    go_enter Tryz.func3, Tryz.ntmps3
    go_upto_region 1 with fail
    change Code.wp _ _ _ _ (w.alloc (.cells (caC m (.slice qa q.length qc) (.slice ra r.length rc) s) 24))
    generalize (w.alloc (.cells (caC m (.slice qa q.length qc) (.slice ra r.length rc) s) 24)) = W at *
    obtain ⟨c0, c1, c2, c3, _⟩ := csS_all HS.out
    go_wp2_with fail
    refine (HLg.out _ _ (readsF_two _ HS.out.rq HS.out.rr)).mono ?_
    rintro e w1 ⟨rfl, hB1⟩
    have HS1 := Lib.hid ((HS.out.below (below_new _ _)).below hB1)
    clear c0 c1 c2 c3 hB1
    obtain ⟨c0, c1, c2, c3, _⟩ := csS_all HS1.out
    go_wp2_with fail
    refine (HLg.out _ _ (readsF_two _ HS1.out.rq HS1.out.rr)).mono ?_
    rintro e w2 ⟨rfl, hB2⟩
    have HS2 := Lib.hid ((HS1.out.below (below_new _ _)).below hB2)
    go_wp2_with fail
    go_ret
    exact ⟨rfl, HS2.out.b⟩
  | false =>
    obtain ⟨hfq, hfr⟩ := lg_fits hlg
    clear hlg
    obtain ⟨dd, hdd⟩ := oneIs_ex (allL r nDA)
    obtain ⟨de, hde⟩ := oneIs_ex (allL r nEX)
    obtain ⟨dl, hdl⟩ := oneIs_ex (allL r nLM)
    have HO1 := Lib.hid (fun (w : World) (hq : ReadsQ w (.slice qa q.length qc) q) (hr : ReadsQ w (.slice ra r.length rc) r) (hE : EnvL w) => of15_any m qa qc q ra rc r s dd de dl w hq hfq hr hfr hdd hde hdl hE)
    have HO2 := Lib.hid (fun (w : World) (hq : ReadsQ w (.slice qa q.length qc) q) (hr : ReadsQ w (.slice ra r.length rc) r) => refOf15_any m (.slice qa q.length qc) q s (.slice ra r.length rc) r dd de dl w hq hfq hr hfr hdd hde hdl)
    clear hfq hfr hdd hde hdl
    generalize storV m q r s dd de dl = res at *
    go_enter Tryz.func3, Tryz.ntmps3
    go_upto_region 1 with fail
    change Code.wp _ _ _ _ (w.alloc (.cells (caC m (.slice qa q.length qc) (.slice ra r.length rc) s) 24))
    generalize (w.alloc (.cells (caC m (.slice qa q.length qc) (.slice ra r.length rc) s) 24)) = W at *
    obtain ⟨c0, c1, c2, c3, _⟩ := csS_all HS.out
    go_wp2_with fail
    refine (HLg.out _ _ (readsF_two _ HS.out.rq HS.out.rr)).mono ?_
    rintro e w1 ⟨rfl, hB1⟩
    have HS1 := Lib.hid ((HS.out.below (below_new _ _)).below hB1)
    clear c0 c1 c2 c3 hB1
    go_wp2_with fail
    refine (HAw.out _ HS1.out.e).mono ?_
    rintro e w2 ⟨rfl, hB2⟩
    have HS2 := Lib.hid (HS1.out.below hB2)
    clear hB2 HS1 HS
    go_upto_region 3 with fail
    have hS0 := HS2.out.below (Below.refl _ _).drew
    clear HS2
    generalize q.length = nq at *
    generalize r.length = nr at *
    refine wp_region_held_drew (S := (fun w' => w'.cell? ⟨w.heap.size, 0, none⟩ = some (.string (strB m)) ∧ w'.cell? ⟨w.heap.size, 1, none⟩ = some (.slice qa nq qc) ∧ w'.cell? ⟨w.heap.size, 2, none⟩ = some (.slice ra nr rc) ∧ w'.cell? ⟨w.heap.size, 3, none⟩ = some (.int .i64 s) ∧ CsS w.heap.size m (.slice qa nq qc) q (.slice ra nr rc) r s w w')) (by kernel_rfl) (csS_all hS0) (fun hHeld => ?_)
    generalize w2.drew = V0 at *
    refine wpAnyH_take (i := 0) (oi := { dst := some 19, op := _, type := _, pos := _, after := _, guard := _ }) (v := caV m (.slice qa nq qc) (.slice ra nr rc) s) rfl (by kernel_rfl) (by kernel_rfl) (by kernel_rfl) (fun _ _ _ h => h) (Or.inl ⟨by rfl, ?_⟩) (by assumption) ?_
    focus (intro w hSw; (try dsimp only at hSw); first | (go_simp; done) | (go_simp; with_reducible rfl))
    (try simp only [Act.put, List.setIfInBounds_toArray, List.set_cons_zero, List.set_cons_succ])
    refine wpAnyH_take (i := 2) (oi := { dst := some 21, op := _, type := _, pos := _, after := _, guard := _ }) (v := ?_) rfl (by kernel_rfl) (by kernel_rfl) (by kernel_rfl) (fun _ _ _ h => h) (Or.inl ⟨by rfl, ?_⟩) (by assumption) ?_
    rotate_left
    focus (intro w hSw; (try dsimp only at hSw); first | (go_simp; done) | (go_simp; with_reducible rfl))
    (try simp only [Act.put, List.setIfInBounds_toArray, List.set_cons_zero, List.set_cons_succ])
    refine wpAnyH_take (i := 3) (oi := { dst := some 22, op := _, type := _, pos := _, after := _, guard := _ }) (v := ?_) rfl (by kernel_rfl) (by kernel_rfl) (by kernel_rfl) (fun _ _ _ h => h) (Or.inl ⟨by rfl, ?_⟩) (by assumption) ?_
    rotate_left
    focus (intro w hSw; (try dsimp only at hSw); first | (go_simp; done) | (go_simp; with_reducible rfl))
    (try simp only [Act.put, List.setIfInBounds_toArray, List.set_cons_zero, List.set_cons_succ])
    refine wpAnyH_take (i := 4) (oi := { dst := some 23, op := _, type := _, pos := _, after := _, guard := _ }) (v := ?_) rfl (by kernel_rfl) (by kernel_rfl) (by kernel_rfl) (fun _ _ _ h => h) (Or.inl ⟨by rfl, ?_⟩) (by assumption) ?_
    rotate_left
    focus (intro w hSw; (try dsimp only at hSw); first | (go_simp; done) | (go_simp; with_reducible rfl))
    (try simp only [Act.put, List.setIfInBounds_toArray, List.set_cons_zero, List.set_cons_succ])
    refine wpAnyH_take (i := 5) (oi := { dst := some 24, op := _, type := _, pos := _, after := _, guard := _ }) (v := ?_) rfl (by kernel_rfl) (by kernel_rfl) (by kernel_rfl) (fun _ _ _ h => h) (Or.inl ⟨by rfl, ?_⟩) (by assumption) ?_
    rotate_left
    focus (intro w hSw; (try dsimp only at hSw); first | (go_simp; done) | (go_simp; with_reducible rfl))
    (try simp only [Act.put, List.setIfInBounds_toArray, List.set_cons_zero, List.set_cons_succ])
    refine wpAnyH_take (i := 6) (oi := { dst := some 25, op := _, type := _, pos := _, after := _, guard := _ }) (v := ?_) rfl (by kernel_rfl) (by kernel_rfl) (by kernel_rfl) (fun _ _ _ h => h) (Or.inl ⟨by rfl, ?_⟩) (by assumption) ?_
    rotate_left
    focus (intro w hSw; (try dsimp only at hSw); first | (go_simp; done) | (go_simp; with_reducible rfl))
    (try simp only [Act.put, List.setIfInBounds_toArray, List.set_cons_zero, List.set_cons_succ])
    refine wpAnyH_take (i := 7) (oi := { dst := some 26, op := _, type := _, pos := _, after := _, guard := _ }) (v := ?_) rfl (by kernel_rfl) (by kernel_rfl) (by kernel_rfl) (fun _ _ _ h => h) (Or.inl ⟨by rfl, ?_⟩) (by assumption) ?_
    rotate_left
    focus (intro w hSw; (try dsimp only at hSw); first | (go_simp; done) | (go_simp; with_reducible rfl))
    (try simp only [Act.put, List.setIfInBounds_toArray, List.set_cons_zero, List.set_cons_succ])
    refine wpAnyH_take (i := 8) (oi := { dst := some 27, op := _, type := _, pos := _, after := _, guard := _ }) (v := ?_) rfl (by kernel_rfl) (by kernel_rfl) (by kernel_rfl) (fun _ _ _ h => h) (Or.inl ⟨by rfl, ?_⟩) (by assumption) ?_
    rotate_left
    focus (intro w hSw; (try dsimp only at hSw); first | (go_simp; done) | (go_simp; with_reducible rfl))
    (try simp only [Act.put, List.setIfInBounds_toArray, List.set_cons_zero, List.set_cons_succ])
    refine wpAnyH_take (i := 9) (oi := { dst := some 28, op := _, type := _, pos := _, after := _, guard := _ }) (v := ?_) rfl (by kernel_rfl) (by kernel_rfl) (by kernel_rfl) (fun _ _ _ h => h) (Or.inl ⟨by rfl, ?_⟩) (by assumption) ?_
    rotate_left
    focus (intro w hSw; (try dsimp only at hSw); first | (go_simp; done) | (go_simp; with_reducible rfl))
    (try simp only [Act.put, List.setIfInBounds_toArray, List.set_cons_zero, List.set_cons_succ])
    refine wpAnyH_ready (rs := [1]) (by kernel_rfl) (by simp) ?_
    refine AllReadyH.cons (o := { dst := some 20, op := _, type := _, pos := _, after := _, guard := _ }) rfl (fun K hK => ?_) AllReadyH.nil
    go_simp
    refine (HO1.out _ hS0.rq hS0.rr hS0.e).mono ?_
    rintro e V1 ⟨rfl, hBc⟩
    have hS1 := hS0.below hBc
    refine hK.out _ _ (csS_all hS1) (fun hH1 => ?_)
    clear hK K hBc hS0 hHeld
    (try simp only [Act.put, List.setIfInBounds_toArray, List.set_cons_zero, List.set_cons_succ])
    refine wpAnyH_ready (rs := [10]) (by kernel_rfl) (by simp) ?_
    refine AllReadyH.cons (o := { dst := some 29, op := _, type := _, pos := _, after := _, guard := _ }) rfl (fun K hK => ?_) AllReadyH.nil
    go_simp
    refine (HO2.out _ hS1.rq hS1.rr).mono ?_
    rintro e V2 ⟨rfl, hBc⟩
    have hS2 := hS1.below hBc
    refine hK.out _ _ (csS_all hS2) (fun hH2 => ?_)
    clear hK K hBc hS1 hH1
    (try simp only [Act.put, List.setIfInBounds_toArray, List.set_cons_zero, List.set_cons_succ])
    refine wpAnyH_take (i := 11) (oi := { dst := some 30, op := _, type := _, pos := _, after := _, guard := _ }) (v := ?_) rfl (by kernel_rfl) (by kernel_rfl) (by kernel_rfl) (fun _ _ _ h => h) (Or.inl ⟨by rfl, ?_⟩) (by assumption) ?_
    rotate_left
    focus (intro w hSw; (try dsimp only at hSw); first | (go_simp; done) | (go_simp; with_reducible rfl))
    (try simp only [Act.put, List.setIfInBounds_toArray, List.set_cons_zero, List.set_cons_succ])
    refine wpAnyH_take (i := 12) (oi := { dst := some 2, op := _, type := _, pos := _, after := _, guard := _ }) (v := ?_) rfl (by kernel_rfl) (by kernel_rfl) (by kernel_rfl) (fun _ _ _ h => h) (Or.inl ⟨by rfl, ?_⟩) (by assumption) ?_
    rotate_left
    focus (intro w hSw; (try dsimp only at hSw); first | (go_simp; done) | (go_simp; with_reducible rfl))
    (try simp only [Act.put, List.setIfInBounds_toArray, List.set_cons_zero, List.set_cons_succ])
    refine wpAnyH_done (by kernel_rfl) ?_ _
    (try simp only [Exit.then])
    (try go_wp2_with fail)
    go_ret
    exact ⟨retB (by simp), hS2.b⟩
end Go.Proofs.YtoiampkdmjpljaaGreatDoor

/- What every row of layer 15 shares: the program's knob, the start that lays the nine listed variables, what the walks ask of a world, and the row's last step. -/
namespace Go.Proofs.YtoiampkdmjpljaaGreatDoor
open Go.ChangeShapes Go.WideShapes Go.ChangeAt Go.RowKit

theorem own : ownKnob Tryz.prog.godebug = none := by kernel_rfl
def laidA : List (String × DataW Unit) := Rows.storableReasonsRow.laid
theorem laid_plainA (w : World) : laidMetH Tryz.prog laidA w = laidMet Tryz.prog laidA w := MakeChecks.laidMetH_plain _ _ _ (by kernel_rfl)
set_option maxRecDepth 100000 in
theorem laid_metA (os : Os) (args : Array Value) : laidMetH Tryz.prog laidA ((World.laidAll Tryz.prog os laidA).forCall (fun _ _ => 0) ⟨#[], args, []⟩).memory := by
  rw [laid_plainA]; exact laidMet_laidAll _ (by kernel_rfl) (by kernel_rfl)
/-- An array of strings that reads as a list of strings holds them. -/
theorem cells_of_strs {H : Type} {enc : TypeId × Value → H} {P : Program} {w : World} {base : Nat} {sp : Nat → Bool} {held : Bool} {fuel : Nat} {t e : TypeId} {n : Nat} {cs : List Value} {ls : List (List UInt8)} {p : List MemPlace}
    (ht : P.underlying t = some (.array n e)) (he : P.underlying e = some .string) (hce : P.cellsOf e = 1) (hct : P.cellsOf t = n)
    (h : DataW.trod enc P w base sp held fuel t cs = some (.agg (ls.map fun l => .lit (.string l)), p)) : cs = ls.map fun l => Value.string (strB l) := by
  cases fuel with
  | zero => simp [DataW.trod] at h
  | succ fuel =>
    simp only [DataW.trod, ht, hce, hct, Nat.mul_one] at h
    split at h
    · rename_i hl
      obtain ⟨xs, hm, hx⟩ := Option.map_eq_some_iff.1 h
      have hxs : xs.map (·.1) = ls.map fun l => (DataW.lit (.string l) : DataW H) := by
        have := congrArg Prod.fst hx
        simpa using this
      have hxl : xs.length = n := by simpa using Lib.mapM_length hm
      have hzl : ls.length = n := by
        have := congrArg List.length hxs
        simp at this
        omega
      apply List.ext_getElem?
      intro i
      by_cases hi : i < n
      · obtain ⟨b, hb, hf⟩ := Lib.mapM_at hm i i (by simp [hi])
        obtain ⟨z, hc, hz, _⟩ := DataW.trod_string he hf
        have h1 : cs[i]? = some (.string z) := by
          have := congrArg (·[0]?) hc
          simpa [List.getElem?_take, List.getElem?_drop] using this
        have h2 : (xs.map (·.1))[i]? = some (DataW.lit (.string z.data.toList) : DataW H) := by simp [hb, hz]
        rw [hxs] at h2
        simp only [List.getElem?_map, Option.map_eq_some_iff, DataW.lit.injEq, Lit.string.injEq] at h2
        obtain ⟨z', hz', e⟩ := h2
        rw [h1]
        simp [hz', e, strB_of]
      · rw [List.getElem?_eq_none (by omega), List.getElem?_eq_none (by simp; omega)]
    · cases h
theorem strs_of_head {P : Program} {W : World} {name : String} {ls : List (List UInt8)} {rest : List (String × DataW Unit)} {g : Nat} {t e : TypeId} {n : Nat}
    (hg : P.globalNamed name = some g) (hty : (P.globals[g]?).map (·.type) = some t) (ht : P.underlying t = some (.array n e)) (he : P.underlying e = some .string) (hce : P.cellsOf e = 1) (hct : P.cellsOf t = n)
    (h : laidMet P ((name, .agg (ls.map fun l => .lit (.string l))) :: rest) W) : W.var? P name = some (ls.map fun l => Value.string (strB l)).toArray := by
  obtain ⟨ps, ⟨g', t', cs, fuel, p, q, hg', ht', hvar, hd, _, _⟩, _⟩ := h
  obtain rfl := Option.some.inj (hg.symm.trans hg')
  obtain rfl := Option.some.inj (hty.symm.trans ht')
  rw [hvar, ← cells_of_strs ht he hce hct hd]
theorem tTab : (Tryz.prog.globals[(7 : Nat)]?).map (·.type) = some 212 := by kernel_rfl
theorem tMon : (Tryz.prog.globals[(1 : Nat)]?).map (·.type) = some 164 := by kernel_rfl
theorem tDay : (Tryz.prog.globals[(2 : Nat)]?).map (·.type) = some 167 := by kernel_rfl
theorem eTab : (Rows.laid_internal_strconv_uint64pow10 : DataW Unit) = Lib.tabData .u64 Lib.pow10Tab := by rfl
theorem eMon : (Rows.laid_quayside_httpdate_monthNames : DataW Unit) = .agg ([moS 1, moS 2, moS 3, moS 4, moS 5, moS 6, moS 7, moS 8, moS 9, moS 10, moS 11, moS 12].map fun l => .lit (.string l)) := by rfl
theorem eDay : (Rows.laid_quayside_httpdate_weekdayNames : DataW Unit) = .agg ([wdS 0, wdS 1, wdS 2, wdS 3, wdS 4, wdS 5, wdS 6].map fun l => .lit (.string l)) := by rfl
theorem tab_of {W : World} {rest : List (String × DataW Unit)} (h : laidMet Tryz.prog (("internal/strconv.uint64pow10", Rows.laid_internal_strconv_uint64pow10) :: rest) W) : Lib.TabIs Tryz.prog W "internal/strconv.uint64pow10" .u64 Lib.pow10Tab := by
  rw [eTab] at h
  exact Lib.tabIs_of_head gTab tTab Tryz.underlying212 Tryz.underlying191 (by kernel_rfl) (by kernel_rfl) h
theorem mon_of {W : World} {rest : List (String × DataW Unit)} (h : laidMet Tryz.prog (("quayside/httpdate.monthNames", Rows.laid_quayside_httpdate_monthNames) :: rest) W) : W.var? Tryz.prog "quayside/httpdate.monthNames" = some monA := by
  rw [eMon] at h
  exact strs_of_head gMon tMon Tryz.underlying164 Tryz.underlying9 (by kernel_rfl) (by kernel_rfl) h
theorem day_of {W : World} {rest : List (String × DataW Unit)} (h : laidMet Tryz.prog (("quayside/httpdate.weekdayNames", Rows.laid_quayside_httpdate_weekdayNames) :: rest) W) : W.var? Tryz.prog "quayside/httpdate.weekdayNames" = some dayA := by
  rw [eDay] at h
  exact strs_of_head gDay tDay Tryz.underlying167 Tryz.underlying9 (by kernel_rfl) (by kernel_rfl) h
theorem gES : Tryz.prog.globalNamed "strconv.ErrSyntax" = some 3 := by kernel_rfl
theorem gESType : (Tryz.prog.globals[(3 : Nat)]?).map (·.type) = some 39 := by kernel_rfl
theorem star : "*" ++ "errors.errorString" = "*errors.errorString" := by decide
theorem rowES (u : TypeId) (h : Tryz.prog.typeName? 3 u = some "*errors.errorString") : u = 208 :=
  typeName_ptr_named (nm := "errors.errorString") (by rw [star]; kernel_rfl) (by kernel_rfl) (by decide) u (by rw [star]; exact h)
theorem envP_of {W : World} (hL : laidMetH Tryz.prog laidA W) : EnvP W := by
  rw [laid_plainA] at hL
  have hT := hL.tail.tail.tail.tail.tail
  obtain ⟨a, s, hv, -, -, -⟩ := laid_sentinel (text := [105, 110, 118, 97, 108, 105, 100, 32, 115, 121, 110, 116, 97, 120]) hT gES gESType Tryz.underlying39 rowES Tryz.underlying208 Tryz.underlying210 rfl rfl Tryz.underlying9 (by kernel_rfl) (by kernel_rfl)
  have h0 := World.var?_cell gES hv 0
  exact ⟨⟨tab_of hL.tail.tail, mon_of hT.tail.tail, day_of hT.tail⟩, _, by simpa using h0, Or.inr ⟨_, _, rfl⟩⟩
theorem max_len {W : World} (h : W.ShapedOpen Tryz.prog) : ∃ m, W.cell? ⟨0, 0, none⟩ = some (.int .i64 m) :=
  cell_of_shapedOpen_int (P := Tryz.prog) (g := 0) (t := 3) (zero := #[.int .i64 0]) h (of_decide_eq_true (by kernel_rfl)) (by kernel_rfl) rfl (by kernel_rfl) (by kernel_rfl) Tryz.underlying3
/-- What the walks ask of a world holds where a row's call begins. -/
theorem has_max {W : World} (hsh : W.ShapedOpen Tryz.prog) : MaxIs W := max_len hsh
theorem env_l {W : World} (hL : laidMetH Tryz.prog laidA W) (hsh : W.ShapedOpen Tryz.prog) : EnvL W := ⟨has_max hsh, envP_of hL⟩
section
variable {H : Type} {enc : TypeId × Value → H}
/-- The witness of a row at a world of one's own making whose shape is shown by other means. -/
theorem witness_row_shaped {C : Checked} {os : Os} {f : FuncId} {fn : Func} {s : OpenSpec} {conds : List PathCond} {apart : Bool} {laid : List (String × DataW Unit)} (modest : Bool) (w0 : World) (args : Array Value) (hos : w0.os = os)
    (hsh : (w0.forCall (fun _ _ => 0) ⟨#[], args, []⟩).Shaped C.prog)
    (hok : Input.okWideB C.prog (w0.forCall (fun _ _ => 0) ⟨#[], args, []⟩) f ⟨#[], args, []⟩ = true)
    (hrow : s.preRow enc C.prog fn conds apart laid (w0.forCall (fun _ _ => 0) ⟨#[], args, []⟩).memory args) :
    ∃ (w : World) (tape : Tape) (i : Input), w.os = os ∧ (w.forCall tape i).Shaped C.prog ∧ i.vars = [] ∧ Input.okWide C.prog (w.forCall tape i) .any w.heap.size f i ∧
      s.preRow enc C.prog fn conds apart laid (w.forCall tape i).memory i.args ∧ ({ modest := modest } : Assume).holds C.prog (lone (Frame.enter C.prog f i.args .normal) [] (w.forCall tape i)) :=
  ⟨w0, fun _ _ => 0, ⟨#[], args, []⟩, hos, hsh, (Input.okWide_of_okWideB (base := 0) hok).1, (Input.okWide_of_okWideB hok).2, hrow, by
    simp only [Assume.holds]
    exact ⟨by simp, by simp, fun _ => Modest.zero, by simp, by simp⟩⟩
end
section
variable {H : Type} {enc : TypeId × Value → H} {P : Program}
/-- The row's last step from 'Below': what was there when the call began is as it was; new blocks may have come. -/
theorem post_below {f : Func} {s : ChangeSpec} {apart fresh handsOn again : Bool} {W W' : World} {args : Array Value} {v : Value} {ds gs : List (DataW H)} {before pa pv : List MemPlace}
    (hW : DataW.Whole enc P f.params.toList s.vars apart W args.toList ds gs before)
    (hres : ∀ (b : Nat) (sp : Nat → Bool) (hd : Bool), DataW.TrodAll enc P W' b sp hd f.resultTypes.toList (v.resultList f.resultTypes.size) (s.fn H (ds ++ gs)).results [])
    (hargs : ∀ sp : Nat → Bool, (∀ p ∈ before, sp p.block = true) → DataW.TrodAll enc P W' 0 sp true f.params.toList args.toList (s.fn H (ds ++ gs)).args pa)
    (hvars : ∀ sp : Nat → Bool, (∀ p ∈ before, sp p.block = true) → DataW.TrodVars enc P W' sp s.vars (s.fn H (ds ++ gs)).vars pv)
    (hps : before = pa ++ pv) (hb : Below W.heap.size W W')
    (hok : ∀ (j : Nat) (t : TypeId) (r : Value), f.resultTypes[j]? = some t → (v.resultList f.resultTypes.size)[j]? = some r → Value.okWide P W' .any 0 t r) :
    s.post enc P f apart fresh handsOn again W args v W' := by
  have lt : ∀ p ∈ before, p.block < W.heap.size := fun p hp => hW.lt p hp
  have old : ∀ p ∈ before, (fun b => decide (b < W.heap.size)) p.block = true := fun p hp => by simpa using lt p hp
  refine ⟨ds, gs, before, [], pa, pv, hW, hres _ _ _, hargs _ old, hvars _ old, World.keptBut_mono (fun p hp => ⟨hp, ?_⟩) (hb.frame (· ∈ before)), fun _ => ?_⟩
  · rw [hps, List.mem_append] at hp
    exact Or.inr hp
  · obtain ⟨_, _, _, _, _, hz, hn⟩ := hW
    refine ⟨hok, _, _, ([] ++ pa) ++ pv, ⟨[] ++ pa, pv, trodAll_append (hargs _ (fun _ _ => rfl)) (hres _ _ _), hvars _ (fun _ _ => rfl), rfl, ?_, ?_⟩, ?_⟩
    · intro b off hp
      have hin : MemPlace.cell b off ∈ before := by rw [hps]; simpa using hp
      rw [hb.frozen (lt _ hin)]
      exact hz b off hin
    · intro ha
      have := hn ha
      rw [hps] at this
      simpa using this
    · intro p hp _
      rw [hps]
      simpa using hp
end
end Go.Proofs.YtoiampkdmjpljaaGreatDoor

/- A case, a slice of the reference's fields, texts and flags among the arguments, opened. -/
namespace Go.Proofs.YtoiampkdmjpljaaGreatDoor
open Go.ChangeShapes Go.WideShapes Go.ChangeAt Go.RowKit
open Go.ChangeMaps (shut_string open_string)

theorem laidOut : laidOutB Tryz.prog = true := by kernel_rfl
theorem bulkL_part {H : Type} {d : DataW H} {l : List (DataW H)} (h : d ∈ l) : Rows.uptoBulk d ≤ Rows.uptoBulkAll l := by
  induction l with
  | nil => cases h
  | cons x r ih =>
    simp only [Rows.uptoBulkAll]
    rcases List.mem_cons.1 h with e | e
    · subst e; omega
    · have := ih e; omega
theorem bulkL_bound {H : Type} {l : List (DataW H)} (hk : Rows.uptoSmall H l = true) : Rows.uptoBulkAll l ≤ 1048576 := of_decide_eq_true hk
theorem bulkL_elems {H : Type} (elems spare : List (DataW H)) : Rows.uptoBulkAll elems ≤ Rows.uptoBulk (.slice elems spare) := by
  simp only [Rows.uptoBulk]; omega
theorem bulkL_pairs {H : Type} (q : Nat → ByteArray × ByteArray) (D0 D1 : Nat → DataW H) : ∀ L : List Nat, (∀ i ∈ L, D0 i = .lit (.string (q i).1.data.toList) ∧ D1 i = .lit (.string (q i).2.data.toList)) →
    3 * L.length + totL (L.map fun i => ((q i).1.data.toList, (q i).2.data.toList)) ≤ Rows.uptoBulkAll (L.map fun i => DataW.agg [D0 i, D1 i])
  | [], _ => by simp [totL]
  | i :: r, h => by
    have ih := bulkL_pairs q D0 D1 r (fun j hj => h j (List.mem_cons_of_mem _ hj))
    obtain ⟨e0, e1⟩ := h i (List.mem_cons_self ..)
    rw [List.map_cons, List.map_cons, Rows.uptoBulkAll]
    have e : Rows.uptoBulk (DataW.agg [D0 i, D1 i]) = (q i).1.data.toList.length + 1 + ((q i).2.data.toList.length + 1 + 0) + 1 := by
      rw [e0, e1]; simp only [Rows.uptoBulk, Rows.uptoBulkAll]
    have e2 : totL (((q i).1.data.toList, (q i).2.data.toList) :: r.map fun i => ((q i).1.data.toList, (q i).2.data.toList)) = (q i).1.data.toList.length + (q i).2.data.toList.length + totL (r.map fun i => ((q i).1.data.toList, (q i).2.data.toList)) := rfl
    rw [e2, e, List.length_cons]
    omega
set_option maxRecDepth 100000 in
/-- A slice of the reference's fields among the arguments. -/
theorem open_fl {H : Type} {enc : TypeId × Value → H} {w : World} {v : Value} {d : DataW H} {p : List MemPlace} (h : ∃ fuel, DataW.trod enc Tryz.prog w 0 (fun _ => true) true fuel 22 [v] = some (d, p)) :
    ∃ (ps : List (List UInt8 × List UInt8)) (a : Option Addr) (c : Nat), v = .slice a ps.length c ∧ ReadsQ w v ps ∧ Sane v ∧ 2 * ps.length + totL ps ≤ Rows.uptoBulk d := by
  obtain ⟨fuel, hf⟩ := h
  rcases Go.Deep.open_slice_pairs Tryz.underlying22 Tryz.underlying32 (by kernel_rfl) rfl rfl (by kernel_rfl) (by kernel_rfl) hf with ⟨hcs, hx⟩ | ⟨a, len, cap, m, n, V0, V1, D0, D1, P0, P1, hcs, _, hl, hm, hmm, hx, hall⟩
  · simp only [List.cons.injEq, and_true] at hcs
    subst hcs
    exact ⟨[], none, 0, rfl, ⟨none, 0, rfl, fun j l h => by simp at h⟩, fun a n c e => by cases e; exact ⟨Nat.le_refl _, fun _ => rfl⟩, by simp [totL]⟩
  · simp only [List.cons.injEq, and_true] at hcs
    subst hcs
    simp only [Prod.mk.injEq] at hx
    obtain ⟨rfl, _⟩ := hx
    simp only [if_true] at hmm
    subst hmm
    have each : ∀ i, i < len → ∃ q : ByteArray × ByteArray, V0 i = .string q.1 ∧ V1 i = .string q.2 ∧ D0 i = .lit (.string q.1.data.toList) ∧ D1 i = .lit (.string q.2.data.toList) := by
      intro i hi
      obtain ⟨_, _, t0, t1⟩ := hall i (by omega)
      obtain ⟨s0, e0, f0, _⟩ := DataW.trod_string Tryz.underlying9 t0
      obtain ⟨s1, e1, f1, _⟩ := DataW.trod_string Tryz.underlying9 t1
      simp only [List.cons.injEq, and_true, Prod.mk.injEq] at e0 e1 f0 f1
      exact ⟨(s0, s1), e0, e1, f0.1, f1.1⟩
    obtain ⟨q, hq⟩ := Go.Deep.choose_lt each
    have hlen : ((List.range len).map fun i => ((q i).1.data.toList, (q i).2.data.toList)).length = len := by simp
    have hbk := bulkL_pairs (H := H) q D0 D1 (List.range len) (fun i hi => ⟨(hq i (List.mem_range.mp hi)).2.2.1, (hq i (List.mem_range.mp hi)).2.2.2⟩)
    rw [List.length_range] at hbk
    refine ⟨(List.range len).map fun i => ((q i).1.data.toList, (q i).2.data.toList), some a, m, by rw [hlen], ⟨some a, m, by rw [hlen], fun j l hj => ?_⟩, fun a' n' c' e => by cases e; exact ⟨hl, fun h => by cases h⟩, ?_⟩
    · have hjl : j < len := by have := (List.getElem?_eq_some_iff.mp hj).1; omega
      have hj' : ((q j).1.data.toList, (q j).2.data.toList) = l := by
        rw [List.getElem?_map, List.getElem?_range hjl] at hj
        exact Option.some.inj hj
      obtain ⟨c0, c1, _, _⟩ := hall j (by omega)
      obtain ⟨v0, v1, _, _⟩ := hq j hjl
      obtain ⟨z0, _, _, _⟩ := hall 0 (by omega)
      obtain ⟨b, off, spot⟩ := a
      have hspot : spot = none := by simpa [Addr.add] using World.cell?_spot z0
      subst hspot
      have hlt : b < w.heap.size := by have := World.block_lt_of_cell? w _ z0; simpa [Addr.add] using this
      rw [v0, Go.WideShapes.add_plain] at c0
      rw [v1, Go.WideShapes.add_plain, ← Nat.add_assoc] at c1
      subst hj'
      exact ⟨b, off, rfl, hlt, by rw [strB_of]; exact c0, by rw [strB_of]; exact c1⟩
    · rw [hlen]
      refine Nat.le_trans ?_ (bulkL_elems _ _)
      omega
set_option maxRecDepth 100000 in
theorem open_flds {H : Type} {enc : TypeId × Value → H} {w : World} {v : Value} {d : DataW H} {p : List MemPlace} {base : Nat} (hv : Value.okWide Tryz.prog w .any base 22 v)
    (h : DataW.Trod enc Tryz.prog w 0 (fun _ => true) true 22 v d p) :
    ∃ (ps : List (List UInt8 × List UInt8)) (a : Option Addr) (c : Nat), v = .slice a ps.length c ∧ ReadsQ w v ps ∧ Sane v ∧ 2 * ps.length + totL ps ≤ Rows.uptoBulk d := by
  obtain ⟨a0, len, cap, rfl⟩ := okWide_slice Tryz.underlying22 hv
  obtain ⟨fuel, hf⟩ := h
  exact open_fl ⟨fuel, by simpa [Value.cells] using hf⟩
section
variable {H : Type} {enc : TypeId × Value → H} {P : Program} {w : World} {base : Nat} {spare : Nat → Bool} {held : Bool}
theorem trod_struct4 {t : TypeId} {f0 f1 f2 f3 : Field} {fuel : Nat} {cs : List Value} {x : DataW H × List MemPlace} (ht : P.underlying t = some (.struct #[f0, f1, f2, f3])) (h : DataW.trod enc P w base spare held fuel t cs = some x) :
    ∃ y0 y1 y2 y3 n, x = (.agg [y0.1, y1.1, y2.1, y3.1], y0.2 ++ (y1.2 ++ (y2.2 ++ y3.2))) ∧ DataW.trod enc P w base spare held n f0.type ((cs.drop f0.offset).take (P.cellsOf f0.type)) = some y0 ∧
      DataW.trod enc P w base spare held n f1.type ((cs.drop f1.offset).take (P.cellsOf f1.type)) = some y1 ∧ DataW.trod enc P w base spare held n f2.type ((cs.drop f2.offset).take (P.cellsOf f2.type)) = some y2 ∧
      DataW.trod enc P w base spare held n f3.type ((cs.drop f3.offset).take (P.cellsOf f3.type)) = some y3 := by
  obtain ⟨xs, n, _, rfl, hl, hlen, hf⟩ := DataW.trod_struct ht h
  match xs, hlen with
  | [y0, y1, y2, y3], _ => exact ⟨y0, y1, y2, y3, n, by simp, by simpa using hf 0 f0 rfl, by simpa using hf 1 f1 rfl, by simpa using hf 2 f2 rfl, by simpa using hf 3 f3 rfl⟩
end
theorem cellsStr : Tryz.prog.cellsOf 9 = 1 := by kernel_rfl
theorem cellsInt : Tryz.prog.cellsOf 3 = 1 := by kernel_rfl
theorem cellsFs : Tryz.prog.cellsOf 22 = 1 := by kernel_rfl
set_option maxRecDepth 100000 in
theorem open_case {H : Type} {enc : TypeId × Value → H} {w : World} {v : Value} {d : DataW H} {p : List MemPlace} {base : Nat} (hv : Value.okWide Tryz.prog w .any base 24 v)
    (h : DataW.Trod enc Tryz.prog w 0 (fun _ => true) true 24 v d p) :
    ∃ (m : List UInt8) (qa : Option Addr) (qc : Nat) (q : Flds) (ra : Option Addr) (rc : Nat) (r : Flds) (s : Int), v = caV m (.slice qa q.length qc) (.slice ra r.length rc) s ∧ ReadsQ w (.slice qa q.length qc) q ∧ ReadsQ w (.slice ra r.length rc) r ∧
      Sane (.slice qa q.length qc) ∧ Sane (.slice ra r.length rc) ∧ 2 * q.length + totL q ≤ Rows.uptoBulk d ∧ 2 * r.length + totL r ≤ Rows.uptoBulk d := by
  obtain ⟨cs, rfl, hsz⟩ : ∃ cs, v = .agg cs ∧ cs.size = 4 := by
    simp only [Value.okWide, Tryz.underlying24] at hv
    obtain ⟨cs, h1, h2, _⟩ := hv
    exact ⟨cs, h1, h2.trans (by kernel_rfl)⟩
  obtain ⟨c0, c1, c2, c3, rfl⟩ : ∃ c0 c1 c2 c3, cs = #[c0, c1, c2, c3] := by
    obtain ⟨l⟩ := cs
    match l, hsz with
    | [a, b, c, d], _ => exact ⟨a, b, c, d, rfl⟩
    | [], hz => simp at hz
    | [_], hz => simp at hz
    | [_, _], hz => simp at hz
    | [_, _, _], hz => simp at hz
    | _ :: _ :: _ :: _ :: _ :: _, hz => simp at hz
  obtain ⟨fuel, hf⟩ := h
  have hf' : DataW.trod enc Tryz.prog w 0 (fun _ => true) true fuel 24 [c0, c1, c2, c3] = some (d, p) := by simpa [Value.cells] using hf
  obtain ⟨y0, y1, y2, y3, n, hx, g0, g1, g2, g3⟩ := trod_struct4 Tryz.underlying24 hf'
  simp only [cellsStr, cellsInt, cellsFs, List.drop_zero, List.drop_succ_cons, List.take_succ_cons, List.take_zero] at g0 g1 g2 g3
  obtain ⟨s0, e0, f0, _⟩ := DataW.trod_string Tryz.underlying9 g0
  obtain ⟨i3, e3, f3, _⟩ := DataW.trod_int Tryz.underlying3 g3
  obtain ⟨q, qa, qc, rfl, rq, sq, uq⟩ := open_fl ⟨n, g1⟩
  obtain ⟨r, ra, rc, rfl, rr, sr, ur⟩ := open_fl ⟨n, g2⟩
  simp only [List.cons.injEq, and_true] at e0 e3
  simp only [Prod.mk.injEq] at hx
  have hb : Rows.uptoBulk d = Rows.uptoBulk y0.1 + (Rows.uptoBulk y1.1 + (Rows.uptoBulk y2.1 + (Rows.uptoBulk y3.1 + 0))) + 1 := by
    rw [hx.1]; simp only [Rows.uptoBulk, Rows.uptoBulkAll]
  refine ⟨s0.data.toList, qa, qc, q, ra, rc, r, i3, ?_, rq, rr, sq, sr, by omega, by omega⟩
  rw [e0, e3]
  show _ = Value.agg #[.string (strB s0.data.toList), _, _, _]
  rw [strB_of]
end Go.Proofs.YtoiampkdmjpljaaGreatDoor
