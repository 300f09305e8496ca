/- What the code's Check and the reference's Check return, for every list of fields. -/
import Derived.Test.YtjcekkgoohkomaaDoorFSmall
import Derived.Test.YtjcekkgoohkomaaDoorFName
namespace Go.Proofs.YtjcekkgoohkomaaDoor
open Go.RowKit

/-- The number of the error of a field; 0 if it is canonical. -/
def fieldC (p : List UInt8 × List UInt8) : Nat :=
  if nameC p.1 ≠ 0 then nameC p.1 else if nameR p.1 ≠ p.1 then 8 else if valueC p.2 ≠ 0 then valueC p.2 else if valueR p.2 ≠ p.2 then 2 else 0
def firstC : Flds → Nat
  | [] => 0
  | p :: r => if fieldC p ≠ 0 then fieldC p else firstC r
def checkC (ps : Flds) : Nat := if 64 < ps.length then 5 else firstC ps
def okTo (ps : Flds) (k : Nat) : Prop := ∀ p ∈ ps.take k, fieldC p = 0
theorem okTo0 (ps : Flds) : okTo ps 0 := fun p hp => by simp at hp
theorem okTo_step {ps : Flds} {k : Nat} {p : List UInt8 × List UInt8} (h : okTo ps k) (hp : ps[k]? = some p) (hc : fieldC p = 0) : okTo ps (k + 1) := by
  intro q hq
  rw [take_more hp] at hq
  rcases List.mem_append.mp hq with e | e
  · exact h q e
  · simp at e; subst e; exact hc
theorem first_app {l r : Flds} (h : ∀ p ∈ l, fieldC p = 0) : firstC (l ++ r) = firstC r := by
  induction l with
  | nil => rfl
  | cons p t ih =>
    rw [List.cons_append, firstC, if_neg (by rw [h p (List.mem_cons_self ..)]; simp)]
    exact ih fun q hq => h q (List.mem_cons_of_mem _ hq)
theorem okTo_bad {ps : Flds} {k : Nat} {p : List UInt8 × List UInt8} (h : okTo ps k) (hp : ps[k]? = some p) (hc : fieldC p ≠ 0) : firstC ps = fieldC p := by
  have hd : ps = ps.take k ++ (p :: ps.drop (k + 1)) := by
    conv => lhs; rw [← List.take_append_drop k ps]
    obtain ⟨hk, e⟩ := List.getElem?_eq_some_iff.mp hp
    rw [List.drop_eq_getElem_cons hk, e]
  rw [hd, first_app h, firstC, if_pos hc]
theorem okTo_end {ps : Flds} {k : Nat} (h : okTo ps k) (hk : ps.length ≤ k) : firstC ps = 0 := by
  unfold okTo at h
  rw [List.take_of_length_le hk] at h
  have := first_app (r := []) h
  rw [List.append_nil] at this
  exact this
theorem errV_zero : errV 0 = .nilIface := rfl
theorem errV_pos {c : Nat} (h : c ≠ 0) : errV c = .iface 34 (.int .i64 c) := by unfold errV; rw [if_neg h]
theorem ret_err {c d : Nat} (h : c = d) : Ending.returned (errV c) = .returned (errV d) := by rw [h]

set_option maxHeartbeats 2000000 in
set_option maxRecDepth 100000 in
theorem checkField_any (a b : List UInt8) (w : World) (ha : a.length ≤ 1000000) (hb : b.length ≤ 1000000) :
    Calls Tryd.prog 62 #[.agg #[.string (strB a), .string (strB b)]] w fun e w' => e = .returned (errV (fieldC (a, b))) ∧ Below w.heap.size w w' := by
  have za : (strB a).size ≤ 1000000000 := by rw [strB_size]; omega
  have zb : (strB b).size ≤ 1000000000 := by rw [strB_size]; omega
  have N1 := fun w => name_any (strB a) w za
  have N2 := fun w => value_any (strB b) w zb
  rw [strB_list] at N1 N2
  clear za zb
  by_cases h1 : nameC a = 0
  · rw [h1, errV_zero] at N1
    by_cases h2 : nameR a = a
    · have q1 := toList_same h2
      by_cases h3 : valueC b = 0
      · rw [h3, errV_zero] at N2
        by_cases h4 : valueR b = b
        · have q2 := toList_same h4
          have hc : fieldC (a, b) = 0 := by unfold fieldC; rw [if_neg (by simp [h1]), if_neg (by simp [h2]), if_neg (by simp [h3]), if_neg (by simp [h4])]
          rw [hc, errV_zero]
          clear h1 h2 h3 h4 hc ha hb
          go_enter Tryd.func62, Tryd.ntmps62
          go_wp2_with fail
          refine (N1 _).mono ?_
          rintro e w2 ⟨rfl, hB2⟩
          obtain ⟨c1, c2⟩ := pair_kept hB2
          have hB2' := below_pair' hB2
          have hs : w.heap.size < w2.heap.size := by have := hB2.size; simp at this; omega
          clear hB2 N1
          go_wp2_with fail
          refine (N2 _).mono ?_
          rintro e w3 ⟨rfl, hB3⟩
          have c3 := (hB3.cell (p := ⟨w.heap.size, 1, none⟩) hs).trans c2
          go_wp2_with fail
          go_ret
          exact ⟨rfl, hB2'.trans (hB3.mono hB2'.size)⟩
        · have q2 := toList_other h4
          have hc : fieldC (a, b) = 2 := by unfold fieldC; rw [if_neg (by simp [h1]), if_neg (by simp [h2]), if_neg (by simp [h3]), if_pos h4]
          rw [hc]
          clear h1 h2 h3 h4 hc ha hb
          go_enter Tryd.func62, Tryd.ntmps62
          go_wp2_with fail
          refine (N1 _).mono ?_
          rintro e w2 ⟨rfl, hB2⟩
          obtain ⟨c1, c2⟩ := pair_kept hB2
          have hB2' := below_pair' hB2
          have hs : w.heap.size < w2.heap.size := by have := hB2.size; simp at this; omega
          clear hB2 N1
          go_wp2_with fail
          refine (N2 _).mono ?_
          rintro e w3 ⟨rfl, hB3⟩
          have c3 := (hB3.cell (p := ⟨w.heap.size, 1, none⟩) hs).trans c2
          go_wp2_with fail
          go_ret
          exact ⟨rfl, hB2'.trans (hB3.mono hB2'.size)⟩
      · rw [errV_pos h3] at N2
        have hc : fieldC (a, b) = valueC b := by unfold fieldC; rw [if_neg (by simp [h1]), if_neg (by simp [h2]), if_pos h3]
        rw [hc, errV_pos h3]
        clear h1 h2 h3 hc ha hb
        go_enter Tryd.func62, Tryd.ntmps62
        go_wp2_with fail
        refine (N1 _).mono ?_
        rintro e w2 ⟨rfl, hB2⟩
        obtain ⟨c1, c2⟩ := pair_kept hB2
        have hB2' := below_pair' hB2
        clear hB2 N1
        go_wp2_with fail
        refine (N2 _).mono ?_
        rintro e w3 ⟨rfl, hB3⟩
        go_wp2_with fail
        go_ret
        exact ⟨rfl, hB2'.trans (hB3.mono hB2'.size)⟩
    · have q1 := toList_other h2
      have hc : fieldC (a, b) = 8 := by unfold fieldC; rw [if_neg (by simp [h1]), if_pos h2]
      rw [hc]
      clear h1 h2 hc ha hb N2
      go_enter Tryd.func62, Tryd.ntmps62
      go_wp2_with fail
      refine (N1 _).mono ?_
      rintro e w2 ⟨rfl, hB2⟩
      obtain ⟨c1, c2⟩ := pair_kept hB2
      have hB2' := below_pair' hB2
      clear hB2 N1
      go_wp2_with fail
      go_ret
      exact ⟨rfl, hB2'⟩
  · rw [errV_pos h1] at N1
    have hc : fieldC (a, b) = nameC a := by unfold fieldC; rw [if_pos h1]
    rw [hc, errV_pos h1]
    clear h1 hc ha hb N2
    go_enter Tryd.func62, Tryd.ntmps62
    go_wp2_with fail
    refine (N1 _).mono ?_
    rintro e w2 ⟨rfl, hB2⟩
    have hB2' := below_pair' hB2
    clear hB2 N1
    go_wp2_with fail
    go_ret
    exact ⟨rfl, hB2'⟩

set_option maxHeartbeats 2000000 in
set_option maxRecDepth 100000 in
theorem check_any (lv : Value) (ps : Flds) (w : World) (hr : ReadsQ w lv ps) (hl : ps.length ≤ 1000) (hb : ∀ p ∈ ps, p.1.length + p.2.length ≤ 1000000) :
    Calls Tryd.prog 38 #[lv] w fun e w' => e = .returned (errV (checkC ps)) ∧ Below w.heap.size w w' := by
  obtain ⟨ao, cap, rfl, hc⟩ := hr
  have HC := Lib.hid hc
  have HBig := Lib.hid hb
  clear hc hb
  by_cases h64 : 64 < ps.length
  · have hcc : checkC ps = 5 := by unfold checkC; rw [if_pos h64]
    rw [hcc]
    clear hcc
    go_enter Tryd.func38, Tryd.ntmps38
    go_wp2_with fail
    go_ret
    exact ⟨rfl, Below.refl _ _⟩
  · have hcc : checkC ps = firstC ps := by unfold checkC; rw [if_neg h64]
    rw [hcc]
    clear hcc
    go_enter Tryd.func38, Tryd.ntmps38
    go_wp2_with fail
    go_loopw [12] (fun i wr => ∃ k : Nat, i = .int .i64 k ∧ k ≤ ps.length ∧ okTo ps k ∧ Below w.heap.size w wr) (fun i _ => ps.length - (intOf i).toNat)
    case atStart => exact ⟨0, rfl, Nat.zero_le _, okTo0 _, Below.refl _ _⟩
    case round =>
      obtain ⟨k, rfl, hk, hok, hBr⟩ := hrel
      have hbr := hBr.size
      have HOk := Lib.hid hok
      clear hok
      by_cases hlt : k < ps.length
      · obtain ⟨p, hp⟩ : ∃ p, ps[k]? = some p := ⟨ps[k], by simp [hlt]⟩
        obtain ⟨g, off, rfl, hg1, h1, h2⟩ := HC.out k p hp
        have hc1 : wr.cell? ⟨g, off + k * 2, none⟩ = some (.string (strB p.1)) := (hBr.cell (p := ⟨g, off + k * 2, none⟩) hg1).trans h1
        have hc2 : wr.cell? ⟨g, off + k * 2 + 1, none⟩ = some (.string (strB p.2)) := (hBr.cell (p := ⟨g, off + k * 2 + 1, none⟩) hg1).trans h2
        have hpl := HBig.out p (List.mem_of_getElem? hp)
        have HP := Lib.hid hp
        have CF := fun w => checkField_any p.1 p.2 w (by omega) (by omega)
        clear hp h1 h2
        by_cases h0 : fieldC p = 0
        · have e : fieldC (p.1, p.2) = 0 := h0
          rw [e, errV_zero] at CF
          have H0 := Lib.hid h0
          clear h0 e
          go_wp2_with fail
          refine (CF _).mono ?_
          rintro e w2 ⟨rfl, hB2⟩
          have hB2' := below_pair' hB2
          clear hB2
          go_wp2_with fail
          go_roundw
          case rel => exact ⟨k + 1, by go_num, by omega, okTo_step HOk.out HP.out H0.out, hBr.trans (hB2'.mono hbr)⟩
          case measure => simp [intOf]; omega
        · have e : fieldC (p.1, p.2) ≠ 0 := h0
          rw [errV_pos e] at CF
          have H0 := Lib.hid h0
          clear h0 e
          go_wp2_with fail
          refine (CF _).mono ?_
          rintro e w2 ⟨rfl, hB2⟩
          have hB2' := below_pair' hB2
          clear hB2
          go_wp2_with fail
          go_ret
          exact ⟨by rw [okTo_bad HOk.out HP.out H0.out, errV_pos H0.out]; rfl, hBr.trans (hB2'.mono hbr)⟩
      · go_wp2_with fail
        go_ret
        exact ⟨by rw [okTo_end HOk.out (by omega)]; rfl, hBr⟩
set_option maxHeartbeats 4000000 in
set_option maxRecDepth 100000 in
theorem refCheck_any (lv : Value) (ps : Flds) (w : World) (hr : ReadsQ w lv ps) (hl : ps.length ≤ 1000) (hb : ∀ p ∈ ps, p.1.length + p.2.length ≤ 1000000) :
    Calls Tryd.prog 40 #[lv] w fun e w' => e = .returned (.int .i64 (checkC ps)) ∧ Below w.heap.size w w' := by
  obtain ⟨ao, cap, rfl, hc⟩ := hr
  have HC := Lib.hid hc
  have HBig := Lib.hid hb
  clear hc hb
  by_cases h64 : 64 < ps.length
  · have hcc : checkC ps = 5 := by unfold checkC; rw [if_pos h64]
    rw [hcc]
    clear hcc
    go_enter Tryd.func40, Tryd.ntmps40
    go_wp2_with fail
    go_ret
    exact ⟨rfl, Below.refl _ _⟩
  · have hcc : checkC ps = firstC ps := by unfold checkC; rw [if_neg h64]
    rw [hcc]
    clear hcc
    go_enter Tryd.func40, Tryd.ntmps40
    go_wp2_with fail
    go_loopw [12] (fun i wr => ∃ k : Nat, i = .int .i64 k ∧ k ≤ ps.length ∧ okTo ps k ∧ Below w.heap.size w wr) (fun i _ => ps.length - (intOf i).toNat)
    case atStart => exact ⟨0, rfl, Nat.zero_le _, okTo0 _, Below.refl _ _⟩
    case round =>
      obtain ⟨k, rfl, hk, hok, hBr⟩ := hrel
      have hbr := hBr.size
      have HOk := Lib.hid hok
      clear hok
      by_cases hlt : k < ps.length
      · obtain ⟨p, hp⟩ : ∃ p, ps[k]? = some p := ⟨ps[k], by simp [hlt]⟩
        obtain ⟨g, off, rfl, hg1, h1, h2⟩ := HC.out k p hp
        have hc1 : wr.cell? ⟨g, off + k * 2, none⟩ = some (.string (strB p.1)) := (hBr.cell (p := ⟨g, off + k * 2, none⟩) hg1).trans h1
        have hc2 : wr.cell? ⟨g, off + k * 2 + 1, none⟩ = some (.string (strB p.2)) := (hBr.cell (p := ⟨g, off + k * 2 + 1, none⟩) hg1).trans h2
        have hpl := HBig.out p (List.mem_of_getElem? hp)
        have hgr : g < wr.heap.size := by omega
        have HP := Lib.hid hp
        have za : (strB p.1).size ≤ 1000000 := by rw [strB_size]; omega
        have zb : (strB p.2).size ≤ 1000000 := by rw [strB_size]; omega
        have N1 := fun w => refName_any (strB p.1) w (by omega)
        have N2 := fun w => refValue_any (strB p.2) w zb
        rw [strB_list] at N1 N2
        clear hp h1 h2 hpl
        by_cases h1 : nameC p.1 = 0
        · rw [h1] at N1
          by_cases h2 : nameR p.1 = p.1
          · have q1 := toList_same h2
            by_cases h3 : valueC p.2 = 0
            · rw [h3] at N2
              by_cases h4 : valueR p.2 = p.2
              · have q2 := toList_same h4
                have hcf : fieldC p = 0 := by unfold fieldC; rw [if_neg (by simp [h1]), if_neg (by simp [h2]), if_neg (by simp [h3]), if_neg (by simp [h4])]
                have H0 := Lib.hid hcf
                clear h1 h2 h3 h4 hcf
                go_wp2_with fail
                refine (N1 _).mono ?_
                rintro e w2 ⟨rfl, hB2⟩
                have d1 := (hB2.cell (p := ⟨g, off + k * 2, none⟩) hgr).trans hc1
                have d2 := (hB2.cell (p := ⟨g, off + k * 2 + 1, none⟩) hgr).trans hc2
                clear hc1 hc2 N1
                go_wp2_with fail
                refine (N2 _).mono ?_
                rintro e w' ⟨rfl, rfl⟩
                clear N2
                go_wp2_with fail
                go_roundw
                case rel => exact ⟨k + 1, by go_num, by omega, okTo_step HOk.out HP.out H0.out, hBr.trans (hB2.mono hbr)⟩
                case measure => simp [intOf]; omega
              · have q2 := toList_other h4
                have hcf : fieldC p = 2 := by unfold fieldC; rw [if_neg (by simp [h1]), if_neg (by simp [h2]), if_neg (by simp [h3]), if_pos h4]
                have H0 := Lib.hid hcf
                clear h1 h2 h3 h4 hcf
                go_wp2_with fail
                refine (N1 _).mono ?_
                rintro e w2 ⟨rfl, hB2⟩
                have d1 := (hB2.cell (p := ⟨g, off + k * 2, none⟩) hgr).trans hc1
                have d2 := (hB2.cell (p := ⟨g, off + k * 2 + 1, none⟩) hgr).trans hc2
                clear hc1 hc2 N1
                go_wp2_with fail
                refine (N2 _).mono ?_
                rintro e w' ⟨rfl, rfl⟩
                clear N2
                go_wp2_with fail
                go_ret
                exact ⟨by rw [okTo_bad HOk.out HP.out (by rw [H0.out]; simp), H0.out]; rfl, hBr.trans (hB2.mono hbr)⟩
            · have hcf : fieldC p = valueC p.2 := by unfold fieldC; rw [if_neg (by simp [h1]), if_neg (by simp [h2]), if_pos h3]
              have H0 := Lib.hid hcf
              have H3 := Lib.hid h3
              have h3' : ((valueC p.2 : Int) == 0) = false := by simp; omega
              clear h1 h2 hcf
              go_wp2_with fail
              refine (N1 _).mono ?_
              rintro e w2 ⟨rfl, hB2⟩
              have d1 := (hB2.cell (p := ⟨g, off + k * 2, none⟩) hgr).trans hc1
              have d2 := (hB2.cell (p := ⟨g, off + k * 2 + 1, none⟩) hgr).trans hc2
              clear hc1 hc2 N1
              go_wp2_with fail
              refine (N2 _).mono ?_
              rintro e w' ⟨rfl, rfl⟩
              clear N2
              go_wp2_with fail
              go_ret
              exact ⟨by rw [okTo_bad HOk.out HP.out (by rw [H0.out]; exact H3.out), H0.out]; rfl, hBr.trans (hB2.mono hbr)⟩
          · have q1 := toList_other h2
            have hcf : fieldC p = 8 := by unfold fieldC; rw [if_neg (by simp [h1]), if_pos h2]
            have H0 := Lib.hid hcf
            clear h1 h2 hcf N2
            go_wp2_with fail
            refine (N1 _).mono ?_
            rintro e w2 ⟨rfl, hB2⟩
            have d1 := (hB2.cell (p := ⟨g, off + k * 2, none⟩) hgr).trans hc1
            clear hc1 hc2 N1
            go_wp2_with fail
            go_ret
            exact ⟨by rw [okTo_bad HOk.out HP.out (by rw [H0.out]; simp), H0.out]; rfl, hBr.trans (hB2.mono hbr)⟩
        · have hcf : fieldC p = nameC p.1 := by unfold fieldC; rw [if_pos h1]
          have H0 := Lib.hid hcf
          have H3 := Lib.hid h1
          clear hcf N2
          go_wp2_with fail
          refine (N1 _).mono ?_
          rintro e w2 ⟨rfl, hB2⟩
          clear N1
          go_wp2_with fail
          go_ret
          exact ⟨by rw [okTo_bad HOk.out HP.out (by rw [H0.out]; exact H3.out), H0.out]; rfl, hBr.trans (hB2.mono hbr)⟩
      · go_wp2_with fail
        go_ret
        exact ⟨by rw [okTo_end HOk.out (by omega)]; rfl, hBr⟩
end Go.Proofs.YtjcekkgoohkomaaDoor
