/- What Write returns, for every state of the decoder and all bytes. -/
import Derived.Test.YthlfhbhjiofneaaDoorKTake
import Derived.Deep.QuietTactic
import Derived.BigQuiet
namespace Go.Proofs.YthlfhbhjiofneaaDoor
open Go.RowKit

theorem expS_er (s : Dc) (c : UInt8) (o n : Nat) : (expS s c o n).2.er = s.er := by unfold expS; split <;> rfl
theorem stepS_er (s : Dc) (c : UInt8) : (stepS s c).2.er = s.er := by
  unfold stepS
  split
  · unfold sizeS
    split
    · unfold digS; split; rfl; split <;> rfl
    · split; rfl; split; rfl; exact expS_er ..
  split
  · unfold extS; split; rfl; split <;> rfl
  split
  · unfold endS; split <;> exact expS_er ..
  split
  · exact expS_er ..
  split
  · exact expS_er ..
  · unfold trlS lineS
    split; rfl; split
    · split; rfl; split; rfl; split <;> rfl
    · split <;> rfl
theorem er_same (t : Dc) (h : t.er = 0) : ({ t with er := 0 } : Dc) = t := by cases t; simp at h; subst h; rfl
/-- What Write leaves: the decoder behind the bytes, the data, how many bytes were taken, the error. -/
def WritePost (B P : Nat) (X : Nat → Prop) (s : Dc) (l : List UInt8) (w : World) (e : Ending) (w' : World) : Prop :=
  ∃ v X', e = .returned (.tuple #[v, .int .i64 ((wrD s l).2.2 : Int), errV (wrD s l).1.er]) ∧ Dec B P X' (wrD s l).1 w' ∧ (∀ i, X' i → X i ∨ w.heap.size ≤ i) ∧ Only X w w' ∧ OwnB w.heap.size w' v (wrD s l).2.1 ∧ (∀ i, v.ownBlock = some i → ¬ X' i)
def WriteRel (B P : Nat) (X : Nat → Prop) (s : Dc) (l : List UInt8) (w : World) (v t : Value) (wr : World) : Prop :=
  ∃ (k : Nat) (s' : Dc) (X' : Nat → Prop) (out : List UInt8), t = .int .i64 (k : Int) ∧ k ≤ l.length ∧ s'.Ok ∧ Dec B P X' s' wr ∧ (∀ i, X' i → X i ∨ w.heap.size ≤ i) ∧ Only X w wr ∧ OwnB w.heap.size wr v out ∧ (∀ i, v.ownBlock = some i → ¬ X' i) ∧ out.length ≤ k ∧
    wrD s l = ((wrD s' (l.drop k)).1, out ++ (wrD s' (l.drop k)).2.1, k + (wrD s' (l.drop k)).2.2)
/-- Does a decoder go on? -/
def goesOn (P : Nat) (w : World) : Nat := match w.cell? ⟨P, 1, none⟩ with | some .nilIface => 1 | _ => 0
theorem goesOn_yes {P : Nat} {w : World} (h : w.cell? ⟨P, 1, none⟩ = some .nilIface) : goesOn P w = 1 := by unfold goesOn; rw [h]
theorem goesOn_no {P : Nat} {w : World} {t : TypeId} {u : Value} (h : w.cell? ⟨P, 1, none⟩ = some (.iface t u)) : goesOn P w = 0 := by unfold goesOn; rw [h]
theorem goesOn_le (P : Nat) (w : World) : goesOn P w ≤ 1 := by unfold goesOn; split <;> omega
theorem wrD_done {s' : Dc} {l : List UInt8} {k : Nat} (h : s'.er ≠ 0 ∨ s'.pl = 8 ∨ l.length ≤ k) : wrD s' (l.drop k) = (s', [], 0) := by
  rcases h with h | h | h
  · exact wrD_stop (.inl h) _
  · exact wrD_stop (.inr h) _
  · rw [List.drop_eq_nil_of_le h]; rfl
theorem write_end {B P : Nat} {X : Nat → Prop} {s : Dc} {l : List UInt8} {w wr w' : World} {v : Value} {k : Nat} {s' : Dc} {X' : Nat → Prop} {out : List UInt8} (hd : s'.er ≠ 0 ∨ s'.pl = 8 ∨ l.length ≤ k) (hD : Dec B P X' s' wr) (hX : ∀ i, X' i → X i ∨ w.heap.size ≤ i) (hO : Only X w wr)
    (ho : OwnB w.heap.size wr v out) (hv : ∀ i, v.ownBlock = some i → ¬ X' i) (hw : wrD s l = ((wrD s' (l.drop k)).1, out ++ (wrD s' (l.drop k)).2.1, k + (wrD s' (l.drop k)).2.2)) (hb : Below wr.heap.size wr w') :
    WritePost B P X s l w (.returned (.tuple #[v, .int .i64 (k : Int), errV s'.er])) w' := by
  rw [wrD_done hd] at hw
  simp only [List.append_nil, Nat.add_zero] at hw
  refine ⟨v, X', by rw [hw], by rw [hw]; exact hD.below hb, hX, hO.trans' (Only.below hb), by rw [hw]; exact ho.below hb, hv⟩
set_option maxHeartbeats 8000000 in
set_option maxRecDepth 100000 in
theorem decWrite_any {B P : Nat} {X : Nat → Prop} {s : Dc} (bv : Value) (l : List UInt8) (w : World) (h : Dec B P X s w) (hM : MaxB B w) (hok : s.Ok) (hb : ReadsD w bv l) (hbX : l ≠ [] → ∀ k, bv.ownBlock = some k → ¬ X k) (hl : l.length ≤ 1000000000) :
    Calls Tryd.prog 20 #[.pointer (some ⟨P, 0, none⟩), bv] w (WritePost B P X s l w) := by
  obtain ⟨i0, hi, hz0, hz1, hz2⟩ := info_parts Tryd.infoB
  have HH := Lib.hid h
  have HM := Lib.hid hM
  have HB := Lib.hid hb
  obtain ⟨ao, cap, rfl, hcap, hcapm, hnil, hc⟩ := hb
  have HC := Lib.hid hc
  have hBw := h.base.2
  clear h hM hc hnil
  unfold maxLen at hcapm
  go_enter Tryd.func20, Tryd.ntmps20
  go_wp2_with fail
  go_loopw [4, 5] (fun v t wr => WriteRel B P X s l w v t wr) (fun _ t wr => 2 * (l.length - (intOf t).toNat) + goesOn P wr)
  case atStart => exact ⟨0, s, X, [], rfl, Nat.zero_le _, hok, HH.out, fun _ h => .inl h, Only.refl _ _, OwnB.nil _ _, fun i hi => (by cases hi), Nat.le_refl _, by rw [List.drop_zero]; simp⟩
  case round =>
    obtain ⟨k, s', X', out, rfl, hk, hok', hD, hX, hO, ho, hv, hol, hw⟩ := hrel
    obtain ⟨hx, HD, lv, tv, c0, c1, _, _, _, _, _, hf⟩ := dec_open hD
    have f1 := hf 1
    obtain ⟨va, vc, rfl⟩ := ho.isSlice
    have hso := hO.size
    clear hf
    by_cases he : s'.er = 0
    · rw [he] at c1
      have c1' : wr.cell? ⟨P, 1, none⟩ = some .nilIface := c1
      clear c1
      by_cases hlt : k < l.length
      · by_cases h8 : s'.pl = 8
        · rw [h8] at c0
          have W := Lib.hid (fun w' hb => write_end (w' := w') (.inr (.inl h8)) hD hX hO ho hv hw hb)
          rw [he] at W
          clear hw ho hD hX hO hv he
          go_wp2_with fail
          go_quiet (fail)
          go_wp2_with fail
          refine bodyPost_ret (v := .tuple #[.slice va out.length vc, .int .i64 (k : Int), .nilIface]) (by simp [results, Tryd.results20, go_sem]) rfl ?_
          exact W.out _ (below_drewN (Below.refl _ _) nq)
        · have hq8 : ((s'.pl : Int) != 8) = true := by simp; omega
          obtain ⟨c, hcl⟩ : ∃ c, l[k]? = some c := ⟨l[k], by simp [hlt]⟩
          obtain ⟨g, off, rfl, hg1, hcg⟩ := HC.out k c hcl
          have hdrop : l.drop k = c :: l.drop (k + 1) := by
            rw [List.drop_eq_getElem_cons hlt]
            rw [List.getElem?_eq_getElem hlt] at hcl
            rw [Option.some.inj hcl]
          have hbX := hbX (fun e => by rw [e] at hlt; simp at hlt)
          have HR := Lib.hid (HB.out.only hO hbX)
          have hgX : ¬ X g := hbX g rfl
          by_cases h3 : s'.pl = 3
          · rw [h3] at c0
            have hpos := hok'.b10 h3
            obtain ⟨n, hn⟩ : ∃ n, n = min (l.length - k) s'.sz := ⟨_, rfl⟩
            have hn1 : 0 < n := by omega
            have hn2 : n ≤ s'.sz := by omega
            have hn3 : k + n ≤ l.length := by omega
            have T := takeData_any (l.length - k) wr hD hok' h3 (by omega)
            rw [← hn, show ((l.length - k : Nat) : Int) = (l.length : Int) - (k : Int) by omega] at T
            have HT := Lib.hid T
            have hw2 : wrD s l = ((wrD (dataS s' n) (l.drop (k + n))).1, (out ++ (l.drop k).take n) ++ (wrD (dataS s' n) (l.drop (k + n))).2.1, (k + n) + (wrD (dataS s' n) (l.drop (k + n))).2.2) := by
              rw [hw, wrD_data he h3 hn1 hn2 (by rw [List.length_drop]; omega), List.drop_drop]; simp; omega
            have HW := Lib.hid hw2
            have HO := Lib.hid hO
            have HV := Lib.hid hv
            have HX := Lib.hid hX
            have HOW := Lib.hid ho
            have HOK := Lib.hid (ok_data hok' h3 hn2)
            have HCut := Lib.hid (reads_cutB HR.out k n (cap - k) hn3 (by omega) (by unfold maxLen; omega))
            have hkc : k < cap := by omega
            have hknc : k + n ≤ cap := by omega
            have hgo := goesOn_le P wr
            have hln : ((l.drop k).take n).length = n := by rw [List.length_take, List.length_drop]; omega
            have HLn := Lib.hid hln
            have hgw := HH.out.lt
            clear T hw hw2 h3 h8 he hdrop hcl hcg hO hv hX ho hok' hD hn hq8 hpos hln
            go_wp2_with fail
            refine HT.out.mono ?_
            rintro e w1 ⟨rfl, hD2, hO2⟩
            have HO2 := Lib.hid hO2
            have HD2 := Lib.hid hD2
            have HOW1 := Lib.hid (HOW.out.only hO2 HV.out)
            have HRC := Lib.hid (HCut.out.only hO2 (fun i hi hx' => by
              have hig : i = g := by simp [Value.ownBlock] at hi; exact hi.symm
              subst hig
              rcases HX.out i hx' with h | h
              · exact hgX h
              · exact absurd hg1 (by omega)))
            have hs1 := hO2.size
            clear hO2 hD2
            go_wp2_with (at_builtin; refine wpList_append_own_at _ rfl _ _ 27 rfl w.heap.size 5 i0 (.int .u8 0) 1 1 Tryd.underlying27 hi hz0 hz1 hz2 rfl (by decide) _ _ _ rfl HOW1.out ⟨g, off + k, none⟩ (k + n - k) (cap - k) (Lib.byteCells ((l.drop k).take n)) rfl (by rw [Lib.byteCells_length, HLn.out]; omega) (readsB_src HRC.out).2 (oneB _) (by unfold maxLen; omega) (by omega) (by omega) ?_; intro v' w2 hown hgrow _ hat)
            rw [Nat.add_sub_cancel_left] at hown
            go_roundw
            case rel =>
              have hY : ∀ i, (Value.slice va out.length vc).ownBlock = some i → w.heap.size ≤ i := fun i hi => (World.ownsRow.lt HOW1.out i hi).1
              have hgr : Only (fun i => (Value.slice va out.length vc).ownBlock = some i) w1 w2 := Only.grown hgrow fun i hi => .inl hi
              refine ⟨k + n, dataS s' n, X', out ++ (l.drop k).take n, by go_num, hn3, HOK.out, HD2.out.only hgr (fun i hi h2 => HV.out i h2 hi), HX.out, ?_, own_appB (by rw [HLn.out]; exact hown), ?_, by rw [List.length_append, HLn.out]; omega, HW.out⟩
              · exact (HO.out.trans HO2.out HX.out).trans hgr fun i hi => .inr (hY i hi)
              · intro i hi h2
                rcases hat with e | e
                · exact HV.out i (e ▸ hi) h2
                · rw [e] at hi
                  have := Option.some.inj hi
                  have := (HD2.out.lt.2.2 i h2).2
                  omega
            case measure =>
              have := goesOn_le P w2
              simp [intOf]; omega
          · have hq3 : ((s'.pl : Int) == 3) = false := by simp; omega
            have hcr : wr.cell? ⟨g, off + k, none⟩ = some (.int .u8 (c.toNat : Int)) := (hO.cell (p := ⟨g, off + k, none⟩) hg1 hgX).trans hcg
            have T := take_any c wr hD (HM.out.only HH.out hO) hok' h3 h8
            have hok2 := ok_step hok' h3 h8 c
            have her := stepS_er s' c
            have hgo := goesOn_yes c1'
            by_cases h0 : (stepS s' c).1 = 0
            · unfold StepPost at T
              rw [h0, show errV 0 = .nilIface from rfl] at T
              have HT := Lib.hid T
              have hw2 : wrD s l = ((wrD (stepS s' c).2 (l.drop (k + 1))).1, out ++ (wrD (stepS s' c).2 (l.drop (k + 1))).2.1, (k + 1) + (wrD (stepS s' c).2 (l.drop (k + 1))).2.2) := by
                rw [hw, hdrop, wrD_step he h8 h3 h0]; simp; omega
              have HW := Lib.hid hw2
              have HE := Lib.hid (show (stepS s' c).2.er = 0 by rw [her]; exact he)
              have HO := Lib.hid hO
              have HV := Lib.hid hv
              have HX := Lib.hid hX
              have HOW := Lib.hid ho
              have HOK := Lib.hid hok2
              clear T hw hw2 her h0 h3 h8 he hdrop hcl hcg hO hv hX ho hok2 hok' hD
              go_wp2_with fail
              refine HT.out.mono ?_
              rintro e w1 ⟨rfl, X2, hx1, hD2, hO2⟩
              obtain ⟨hxp, HD2, lv2, tv2, _, d1, _, _, _, _, _, df⟩ := dec_open hD2
              have e1 := df 1
              clear df
              go_wp2_with fail
              go_roundw
              case rel =>
                have hs1 := hO2.size
                refine ⟨k + 1, (stepS s' c).2, X2, out, by go_num, by omega, HOK.out, ?_, ?_, ?_, ?_, ?_, by omega, HW.out⟩
                · have := dec_er (n := 0) (v := .nilIface) HD2.out rfl
                  rwa [er_same _ HE.out] at this
                · intro i hi
                  rcases hx1 i hi with h | h
                  · exact HX.out i h
                  · exact .inr (by omega)
                · exact (HO.out.trans hO2 HX.out).trans (Only.set hxp _ _ _) fun i hi => by
                    rcases hx1 i hi with h | h
                    · exact HX.out i h
                    · exact .inr (by omega)
                · refine OwnB.only (HOW.out.only hO2 HV.out) (Only.set (X := fun i => i = P) rfl _ _ _) ?_
                  intro i hi e
                  exact HV.out i hi (e ▸ hx)
                · intro i hi h2
                  rcases hx1 i h2 with h | h
                  · exact HV.out i hi h
                  · have := (World.ownsRow.lt HOW.out i hi).2; omega
              case measure =>
                have := goesOn_le P (w1.setCell ⟨P, 1, none⟩ .nilIface)
                simp [intOf]; omega
            · unfold StepPost at T
              rw [errV_yes h0] at T
              have HT := Lib.hid T
              have hst : wrD { (stepS s' c).2 with er := (stepS s' c).1 } (l.drop k) = ({ (stepS s' c).2 with er := (stepS s' c).1 }, [], 0) := wrD_stop (.inl h0) _
              have hw2 : wrD s l = ((wrD { (stepS s' c).2 with er := (stepS s' c).1 } (l.drop k)).1, out ++ (wrD { (stepS s' c).2 with er := (stepS s' c).1 } (l.drop k)).2.1, k + (wrD { (stepS s' c).2 with er := (stepS s' c).1 } (l.drop k)).2.2) := by
                rw [hw, hst, hdrop, wrD_bad he h8 h3 h0]
              have HW := Lib.hid hw2
              have HO := Lib.hid hO
              have HV := Lib.hid hv
              have HX := Lib.hid hX
              have HOW := Lib.hid ho
              have HOK := Lib.hid hok2
              have H0 := Lib.hid h0
              clear T hw hw2 her h0 h3 h8 he hdrop hcl hcg hO hv hX ho hok2 hok' hD hst
              go_wp2_with fail
              refine HT.out.mono ?_
              rintro e w1 ⟨rfl, X2, hx1, hD2, hO2⟩
              have HE3 := Lib.hid (dec_er (n := (stepS s' c).1) (v := .iface 41 (.int .i64 ((stepS s' c).1 : Int))) hD2 (errV_yes H0.out).symm)
              obtain ⟨hxp, HD2, lv2, tv2, _, d1, _, _, _, _, _, df⟩ := dec_open hD2
              have e1 := df 1
              clear df
              go_wp2_with fail
              go_roundw
              case rel =>
                have hs1 := hO2.size
                refine ⟨k, { (stepS s' c).2 with er := (stepS s' c).1 }, X2, out, rfl, hk, ok_er HOK.out _, HE3.out, ?_, ?_, ?_, ?_, by omega, HW.out⟩
                · intro i hi
                  rcases hx1 i hi with h | h
                  · exact HX.out i h
                  · exact .inr (by omega)
                · exact (HO.out.trans hO2 HX.out).trans (Only.set hxp _ _ _) fun i hi => by
                    rcases hx1 i hi with h | h
                    · exact HX.out i h
                    · exact .inr (by omega)
                · refine OwnB.only (HOW.out.only hO2 HV.out) (Only.set (X := fun i => i = P) rfl _ _ _) ?_
                  intro i hi e
                  exact HV.out i hi (e ▸ hx)
                · intro i hi h2
                  rcases hx1 i h2 with h | h
                  · exact HV.out i hi h
                  · have := (World.ownsRow.lt HOW.out i hi).2; omega
              case measure =>
                obtain ⟨_, _, _, _, _, q1, _⟩ := dec_open HE3.out
                rw [show errV ({ (stepS s' c).2 with er := (stepS s' c).1 } : Dc).er = .iface 41 (.int .i64 ((stepS s' c).1 : Int)) from errV_yes H0.out] at q1
                have := goesOn_no q1
                simp [intOf]; omega
      · have W := Lib.hid (fun w' hb => write_end (w' := w') (.inr (.inr (by omega : l.length ≤ k))) hD hX hO ho hv hw hb)
        rw [he] at W
        clear hw ho hD hX hO hv he
        go_wp2_with fail
        go_quiet (fail)
        go_wp2_with fail
        refine bodyPost_ret (v := .tuple #[.slice va out.length vc, .int .i64 (k : Int), .nilIface]) (by simp [results, Tryd.results20, go_sem]) rfl ?_
        exact W.out _ (below_drewN (Below.refl _ _) nq)
    · have W := Lib.hid (fun w' hb => write_end (w' := w') (.inl he) hD hX hO ho hv hw hb)
      rw [errV_yes he] at W c1
      clear hw ho hD hX hO hv he
      go_wp2_with fail
      go_quiet (fail)
      go_wp2_with fail
      refine bodyPost_ret (v := .tuple #[.slice va out.length vc, .int .i64 (k : Int), .iface 41 (.int .i64 (s'.er : Int))]) (by simp [results, Tryd.results20, go_sem]) rfl ?_
      exact W.out _ (below_drewN (Below.refl _ _) nq)
end Go.Proofs.YthlfhbhjiofneaaDoor
