import Derived.Test.YtieolalohindgaaGreatDoorPa27
import Derived.Test.YtieolalohindgaaGreatDoorPa42
/- PolicyPlain: the walk. -/
namespace Go.Proofs.YtieolalohindgaaGreatDoor
open Go.RowKit

set_option maxRecDepth 100000 in
theorem fldp_nc (D : Dv) (w : World) : (Instr.field 40 (.agg #[.bool D.ns, .bool D.nc, .bool D.pr, .bool D.pu, .bool D.mr, .bool D.oc, .int .i64 D.ma, .int .i64 D.sa, .int .i64 D.ws, .int .i64 D.oe, .int .i64 D.ms, .int .i64 D.mf]) 1).run Tryz.prog w = .ok (.bool D.nc) w := by
  simp [Instr.field, go_sem]
  rfl
/-- What PolicyPlain holds. -/
structure PlS (N M R : Nat) (st : Int) (fv v : Value) (ps : Flds) (s r a : Int) (b : Bool) (n p : Int) (w w' : World) : Prop where
  x : LnS N st fv s r a b n p w w'
  m : StB M w' st v s r a b
  d : DvB R w' noneD
  rv : ReadsQ w' v ps
theorem PlS.below {N M R : Nat} {st : Int} {fv v : Value} {ps : Flds} {s r a : Int} {b : Bool} {n p : Int} {w w1 w2 : World} (h : PlS N M R st fv v ps s r a b n p w w1) (hb : Below w1.heap.size w1 w2) : PlS N M R st fv v ps s r a b n p w w2 := ⟨h.x.below hb, h.m.below hb, h.d.below hb, h.rv.below hb⟩
set_option maxHeartbeats 8000000 in
set_option maxRecDepth 100000 in
theorem po_plain_walk (st : Int) (fa : Option Addr) (fc : Nat) (ps : Flds) (s r a : Int) (b : Bool) (n p : Int) (w : World) (hE : EnvL w) (hr : ReadsQ w (.slice fa ps.length fc) ps) (hu : 2 * ps.length + totL ps ≤ 3000000) :
    Calls Tryz.prog 8 #[stV st (.slice fa ps.length fc) s r a b, .agg #[.int .i64 n, .int .i64 p]] w fun e w' => e = .returned (.bool true) ∧ Below w.heap.size w w' := by
  generalize hfv : Value.slice fa ps.length fc = fv at *
  clear hfv
  have HS := Lib.hid (LnS.new st fv s r a b n p w 26 30)
  have HLg := Lib.hid (fun (w : World) (hr : ReadsQ w fv ps) => poLarge_any fv ps w hr (by omega))
  have HAw := Lib.hid (fun (w : World) (hE : EnvL w) => awake17_any w hE)
  have HE := Lib.hid hE
  have HR := Lib.hid hr
  have HSt := Lib.hid (fun (w : World) (hr : ReadsQ w fv ps) (hf : FitL ps) => stored_any st fv ps s r a b w hr hf)
  have HNo := Lib.hid (fun (w : World) => none_any w)
  generalize hlg : poLargeB ps = lg at *
  cases lg with
  | true =>
    clear hlg
    go_enter Tryz.func8, Tryz.ntmps8
    go_upto_region 1 with fail
    change Code.wp _ _ _ _ ((w.alloc (.cells (stC st fv s r a b) 26)).alloc (.cells #[.int .i64 n, .int .i64 p] 30))
    generalize ((w.alloc (.cells (stC st fv s r a b) 26)).alloc (.cells #[.int .i64 n, .int .i64 p] 30)) = W at *
    obtain ⟨c0, c1, c2, c3, c4, c5, fr, lt⟩ := HS.out.a
    go_wp2_with fail
    refine (HLg.out _ (HR.out.below HS.out.l)).mono ?_
    rintro e w1 ⟨rfl, hB⟩
    have HS1 := Lib.hid (HS.out.below hB)
    clear c0 c1 c2 c3 c4 c5 fr lt hB HS
    obtain ⟨c0, c1, c2, c3, c4, c5, fr, lt⟩ := HS1.out.a
    go_wp2_with fail
    refine (HLg.out _ (HR.out.below HS1.out.l)).mono ?_
    rintro e w2 ⟨rfl, hB⟩
    have HS2 := Lib.hid (HS1.out.below hB)
    clear c0 c1 c2 c3 c4 c5 fr lt hB HS1
    go_wp2_with fail
    go_ret
    exact ⟨rfl, HS2.out.l⟩
  | false =>
    have hfit := poFitL hlg
    clear hlg
    obtain ⟨dd, de, dl, hf⟩ := fldP_ex hfit
    have HJ := Lib.hid (fun (v : Value) (w : World) (hr : ReadsQ w v ps) (hE : EnvL w) => rank_any st v ps s r a b noneD n p dd de dl w hr none_fit hf hE)
    rw [norm_id nor_none] at HJ
    have HO := Lib.hid (fun (v : Value) (w : World) (hr : ReadsQ w v ps) (hE : EnvL w) => lfOf_any st v ps dd de dl w hr hf.fit hf.d hf.e hf.l hE)
    have HP := Lib.hid (fun (v : Value) (w : World) (hr : ReadsQ w v ps) (hE : EnvL w) => parse11_any v ps w hr (by have := hf.fit.len; omega) hf.fit.each hE.1)
    have HOn := Lib.hid (fun (v : Value) (w : World) (hr : ReadsQ w v ps) (hE : EnvL w) => onErr_any st v ps s r a b n p dd de dl w hr hf hE)
    have HLi := Lib.hid (fun (v : Value) (w : World) (hr : ReadsQ w v ps) (hE : EnvL w) => limit_any st v ps s r a b dd de dl w hr hf hE)
    have HSt := Lib.hid (fun (w : World) (hr : ReadsQ w fv ps) => HSt.out w hr hfit)
    unfold lifV at HJ HOn HLi
    generalize parseD (allL ps nCC) = D at *
    generalize hasF ps nEX = x at *
    generalize (ofV st D x dd de dl).2 = kX at *
    generalize (ofV st D x dd de dl).1 = X at *
    generalize whiV ps = Y at *
    generalize oneV ps = Z at *
    have HFr := Lib.hid (fun (w : World) => fresh_any s r a n p X w)
    unfold frA at HFr
    generalize okA s r n = ok at *
    generalize topA s a n p = U at *
    have h1 := fun (h : D.nc = false) => plain_one h ok X Y U b
    have h3 := plain_three ok D X Y U b
    have h4 := jdg_four (ok := ok) (d := D) (q := noneD) (life := X) (wl := Y) (hi := U) (hv := b)
    have hbd := jdg_bd ok D noneD X Y U b
    have hnc := fun (h : D.nc = true) => jdg_not (ok := ok) (d := D) (q := noneD) (show useB ok D noneD = false by unfold useB; rw [h]; cases ok <;> rfl) X Y U b
    generalize jdgV ok D noneD X Y U b = V at *
    have hfl := fldp_nc D
    have HP := Lib.hid (show ∀ (v : Value) (w : World), ReadsQ w v ps → EnvL w → Calls Tryz.prog 28 #[v] w fun e w' => e = .returned (.agg #[.bool D.ns, .bool D.nc, .bool D.pr, .bool D.pu, .bool D.mr, .bool D.oc, .int .i64 D.ma, .int .i64 D.sa, .int .i64 D.ws, .int .i64 D.oe, .int .i64 D.ms, .int .i64 D.mf]) ∧ Below w.heap.size w w' from HP.out)
    clear hr hf hE hfit
    go_enter Tryz.func8, Tryz.ntmps8
    go_upto_region 1 with fail
    change Code.wp _ _ _ _ ((w.alloc (.cells (stC st fv s r a b) 26)).alloc (.cells #[.int .i64 n, .int .i64 p] 30))
    generalize ((w.alloc (.cells (stC st fv s r a b) 26)).alloc (.cells #[.int .i64 n, .int .i64 p] 30)) = W at *
    obtain ⟨c0, c1, c2, c3, c4, c5, fr, lt⟩ := HS.out.a
    go_wp2_with fail
    refine (HLg.out _ (HR.out.below HS.out.l)).mono ?_
    rintro e w1 ⟨rfl, hB⟩
    have HS1 := Lib.hid (HS.out.below hB)
    clear c0 c1 c2 c3 c4 c5 fr lt hB HS
    go_wp2_with fail
    refine (HAw.out _ (HE.out.below HS1.out.l)).mono ?_
    rintro e w2 ⟨rfl, hB⟩
    have HS2 := Lib.hid (HS1.out.below hB)
    clear hB HS1
    go_upto_region 3 with fail
    obtain ⟨c0, c1, c2, c3, c4, c5, _, _⟩ := HS2.out.a
    go_wp2_with fail
    refine (HSt.out _ (HR.out.below HS2.out.l)).mono ?_
    rintro e w3 ⟨v, rfl, hv3, hB⟩
    have hv3' := hv3
    obtain ⟨va, vc, hve, _⟩ := hv3'
    subst hve
    have HS3 := Lib.hid (HS2.out.below hB)
    clear c0 c1 c2 c3 c4 c5 hB HS2
    have HS4 := Lib.hid (HS3.out.below (below_new w3 (.cells (stC st (.slice va ps.length vc) s r a b) 38)))
    have HM4 := Lib.hid (StB.new w3 st (.slice va ps.length vc) s r a b 38)
    have HV4 := Lib.hid (hv3.below (below_new w3 (.cells (stC st (.slice va ps.length vc) s r a b) 38)))
    clear hv3 HS3
    go_upto_region 4 with fail
    change Code.wp _ _ _ _ (w3.alloc (.cells (stC st (.slice va ps.length vc) s r a b) 38))
    generalize w3.heap.size = M at *
    generalize (w3.alloc (.cells (stC st (.slice va ps.length vc) s r a b) 38)) = W4 at *
    go_wp2_with fail
    refine (HNo.out _).mono ?_
    rintro e w5 ⟨rfl, hB⟩
    have b5 := below_new w5 (.cells (dvC noneD) 40)
    have H6 := Lib.hid (PlS.mk (R := w5.heap.size) ((HS4.out.below hB).below b5) ((HM4.out.below hB).below b5) (dvB_new w5 noneD 40) ((HV4.out.below hB).below b5))
    clear hB b5 HS4 HM4 HV4
    go_upto_region 5 with fail
    change Code.wp _ _ _ _ (w5.alloc (.cells (dvC noneD) 40))
    generalize w5.heap.size = R at *
    generalize (w5.alloc (.cells (dvC noneD) 40)) = W6 at *
    obtain ⟨c0, c1, c2, c3, c4, c5, _, _⟩ := H6.out.m
    obtain ⟨d0, d1, d2, d3, d4, d5, d6, d7, d8, d9, d10, d11, _, _⟩ := H6.out.d
    have t0 := H6.out.x.t0
    have t1 := H6.out.x.t1
    go_wp2_with fail
    refine (HJ.out _ _ H6.out.rv (HE.out.below H6.out.x.l)).mono ?_
    rintro e w7 ⟨rfl, hB⟩
    have H7 := Lib.hid (H6.out.below hB)
    clear c0 c1 c2 c3 c4 c5 d0 d1 d2 d3 d4 d5 d6 d7 d8 d9 d10 d11 t0 t1 hB H6
    have a0 := H7.out.x.a.c0
    obtain ⟨c0, c1, c2, c3, c4, c5, _, _⟩ := H7.out.m
    obtain ⟨d0, d1, d2, d3, d4, d5, d6, d7, d8, d9, d10, d11, _, _⟩ := H7.out.d
    have t0 := H7.out.x.t0
    have t1 := H7.out.x.t1
    go_wp2_with fail
    refine (HO.out _ _ H7.out.rv (HE.out.below H7.out.x.l)).mono ?_
    rintro e w8 ⟨rfl, hB⟩
    have H8 := Lib.hid (H7.out.below hB)
    clear c0 c1 c2 c3 c4 c5 d0 d1 d2 d3 d4 d5 d6 d7 d8 d9 d10 d11 t0 t1 hB H7
    clear a0
    obtain ⟨c0, c1, c2, c3, c4, c5, _, _⟩ := H8.out.m
    obtain ⟨d0, d1, d2, d3, d4, d5, d6, d7, d8, d9, d10, d11, _, _⟩ := H8.out.d
    have t0 := H8.out.x.t0
    have t1 := H8.out.x.t1
    go_wp2_with fail
    refine (HP.out _ _ H8.out.rv (HE.out.below H8.out.x.l)).mono ?_
    rintro e w9 ⟨rfl, hB⟩
    have H9 := Lib.hid (H8.out.below hB)
    clear c0 c1 c2 c3 c4 c5 d0 d1 d2 d3 d4 d5 d6 d7 d8 d9 d10 d11 t0 t1 hB H8
    cases hn : D.nc with
    | true =>
      have hv := hnc hn
      have hv4 : 4 ≤ V := by rw [hv]; split <;> omega
      have HOn := Lib.hid (fun w hr hE => HOn.out (.slice va ps.length vc) w hr hE)
      have HLi := Lib.hid (fun w hr hE => HLi.out (.slice va ps.length vc) w hr hE)
      unfold onV limV at *
      rw [hn, Bool.not_true, Bool.and_false, Bool.false_and] at HOn
      rw [hn, if_pos rfl] at HLi
      rw [hn] at hfl
      clear h1 h3 h4 hnc hv
      obtain ⟨c0, c1, c2, c3, c4, c5, _, _⟩ := H9.out.m
      obtain ⟨d0, d1, d2, d3, d4, d5, d6, d7, d8, d9, d10, d11, _, _⟩ := H9.out.d
      have t0 := H9.out.x.t0
      have t1 := H9.out.x.t1
      go_wp2_with fail
      refine (HOn.out _ H9.out.rv (HE.out.below H9.out.x.l)).mono ?_
      rintro e w10 ⟨rfl, hB⟩
      have H10 := Lib.hid (H9.out.below hB)
      clear c0 c1 c2 c3 c4 c5 d0 d1 d2 d3 d4 d5 d6 d7 d8 d9 d10 d11 t0 t1 hB H9
      obtain ⟨c0, c1, c2, c3, c4, c5, _, _⟩ := H10.out.m
      obtain ⟨d0, d1, d2, d3, d4, d5, d6, d7, d8, d9, d10, d11, _, _⟩ := H10.out.d
      have t0 := H10.out.x.t0
      have t1 := H10.out.x.t1
      go_wp2_with fail
      refine (HLi.out _ H10.out.rv (HE.out.below H10.out.x.l)).mono ?_
      rintro e w11 ⟨rfl, hB⟩
      have H11 := Lib.hid (H10.out.below hB)
      clear c0 c1 c2 c3 c4 c5 d0 d1 d2 d3 d4 d5 d6 d7 d8 d9 d10 d11 t0 t1 hB H10
      go_wp2_with fail
      go_ret
      exact ⟨rfl, H11.out.x.l⟩
    | false =>
      have h1 := h1 hn
      rw [hn] at hfl
      clear hnc HOn HLi
      generalize hfr : (ok && decide (U < X)) = fr at *
      clear hfr
      obtain ⟨c0, c1, c2, c3, c4, c5, _, _⟩ := H9.out.m
      obtain ⟨d0, d1, d2, d3, d4, d5, d6, d7, d8, d9, d10, d11, _, _⟩ := H9.out.d
      have t0 := H9.out.x.t0
      have t1 := H9.out.x.t1
      go_wp2_with fail
      refine (HFr.out _).mono ?_
      rintro e w10 ⟨rfl, hB⟩
      have H10 := Lib.hid (H9.out.below hB.below)
      clear c0 c1 c2 c3 c4 c5 d0 d1 d2 d3 d4 d5 d6 d7 d8 d9 d10 d11 t0 t1 hB H9
      have a5 := H10.out.x.a.c5
      have HBf := Lib.hid H10.out.x.l
      clear H10
      cases fr with
      | true =>
        have hv : V = 1 := by rw [h1]
        clear h1 h3 h4 hbd
        subst hv
        go_wp2_with fail
        go_ret
        exact ⟨rfl, HBf.out⟩
      | false =>
        have hv : V ≠ 1 := by rw [Ne, h1]; simp
        have e1 : (V == 1) = false := by simpa using hv
        have e3 : (V == 3) = false := by simpa using h3
        by_cases hv4 : V = 4
        · have hb := h4 hv4
          subst hb
          clear h1 h3 h4 hbd
          have e4 : (V == 4) = true := by simpa using hv4
          go_wp2_with fail
          go_ret
          exact ⟨by first | rfl | simp [hv4], HBf.out⟩
        · have e4 : (V == 4) = false := by simpa using hv4
          clear h1 h3 h4 hbd
          go_wp2_with fail
          go_ret
          exact ⟨by first | rfl | simp [hv4], HBf.out⟩
end Go.Proofs.YtieolalohindgaaGreatDoor
