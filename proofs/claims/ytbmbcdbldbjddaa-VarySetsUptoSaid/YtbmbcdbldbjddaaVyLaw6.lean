/- VarySets: the walk. -/
import Derived.Test.YtbmbcdbldbjddaaVyLaw5
import Derived.Test.YtbmbcdbldbjddaaVyRefSet
namespace Go.Proofs.Ytbmbcdbldbjddaa
open Go.RowKit

theorem ReadsV.slc {G : Nat → Prop} {w : World} {v : Value} {l : List Vr} (h : ReadsV G w v l) : ∃ a c, v = .slice a l.length c := by
  obtain ⟨a, c, rfl, _⟩ := h; exact ⟨a, c, rfl⟩
theorem ReadsS.gB {w W : World} {v : Value} {ls : List (List UInt8)} {G : Nat → Prop} (h : ReadsS w v ls) (hb : Below w.heap.size w W) (hG : ∀ k, k < w.heap.size → G k) : ReadsG G W v ls := by
  obtain ⟨ao, cap, rfl, hc⟩ := h
  refine ⟨ao, cap, rfl, fun j l hj => ?_⟩
  obtain ⟨g, off, h1, h2, h3⟩ := hc j l hj
  exact ⟨g, off, h1, Nat.lt_of_lt_of_le h2 hb.size, hG g h2, (hb.cell (p := ⟨g, off + j, none⟩) h2).trans h3⟩
theorem bool_ne (b : Bool) : (b != b) = false := by cases b <;> rfl
set_option maxHeartbeats 32000000 in
set_option maxRecDepth 100000 in
theorem vy_sets_walk (a : Option Addr) (c : Nat) (ss : List Stp) (w : World) (hr : ReadsT w (.slice a ss.length c) ss) (ho : ∀ s ∈ ss, s.Ok ∧ s.ns.length + sumL s.ns ≤ 90000000 ∧ 2 * s.ps.length + totL s.ps ≤ 90000000) (hsl : ss.length ≤ 90000000) :
    Calls Try.prog 5 #[.slice a ss.length c] w fun e w' => e = .returned (.bool true) ∧ Below w.heap.size w w' := by
  have HA := Lib.hid (fun (W : World) => awake16_any W)
  have HT := Lib.hid hr
  have HOk := Lib.hid ho
  clear hr ho
  by_cases h40 : 40 < ss.length
  · go_enter Try.func5, Try.ntmps5
    go_wp2_with fail
    go_ret
    exact ⟨by first | rfl | exact ret_bool (decide_eq_true (by omega)), Below.refl _ _⟩
  · go_enter Try.func5, Try.ntmps5
    go_wp2_with fail
    refine (HA.out _).mono ?_
    rintro e w1 ⟨rfl, hB1⟩
    have HB1 := Lib.hid hB1
    have hs1 := hB1.size
    clear hB1
    go_wp2_with fail
    refine (setNew_any w1).mono ?_
    rintro e w4 ⟨rfl, hS4, hB4⟩
    have HB4 := Lib.hid (HB1.out.trans (hB4.mono hs1))
    have HS4 := Lib.hid hS4
    have hs14 : w1.heap.size < w4.heap.size := hS4.lt _ rfl
    clear hS4 hB4
    go_wp2_with fail
    go_loopw [4, 25] (fun u i wr => ∃ (k : Nat) (l : List Vr) (F : Nat → Prop), i = .int .i64 k ∧ k ≤ ss.length ∧ SetO F wr w1.heap.size l ∧ InvV l ∧ FitV l ∧ (∀ j, F j → w.heap.size ≤ j) ∧ ReadsV (fun j => ¬ F j) wr u l ∧ Below w.heap.size w wr) (fun _ i _ => ss.length - (intOf i).toNat)
    case atStart => exact ⟨0, [], _, rfl, Nat.zero_le _, HS4.out, inv_nil, fitV_nil, fun j hj => by omega, ⟨none, 0, rfl, fun j e h => by simp at h⟩, HB4.out⟩
    case round =>
      obtain ⟨k, l, F, rfl, hk, hS, hI, hFv, hFw, hRV, hBr⟩ := hrel
      obtain ⟨ua, uc, rfl⟩ := hRV.slc
      have hbr := hBr.size
      have HS := Lib.hid hS
      have HI := Lib.hid hI
      have HFv := Lib.hid hFv
      have HFw := Lib.hid hFw
      have HRV := Lib.hid hRV
      have HBr := Lib.hid hBr
      clear hS hI hFv hFw hBr hRV
      by_cases hlt : k < ss.length
      · obtain ⟨s, hs⟩ : ∃ s, ss[k]? = some s := ⟨ss[k], by simp [hlt]⟩
        obtain ⟨_, _, e0, hcx⟩ := HT.out
        simp only [Value.slice.injEq, true_and] at e0
        obtain ⟨rfl, rfl⟩ := e0
        obtain ⟨g, off, na, nc, fa, fc, rfl, hg, g0, g1, g2, g3, hrn, hrf⟩ := hcx k s hs
        have d0 := (HBr.out.cell (p := ⟨g, off + k * 4, none⟩) hg).trans g0
        have d1 := (HBr.out.cell (p := ⟨g, off + k * 4 + 1, none⟩) hg).trans g1
        have d2 := (HBr.out.cell (p := ⟨g, off + k * 4 + 2, none⟩) hg).trans g2
        have d3 := (HBr.out.cell (p := ⟨g, off + k * 4 + 3, none⟩) hg).trans g3
        obtain ⟨hsok, hsn, hsp⟩ := HOk.out s (List.mem_of_getElem? hs)
        obtain ⟨hi1, hi2⟩ := hsok.i0
        obtain ⟨hw1, hw2⟩ := hsok.w0
        have HN := Lib.hid hrn
        have HR := Lib.hid hrf
        have HL := Lib.hid (fun (W : World) (hB : Below w.heap.size w W) => long16_any _ s.ns W (hrn.below hB) hsn)
        have HG := Lib.hid (fun (W : World) (hB : Below w.heap.size w W) => largeOne_any _ s.ps W (hrf.below hB) hsp)
        clear hs hcx g0 g1 g2 g3 hrn hrf hsok hsn hsp
        go_upto_region 8 with fail
        have HX := Lib.hid (BoxT.new wr s na nc fa fc 45)
        have HBx := Lib.hid (HBr.out.trans ((below_new wr (.cells #[.int .u8 s.what, .slice na s.ns.length nc, .slice fa s.ps.length fc, .int .i8 s.id] 45)).mono hbr))
        have HSx := Lib.hid (HS.out.below (below_new wr (.cells #[.int .u8 s.what, .slice na s.ns.length nc, .slice fa s.ps.length fc, .int .i8 s.id] 45)))
        have HVx := Lib.hid (HRV.out.below (below_new wr (.cells #[.int .u8 s.what, .slice na s.ns.length nc, .slice fa s.ps.length fc, .int .i8 s.id] 45)))
        have HNF := Lib.hid (show ¬ F wr.heap.size from fun e => Nat.lt_irrefl _ (HS.out.lt _ e))
        change Code.wp _ _ _ _ (wr.alloc (.cells #[.int .u8 s.what, .slice na s.ns.length nc, .slice fa s.ps.length fc, .int .i8 s.id] 45))
        generalize (wr.alloc (.cells #[.int .u8 s.what, .slice na s.ns.length nc, .slice fa s.ps.length fc, .int .i8 s.id] 45)) = W0 at *
        generalize hNb : wr.heap.size = N at *
        clear d0 d1 d2 d3 HS hNb HRV
        obtain ⟨k0, k1, k2, k3, _⟩ := HX.out
        cases h1 : lonB s.ns with
        | true =>
          rw [h1] at HL
          clear h1
          go_wp2_with fail
          refine (HL.out _ HBx.out).mono ?_
          rintro e w5 ⟨rfl, hw5⟩
          obtain rfl := hw5.symm
          go_wp2_with fail
          go_ret
          exact ⟨rfl, HBx.out⟩
        | false =>
          rw [h1] at HL
          have hfn := lon_fit h1
          clear h1
          cases h2 : lgV [(Value.slice fa s.ps.length fc, s.ps)] with
          | true =>
            rw [h2] at HG
            clear h2
            go_wp2_with fail
            refine (HL.out _ HBx.out).mono ?_
            rintro e w5 ⟨rfl, hw5⟩
            obtain rfl := hw5.symm
            go_wp2_with fail
            refine (HG.out _ HBx.out).mono ?_
            rintro e w6 ⟨rfl, hB6⟩
            go_wp2_with fail
            go_ret
            exact ⟨rfl, HBx.out.trans (hB6.mono HBx.out.size)⟩
          | false =>
            rw [h2] at HG
            have hb3 := lg_fit1 h2
            have HFn := Lib.hid hfn
            have HFk := Lib.hid (fitK_of hb3)
            have HF := Lib.hid (fun (W : World) (hB : Below w.heap.size w W) => fieldsK_any fa fc s.ps W (HR.out.below hB) hb3)
            clear h2 hb3 hfn
            go_wp2_with fail
            refine (HL.out _ HBx.out).mono ?_
            rintro e w5 ⟨rfl, hw5⟩
            obtain rfl := hw5.symm
            go_wp2_with fail
            refine (HG.out _ HBx.out).mono ?_
            rintro e w6 ⟨rfl, hB6⟩
            have HB6 := Lib.hid (HBx.out.trans (hB6.mono HBx.out.size))
            have HS6 := Lib.hid (HSx.out.below hB6)
            have HV6 := Lib.hid (HVx.out.below hB6)
            have HX6 := Lib.hid (HX.out.below hB6)
            obtain ⟨q0, q1, q2, q3, _⟩ := HX6.out
            clear hB6 k0 k1 k2 k3 HX HSx HBx HVx
            go_wp2_with fail
            refine (HF.out _ HB6.out).mono ?_
            rintro e w7 ⟨a7, c7, rfl, hR7, hO7, hB7⟩
            have HB7 := Lib.hid (HB6.out.trans (hB7.mono HB6.out.size))
            have HS7 := Lib.hid (HS6.out.below hB7)
            have HV7 := Lib.hid (HV6.out.below hB7)
            have HX7 := Lib.hid (HX6.out.below hB7)
            have HR7 := Lib.hid hR7
            clear hB7 hR7 hO7 q0 q1 q2 q3 HX6 HS6 HV6 HL HG HF
            obtain ⟨k0, k1, k2, k3, _⟩ := HX7.out
            by_cases hm2 : s.what % 4 = 2
            · have hme2 : (s.what % 4 == 2) = true := by rw [hm2]; rfl
              go_upto_region 18 with fail
              have HFi := Lib.hid (fun (W : World) (hB : Below w7.heap.size w7 W) => setFind_any w1.heap.size l _ s.ps F W (HS7.out.below hB) HFv.out (HR7.out.below hB) HFk.out)
              have HFr := Lib.hid (fun (W : World) (hB : Below w7.heap.size w7 W) => refFind_any _ l _ fa fc s.ps W (HV7.out.below hB) (HR.out.below (HB7.out.trans (hB.mono HB7.out.size))) HFv.out HFk.out)
              have hX0 := HX7.out.below (Below.refl _ w7).drew
              have hB0 := (Below.refl w7.heap.size w7).drew
              refine wp_region_held_drew (S := (fun w' => w'.cell? ⟨N, 2, none⟩ = some (.slice fa s.ps.length fc) ∧ (BoxT N s na nc fa fc w' ∧ Below w7.heap.size w7 w'))) (by kernel_rfl) (⟨hX0.c2, hX0, hB0⟩) (fun hHeld => ?_)
              generalize w7.drew = V0 at *
              clear k0 k1 k2 k3
              refine wpAnyH_take (i := 0) (oi := { dst := some 73, op := _, type := _, pos := _, after := _, guard := _ }) (v := ?_) rfl (by kernel_rfl) (by kernel_rfl) (by kernel_rfl) (fun _ _ _ h => h) (Or.inl ⟨by rfl, ?_⟩) (by assumption) ?_
              rotate_left
              focus (intro w hSw; (try dsimp only at hSw); first | (go_simp; done) | (go_simp; with_reducible rfl))
              (try simp only [Act.put, List.setIfInBounds_toArray, List.set_cons_zero, List.set_cons_succ])
              refine wpAnyH_take (i := 1) (oi := { dst := some 74, op := _, type := _, pos := _, after := _, guard := _ }) (v := ?_) rfl (by kernel_rfl) (by kernel_rfl) (by kernel_rfl) (fun _ _ _ h => h) (Or.inl ⟨by rfl, ?_⟩) (by assumption) ?_
              rotate_left
              focus (intro w hSw; (try dsimp only at hSw); first | (go_simp; done) | (go_simp; with_reducible rfl))
              (try simp only [Act.put, List.setIfInBounds_toArray, List.set_cons_zero, List.set_cons_succ])
              refine wpAnyH_take (i := 3) (oi := { dst := some 76, op := _, type := _, pos := _, after := _, guard := _ }) (v := ?_) rfl (by kernel_rfl) (by kernel_rfl) (by kernel_rfl) (fun _ _ _ h => h) (Or.inl ⟨by rfl, ?_⟩) (by assumption) ?_
              rotate_left
              focus (intro w hSw; (try dsimp only at hSw); first | (go_simp; done) | (go_simp; with_reducible rfl))
              (try simp only [Act.put, List.setIfInBounds_toArray, List.set_cons_zero, List.set_cons_succ])
              refine wpAnyH_take (i := 4) (oi := { dst := some 77, op := _, type := _, pos := _, after := _, guard := _ }) (v := ?_) rfl (by kernel_rfl) (by kernel_rfl) (by kernel_rfl) (fun _ _ _ h => h) (Or.inl ⟨by rfl, ?_⟩) (by assumption) ?_
              rotate_left
              focus (intro w hSw; (try dsimp only at hSw); first | (go_simp; done) | (go_simp; with_reducible rfl))
              (try simp only [Act.put, List.setIfInBounds_toArray, List.set_cons_zero, List.set_cons_succ])
              refine wpAnyH_take (i := 5) (oi := { dst := some 78, op := _, type := _, pos := _, after := _, guard := _ }) (v := ?_) rfl (by kernel_rfl) (by kernel_rfl) (by kernel_rfl) (fun _ _ _ h => h) (Or.inl ⟨by rfl, ?_⟩) (by assumption) ?_
              rotate_left
              focus (intro w hSw; (try dsimp only at hSw); first | (go_simp; done) | (go_simp; with_reducible rfl))
              (try simp only [Act.put, List.setIfInBounds_toArray, List.set_cons_zero, List.set_cons_succ])
              refine wpAnyH_ready (rs := [2]) (by kernel_rfl) (by simp) ?_
              refine AllReadyH.cons (o := { dst := some 75, op := _, type := _, pos := _, after := _, guard := _ }) rfl (fun K hK => ?_) AllReadyH.nil
              go_simp
              refine (HFi.out _ hB0).mono ?_
              rintro x V1 ⟨v75, rfl, hO75, hBc⟩
              have hX1 := hX0.below hBc
              have hB1 := hB0.trans (hBc.mono hB0.size)
              have hZ75 := hO75.reads
              refine hK.out _ _ ⟨hX1.c2, hX1, hB1⟩ (fun hH1 => ?_)
              clear hK K hBc hX0 hB0 hHeld hO75
              (try simp only [Act.put, List.setIfInBounds_toArray, List.set_cons_zero, List.set_cons_succ])
              refine wpAnyH_ready (rs := [6]) (by kernel_rfl) (by simp) ?_
              refine AllReadyH.cons (o := { dst := some 79, op := _, type := _, pos := _, after := _, guard := _ }) rfl (fun K hK => ?_) AllReadyH.nil
              go_simp
              refine (HFr.out _ hB1).mono ?_
              rintro x V2 ⟨v79, rfl, hO79, hBc⟩
              have hX2 := hX1.below hBc
              have hB2 := hB1.trans (hBc.mono hB1.size)
              have hZ79 := hO79.reads
              have hZ75' := hZ75.below hBc
              refine hK.out _ _ ⟨hX2.c2, hX2, hB2⟩ (fun hH2 => ?_)
              clear hK K hBc hX1 hB1 hH1 hO79 hZ75
              (try simp only [Act.put, List.setIfInBounds_toArray, List.set_cons_zero, List.set_cons_succ])
              have hIn := ints_any _ _ (findV l s.ps) (findV l s.ps) V2 hZ75' hZ79 (by have := find_len l s.ps; have := HFv.out.len; omega)
              rw [decide_eq_true rfl] at hIn
              clear hZ75' hZ79
              refine wpAnyH_ready (rs := [7]) (by kernel_rfl) (by simp) ?_
              refine AllReadyH.cons (o := { dst := some 80, op := _, type := _, pos := _, after := _, guard := _ }) rfl (fun K hK => ?_) AllReadyH.nil
              go_simp
              refine hIn.mono ?_
              rintro x V3 ⟨rfl, n3, rfl⟩
              have hX3 := hX2.below (below_drewN (Below.refl V2.heap.size V2) n3)
              have hB3 := below_drewN hB2 n3
              refine hK.out _ _ ⟨hX3.c2, hX3, hB3⟩ (fun hH3 => ?_)
              clear hK K hX2 hB2 hH2
              (try simp only [Act.put, List.setIfInBounds_toArray, List.set_cons_zero, List.set_cons_succ])
              generalize V2.drewN n3 = V3 at *
              refine wpAnyH_take (i := 8) (oi := { dst := some 81, op := _, type := _, pos := _, after := _, guard := _ }) (v := ?_) rfl (by kernel_rfl) (by kernel_rfl) (by kernel_rfl) (fun _ _ _ h => h) (Or.inl ⟨by rfl, ?_⟩) (by assumption) ?_
              rotate_left
              focus (intro w hSw; (try dsimp only at hSw); first | (go_simp; done) | (go_simp; with_reducible rfl))
              (try simp only [Act.put, List.setIfInBounds_toArray, List.set_cons_zero, List.set_cons_succ])
              refine wpAnyH_done (by kernel_rfl) ?_ _
              (try simp only [Exit.then])
              have HSE := Lib.hid (HS7.out.below hB3)
              have HVE := Lib.hid (HV7.out.below hB3)
              have HBE := Lib.hid (HB7.out.trans (hB3.mono HB7.out.size))
              have HFE := Lib.hid HFw.out
              clear hX3 hB3 hH3 hIn
              have HIa := Lib.hid (setIDs_any w1.heap.size l F V3 HSE.out HFv.out)
              go_wp2_with fail
              refine HIa.out.mono ?_
              rintro e wa ⟨va, rfl, hOa, hBa⟩
              have HBa := Lib.hid (HBE.out.trans (hBa.mono HBE.out.size))
              have HSa := Lib.hid (HSE.out.below hBa)
              have HVa := Lib.hid (HVE.out.below hBa)
              have HZa := Lib.hid hOa.reads
              clear hOa hBa HIa
              have HIb := Lib.hid (refIDs_any _ l _ wa HVa.out (Nat.le_trans HFv.out.len (by omega)))
              go_wp2_with fail
              refine HIb.out.mono ?_
              rintro e wb ⟨vb, rfl, hOb, hBb⟩
              have HBb := Lib.hid (HBa.out.trans (hBb.mono HBa.out.size))
              have HSb := Lib.hid (HSa.out.below hBb)
              have HVb := Lib.hid (HVa.out.below hBb)
              have hIc := ints_any _ _ (idsV l) (idsV l) wb (HZa.out.below hBb) hOb.reads (by unfold idsV; rw [List.length_map]; have := HFv.out.len; omega)
              rw [decide_eq_true rfl] at hIc
              have HIc := Lib.hid hIc
              clear hOb hBb HIb hIc
              go_wp2_with fail
              refine HIc.out.mono ?_
              rintro e wc ⟨rfl, nc2, rfl⟩
              have HBc := Lib.hid (below_drewN (Below.refl wb.heap.size wb) nc2)
              generalize wb.drewN nc2 = wc at *
              go_wp2_with fail
              go_roundw
              case rel => exact ⟨k + 1, l, F, by go_num, by omega, HSb.out.below HBc.out, HI.out, HFv.out, HFE.out, HVb.out.below HBc.out, HBb.out.trans (HBc.out.mono HBb.out.size)⟩
              case measure => simp [intOf]; omega
            · by_cases hm3 : s.what % 4 = 3
              · have hme2 : (s.what % 4 == 2) = false := by rw [hm3]; rfl
                have hme3 : (s.what % 4 == 3) = true := by rw [hm3]; rfl
                have HRm := Lib.hid (setRemove_any w1.heap.size l s.id F w7 HS7.out (by have := HFv.out.len; omega))
                go_wp2_with fail
                refine HRm.out.mono ?_
                rintro e w8 ⟨rfl, hS8, hN8⟩
                have HB8 := Lib.hid (HB7.out.trans (hN8.to HFw.out HB7.out.size))
                have HS8 := Lib.hid hS8
                have HV8 := Lib.hid (HV7.out.only hN8 (fun _ _ h => h))
                have HX8 := Lib.hid (HX7.out.only hN8 HNF.out)
                have HRr := Lib.hid (refRemove_any _ l s.id _ w8 HV8.out (by have := HFv.out.len; omega))
                clear k0 k1 k2 k3 hS8 hN8 HRm
                obtain ⟨k0, k1, k2, k3, _⟩ := HX8.out
                obtain ⟨bb, hbb⟩ : ∃ b, decide ((otherV l s.id).length < l.length) = b := ⟨_, rfl⟩
                rw [hbb] at HRr
                rw [hbb]
                have hbn := bool_ne bb
                clear hbb
                go_wp2_with fail
                refine HRr.out.mono ?_
                rintro e w9 ⟨v9, rfl, hO9, hB9⟩
                have HSE := Lib.hid (HS8.out.below hB9)
                have HVE := Lib.hid (hO9.reads (G := fun j => ¬ F j) (fun j _ hj => hj.1) (fun j _ hj e => by have := (own_lt hO9 j hj).1; have := HS8.out.lt j e; omega))
                have HBE := Lib.hid (HB8.out.trans (hB9.mono HB8.out.size))
                have HFE := Lib.hid HFw.out
                obtain ⟨va9, vc9, rfl⟩ := HVE.out.slc
                clear hO9 hB9 k0 k1 k2 k3
                have HIa := Lib.hid (setIDs_any w1.heap.size (otherV l s.id) F w9 HSE.out (fitV_rem (id := s.id) HFv.out))
                go_wp2_with fail
                refine HIa.out.mono ?_
                rintro e wa ⟨va, rfl, hOa, hBa⟩
                have HBa := Lib.hid (HBE.out.trans (hBa.mono HBE.out.size))
                have HSa := Lib.hid (HSE.out.below hBa)
                have HVa := Lib.hid (HVE.out.below hBa)
                have HZa := Lib.hid hOa.reads
                clear hOa hBa HIa
                have HIb := Lib.hid (refIDs_any _ (otherV l s.id) _ wa HVa.out (Nat.le_trans (fitV_rem (id := s.id) HFv.out).len (by omega)))
                go_wp2_with fail
                refine HIb.out.mono ?_
                rintro e wb ⟨vb, rfl, hOb, hBb⟩
                have HBb := Lib.hid (HBa.out.trans (hBb.mono HBa.out.size))
                have HSb := Lib.hid (HSa.out.below hBb)
                have HVb := Lib.hid (HVa.out.below hBb)
                have hIc := ints_any _ _ (idsV (otherV l s.id)) (idsV (otherV l s.id)) wb (HZa.out.below hBb) hOb.reads (by unfold idsV; rw [List.length_map]; have := (fitV_rem (id := s.id) HFv.out).len; omega)
                rw [decide_eq_true rfl] at hIc
                have HIc := Lib.hid hIc
                clear hOb hBb HIb hIc
                go_wp2_with fail
                refine HIc.out.mono ?_
                rintro e wc ⟨rfl, nc2, rfl⟩
                have HBc := Lib.hid (below_drewN (Below.refl wb.heap.size wb) nc2)
                generalize wb.drewN nc2 = wc at *
                go_wp2_with fail
                go_roundw
                case rel => exact ⟨k + 1, (otherV l s.id), F, by go_num, by omega, HSb.out.below HBc.out, (inv_rem HI.out s.id), (fitV_rem (id := s.id) HFv.out), HFE.out, HVb.out.below HBc.out, HBb.out.trans (HBc.out.mono HBb.out.size)⟩
                case measure => simp [intOf]; omega
              · have hme2 : (s.what % 4 == 2) = false := by simpa using hm2
                have hme3 : (s.what % 4 == 3) = false := by simpa using hm3
                have HP := Lib.hid (setPut_any w1.heap.size l _ s.ns _ s.ps s.id F w7 HS7.out HI.out HFv.out (HN.out.below HB7.out) HR7.out HFn.out HFk.out)
                go_wp2_with fail
                refine HP.out.mono ?_
                rintro e w9 ⟨v9, rfl, F', hO9, hS9, hN9, hF9⟩
                obtain ⟨a9, c9, rfl⟩ := hO9.reads.slc
                have HB9 := Lib.hid (HB7.out.trans (hN9.to HFw.out HB7.out.size))
                have HX9 := Lib.hid (HX7.out.only hN9 HNF.out)
                have HZ9 := Lib.hid hO9.reads
                have HS9 := Lib.hid hS9
                have HV9 := Lib.hid (((HV7.out.mono (H := fun j => ¬ F j ∧ j < w7.heap.size) (fun j h1 h2 => ⟨h2, h1⟩)).only hN9 (fun j _ hj => hj.1)).mono (H := fun j => ¬ F' j) (fun j _ hj e => (hF9 j e).elim hj.1 (fun x => by omega)))
                have HFE := Lib.hid (show ∀ j, F' j → w.heap.size ≤ j from fun j hj => (hF9 j hj).elim (HFw.out j) (fun e => Nat.le_trans HB7.out.size e))
                clear hO9 hS9 hN9 hF9 HP k0 k1 k2 k3
                go_upto_region 14 with fail
                have HKr := Lib.hid (fun (W : World) (hB : Below w9.heap.size w9 W) => refKey_any _ s.ns _ s.ps W (HN.out.below (HB9.out.trans (hB.mono HB9.out.size))) (HR.out.below (HB9.out.trans (hB.mono HB9.out.size))) HFn.out HFk.out)
                have HPr := Lib.hid (fun (W : World) (hB : Below w9.heap.size w9 W) => refPut_any _ l na nc s.ns (keyL s.ns s.ps) s.id (fun j => ¬ F' j) W (HV9.out.below hB) (ReadsS.gB HN.out (HB9.out.trans (hB.mono HB9.out.size)) (fun j hj e => by have := HFE.out j e; omega)) HFv.out HFn.out)
                have hX0 := HX9.out.below (Below.refl _ w9).drew
                have hB0 := (Below.refl w9.heap.size w9).drew
                refine wp_region_held_drew (S := (fun w' => w'.cell? ⟨N, 1, none⟩ = some (.slice na s.ns.length nc) ∧ w'.cell? ⟨N, 2, none⟩ = some (.slice fa s.ps.length fc) ∧ w'.cell? ⟨N, 3, none⟩ = some (.int .i8 s.id) ∧ (BoxT N s na nc fa fc w' ∧ Below w9.heap.size w9 w'))) (by kernel_rfl) (⟨hX0.c1, hX0.c2, hX0.c3, hX0, hB0⟩) (fun hHeld => ?_)
                generalize w9.drew = V0 at *
                refine wpAnyH_take (i := 0) (oi := { dst := some 53, op := _, type := _, pos := _, after := _, guard := _ }) (v := ?_) rfl (by kernel_rfl) (by kernel_rfl) (by kernel_rfl) (fun _ _ _ h => h) (Or.inl ⟨by rfl, ?_⟩) (by assumption) ?_
                rotate_left
                focus (intro w hSw; (try dsimp only at hSw); first | (go_simp; done) | (go_simp; with_reducible rfl))
                (try simp only [Act.put, List.setIfInBounds_toArray, List.set_cons_zero, List.set_cons_succ])
                refine wpAnyH_take (i := 1) (oi := { dst := some 54, op := _, type := _, pos := _, after := _, guard := _ }) (v := ?_) rfl (by kernel_rfl) (by kernel_rfl) (by kernel_rfl) (fun _ _ _ h => h) (Or.inl ⟨by rfl, ?_⟩) (by assumption) ?_
                rotate_left
                focus (intro w hSw; (try dsimp only at hSw); first | (go_simp; done) | (go_simp; with_reducible rfl))
                (try simp only [Act.put, List.setIfInBounds_toArray, List.set_cons_zero, List.set_cons_succ])
                refine wpAnyH_take (i := 2) (oi := { dst := some 55, op := _, type := _, pos := _, after := _, guard := _ }) (v := ?_) rfl (by kernel_rfl) (by kernel_rfl) (by kernel_rfl) (fun _ _ _ h => h) (Or.inl ⟨by rfl, ?_⟩) (by assumption) ?_
                rotate_left
                focus (intro w hSw; (try dsimp only at hSw); first | (go_simp; done) | (go_simp; with_reducible rfl))
                (try simp only [Act.put, List.setIfInBounds_toArray, List.set_cons_zero, List.set_cons_succ])
                refine wpAnyH_take (i := 3) (oi := { dst := some 56, op := _, type := _, pos := _, after := _, guard := _ }) (v := ?_) rfl (by kernel_rfl) (by kernel_rfl) (by kernel_rfl) (fun _ _ _ h => h) (Or.inl ⟨by rfl, ?_⟩) (by assumption) ?_
                rotate_left
                focus (intro w hSw; (try dsimp only at hSw); first | (go_simp; done) | (go_simp; with_reducible rfl))
                (try simp only [Act.put, List.setIfInBounds_toArray, List.set_cons_zero, List.set_cons_succ])
                refine wpAnyH_take (i := 4) (oi := { dst := some 57, op := _, type := _, pos := _, after := _, guard := _ }) (v := ?_) rfl (by kernel_rfl) (by kernel_rfl) (by kernel_rfl) (fun _ _ _ h => h) (Or.inl ⟨by rfl, ?_⟩) (by assumption) ?_
                rotate_left
                focus (intro w hSw; (try dsimp only at hSw); first | (go_simp; done) | (go_simp; with_reducible rfl))
                (try simp only [Act.put, List.setIfInBounds_toArray, List.set_cons_zero, List.set_cons_succ])
                refine wpAnyH_take (i := 5) (oi := { dst := some 58, op := _, type := _, pos := _, after := _, guard := _ }) (v := ?_) rfl (by kernel_rfl) (by kernel_rfl) (by kernel_rfl) (fun _ _ _ h => h) (Or.inl ⟨by rfl, ?_⟩) (by assumption) ?_
                rotate_left
                focus (intro w hSw; (try dsimp only at hSw); first | (go_simp; done) | (go_simp; with_reducible rfl))
                (try simp only [Act.put, List.setIfInBounds_toArray, List.set_cons_zero, List.set_cons_succ])
                refine wpAnyH_take (i := 6) (oi := { dst := some 59, op := _, type := _, pos := _, after := _, guard := _ }) (v := ?_) rfl (by kernel_rfl) (by kernel_rfl) (by kernel_rfl) (fun _ _ _ h => h) (Or.inl ⟨by rfl, ?_⟩) (by assumption) ?_
                rotate_left
                focus (intro w hSw; (try dsimp only at hSw); first | (go_simp; done) | (go_simp; with_reducible rfl))
                (try simp only [Act.put, List.setIfInBounds_toArray, List.set_cons_zero, List.set_cons_succ])
                refine wpAnyH_take (i := 8) (oi := { dst := some 61, op := _, type := _, pos := _, after := _, guard := _ }) (v := ?_) rfl (by kernel_rfl) (by kernel_rfl) (by kernel_rfl) (fun _ _ _ h => h) (Or.inl ⟨by rfl, ?_⟩) (by assumption) ?_
                rotate_left
                focus (intro w hSw; (try dsimp only at hSw); first | (go_simp; done) | (go_simp; with_reducible rfl))
                (try simp only [Act.put, List.setIfInBounds_toArray, List.set_cons_zero, List.set_cons_succ])
                refine wpAnyH_take (i := 9) (oi := { dst := some 62, op := _, type := _, pos := _, after := _, guard := _ }) (v := ?_) rfl (by kernel_rfl) (by kernel_rfl) (by kernel_rfl) (fun _ _ _ h => h) (Or.inl ⟨by rfl, ?_⟩) (by assumption) ?_
                rotate_left
                focus (intro w hSw; (try dsimp only at hSw); first | (go_simp; done) | (go_simp; with_reducible rfl))
                (try simp only [Act.put, List.setIfInBounds_toArray, List.set_cons_zero, List.set_cons_succ])
                refine wpAnyH_take (i := 10) (oi := { dst := some 63, op := _, type := _, pos := _, after := _, guard := _ }) (v := ?_) rfl (by kernel_rfl) (by kernel_rfl) (by kernel_rfl) (fun _ _ _ h => h) (Or.inl ⟨by rfl, ?_⟩) (by assumption) ?_
                rotate_left
                focus (intro w hSw; (try dsimp only at hSw); first | (go_simp; done) | (go_simp; with_reducible rfl))
                (try simp only [Act.put, List.setIfInBounds_toArray, List.set_cons_zero, List.set_cons_succ])
                refine wpAnyH_ready (rs := [7]) (by kernel_rfl) (by simp) ?_
                refine AllReadyH.cons (o := { dst := some 60, op := _, type := _, pos := _, after := _, guard := _ }) rfl (fun K hK => ?_) AllReadyH.nil
                go_simp
                refine (HKr.out _ hB0).mono ?_
                rintro x V1 ⟨rfl, hBc⟩
                have hX1 := hX0.below hBc
                have hB1 := hB0.trans (hBc.mono hB0.size)
                refine hK.out _ _ ⟨hX1.c1, hX1.c2, hX1.c3, hX1, hB1⟩ (fun hH1 => ?_)
                clear hK K hBc hX0 hB0 hHeld
                (try simp only [Act.put, List.setIfInBounds_toArray, List.set_cons_zero, List.set_cons_succ])
                refine wpAnyH_ready (rs := [11]) (by kernel_rfl) (by simp) ?_
                refine AllReadyH.cons (o := { dst := some 64, op := _, type := _, pos := _, after := _, guard := _ }) rfl (fun K hK => ?_) AllReadyH.nil
                go_simp
                rw [Go.IntWalk.i64_in s.id ⟨by omega, by omega⟩]
                refine (HPr.out _ hB1).mono ?_
                rintro x V2 ⟨u2, a2, c2, rfl, hV2, hZ2, hBc⟩
                have hX2 := hX1.below hBc
                have hB2 := hB1.trans (hBc.mono hB1.size)
                have HVE := Lib.hid (hV2.mono (H := fun j => ¬ F' j) (fun j _ hj => hj.elim (fun h => h) (fun h e => by have := HS9.out.lt j e; have := hB1.size; omega)))
                obtain ⟨ua2, uc2, rfl⟩ := hV2.slc
                have HZ2 := Lib.hid hZ2
                refine hK.out _ _ ⟨hX2.c1, hX2.c2, hX2.c3, hX2, hB2⟩ (fun hH2 => ?_)
                clear hK K hBc hX1 hB1 hH1 hV2 hZ2
                (try simp only [Act.put, List.setIfInBounds_toArray, List.set_cons_zero, List.set_cons_succ])
                refine wpAnyH_take (i := 12) (oi := { dst := some 52, op := _, type := _, pos := _, after := _, guard := _ }) (v := ?_) rfl (by kernel_rfl) (by kernel_rfl) (by kernel_rfl) (fun _ _ _ h => h) (Or.inl ⟨by rfl, ?_⟩) (by assumption) ?_
                rotate_left
                focus (intro w hSw; (try dsimp only at hSw); first | (go_simp; done) | (go_simp; with_reducible rfl))
                (try simp only [Act.put, List.setIfInBounds_toArray, List.set_cons_zero, List.set_cons_succ])
                refine wpAnyH_take (i := 13) (oi := { dst := some 65, op := _, type := _, pos := _, after := _, guard := _ }) (v := ?_) rfl (by kernel_rfl) (by kernel_rfl) (by kernel_rfl) (fun _ _ _ h => h) (Or.inl ⟨by rfl, ?_⟩) (by assumption) ?_
                rotate_left
                focus (intro w hSw; (try dsimp only at hSw); first | (go_simp; done) | (go_simp; with_reducible rfl))
                (try simp only [Act.put, List.setIfInBounds_toArray, List.set_cons_zero, List.set_cons_succ])
                refine wpAnyH_take (i := 14) (oi := { dst := some 66, op := _, type := _, pos := _, after := _, guard := _ }) (v := ?_) rfl (by kernel_rfl) (by kernel_rfl) (by kernel_rfl) (fun _ _ _ h => h) (Or.inl ⟨by rfl, ?_⟩) (by assumption) ?_
                rotate_left
                focus (intro w hSw; (try dsimp only at hSw); first | (go_simp; done) | (go_simp; with_reducible rfl))
                (try simp only [Act.put, List.setIfInBounds_toArray, List.set_cons_zero, List.set_cons_succ])
                refine wpAnyH_take (i := 15) (oi := { dst := some 4, op := _, type := _, pos := _, after := _, guard := _ }) (v := ?_) rfl (by kernel_rfl) (by kernel_rfl) (by kernel_rfl) (fun _ _ _ h => h) (Or.inl ⟨by rfl, ?_⟩) (by assumption) ?_
                rotate_left
                focus (intro w hSw; (try dsimp only at hSw); first | (go_simp; done) | (go_simp; with_reducible rfl))
                (try simp only [Act.put, List.setIfInBounds_toArray, List.set_cons_zero, List.set_cons_succ])
                refine wpAnyH_take (i := 16) (oi := { dst := some 11, op := _, type := _, pos := _, after := _, guard := _ }) (v := ?_) rfl (by kernel_rfl) (by kernel_rfl) (by kernel_rfl) (fun _ _ _ h => h) (Or.inl ⟨by rfl, ?_⟩) (by assumption) ?_
                rotate_left
                focus (intro w hSw; (try dsimp only at hSw); first | (go_simp; done) | (go_simp; with_reducible rfl))
                (try simp only [Act.put, List.setIfInBounds_toArray, List.set_cons_zero, List.set_cons_succ])
                refine wpAnyH_done (by kernel_rfl) ?_ _
                (try simp only [Exit.then])
                have HSE0 := Lib.hid (HS9.out.below hB2)
                have HBE0 := Lib.hid (HB9.out.trans (hB2.mono HB9.out.size))
                have hIn := ints_any _ _ (goneV l s.ns (keyL s.ns s.ps) s.id) (goneV l s.ns (keyL s.ns s.ps) s.id) V2 (HZ9.out.below hB2) HZ2.out (by have := gone_len l HFv.out.len s.ns (keyL s.ns s.ps) s.id; omega)
                rw [decide_eq_true rfl] at hIn
                have HIn := Lib.hid hIn
                clear hX2 hB2 hH2 hIn
                go_wp2_with fail
                refine HIn.out.mono ?_
                rintro x V3 ⟨rfl, n3, rfl⟩
                have HD := Lib.hid (below_drewN (Below.refl V2.heap.size V2) n3)
                generalize V2.drewN n3 = V3 at *
                have HSE := Lib.hid (HSE0.out.below HD.out)
                have HVE := Lib.hid (HVE.out.below HD.out)
                have HBE := Lib.hid (HBE0.out.trans (HD.out.mono HBE0.out.size))
                have HIa := Lib.hid (setIDs_any w1.heap.size (putV l s.ns (keyL s.ns s.ps) s.id) F' V3 HSE.out (fitV_put (ns := s.ns) (key := keyL s.ns s.ps) (id := s.id) HFv.out HFn.out))
                go_wp2_with fail
                refine HIa.out.mono ?_
                rintro e wa ⟨va, rfl, hOa, hBa⟩
                have HBa := Lib.hid (HBE.out.trans (hBa.mono HBE.out.size))
                have HSa := Lib.hid (HSE.out.below hBa)
                have HVa := Lib.hid (HVE.out.below hBa)
                have HZa := Lib.hid hOa.reads
                clear hOa hBa HIa
                have HIb := Lib.hid (refIDs_any _ (putV l s.ns (keyL s.ns s.ps) s.id) _ wa HVa.out (Nat.le_trans (fitV_put (ns := s.ns) (key := keyL s.ns s.ps) (id := s.id) HFv.out HFn.out).len (by omega)))
                go_wp2_with fail
                refine HIb.out.mono ?_
                rintro e wb ⟨vb, rfl, hOb, hBb⟩
                have HBb := Lib.hid (HBa.out.trans (hBb.mono HBa.out.size))
                have HSb := Lib.hid (HSa.out.below hBb)
                have HVb := Lib.hid (HVa.out.below hBb)
                have hIc := ints_any _ _ (idsV (putV l s.ns (keyL s.ns s.ps) s.id)) (idsV (putV l s.ns (keyL s.ns s.ps) s.id)) wb (HZa.out.below hBb) hOb.reads (by unfold idsV; rw [List.length_map]; have := (fitV_put (ns := s.ns) (key := keyL s.ns s.ps) (id := s.id) HFv.out HFn.out).len; omega)
                rw [decide_eq_true rfl] at hIc
                have HIc := Lib.hid hIc
                clear hOb hBb HIb hIc
                go_wp2_with fail
                refine HIc.out.mono ?_
                rintro e wc ⟨rfl, nc2, rfl⟩
                have HBc := Lib.hid (below_drewN (Below.refl wb.heap.size wb) nc2)
                generalize wb.drewN nc2 = wc at *
                go_wp2_with fail
                go_roundw
                case rel => exact ⟨k + 1, (putV l s.ns (keyL s.ns s.ps) s.id), F', by go_num, by omega, HSb.out.below HBc.out, (inv_put HI.out s.ns (keyL s.ns s.ps) s.id), (fitV_put (ns := s.ns) (key := keyL s.ns s.ps) (id := s.id) HFv.out HFn.out), HFE.out, HVb.out.below HBc.out, HBb.out.trans (HBc.out.mono HBb.out.size)⟩
                case measure => simp [intOf]; omega
      · have hBr := HBr.out
        go_wp2_with fail
        go_ret
        exact ⟨rfl, hBr⟩
end Go.Proofs.Ytbmbcdbldbjddaa
