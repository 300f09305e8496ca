/- What Format returns: the canonical text of directives. -/
import Derived.Test.YtnjjjfbklgdgpaaDoorDFmt
namespace Go.Proofs.YtnjjjfbklgdgpaaDoor
open Go.RowKit

theorem one_new2 (w : World) (o : Obj) (l : List UInt8) (T : TypeId) : ∀ j u, [strV l][j]? = some u → ((w.alloc o).alloc (.cells #[.string (strB l)] T)).cell? ((⟨w.heap.size + 1, 0, none⟩ : Addr).add j) = some u := by
  intro j u h
  have h1 := cell_one_new (w.alloc o) (strV l) T j u h
  have h2 : (w.alloc o).heap.size = w.heap.size + 1 := by simp
  rw [h2] at h1
  exact h1
set_option maxHeartbeats 16000000 in
set_option maxRecDepth 100000 in
theorem format_any (d : Dv) (w : World) (hd : FitD d) (hT : HasTab w) :
    Calls Tryd.prog 19 #[dvV d] w fun e w' => e = .returned (strV (fmtD d)) ∧ Below w.heap.size w w' := by
  obtain ⟨i0, hi, hz0, hz1, hz2⟩ := info_parts Tryd.infoS
  have HN := Lib.hid (fun w => normal_any d w hd)
  have HT := Lib.hid hT
  have HNor := Lib.hid (nor_norm d)
  have HFm := Lib.hid (fmt_items d)
  have HSm := Lib.hid (show ∀ l ∈ flagI (flagsD (normD d)) ++ timeI (timesD (normD d)), l.length ≤ 1000000 from items_small (nor_norm d))
  generalize fmtD d = text at *
  generalize normD d = x at *
  have HB0 := Lib.hid (below_new w (.cells (dvC d) 28))
  have HD0 := Lib.hid (dvB_new w d 28)
  clear hd hT
  go_enter Tryd.func19, Tryd.ntmps19
  go_upto_region 1 with fail
  change Code.wp _ _ _ _ (w.alloc (.cells (dvC d) 28))
  generalize w.alloc (.cells (dvC d) 28) = W0 at *
  obtain ⟨c0, c1, c2, c3, c4, c5, c6, c7, c8, c9, c10, c11, fr, lt⟩ := HD0.out
  go_wp2_with fail
  refine (HN.out _).mono ?_
  rintro e w1 ⟨rfl, hB1⟩
  have HB1 := Lib.hid (below_dv (HB0.out.trans (hB1.mono HB0.out.size)) (Nat.le_refl _) (.bool x.ns) (.bool x.nc) (.bool x.pr) (.bool x.pu) (.bool x.mr) (.bool x.oc) (.int .i64 x.ma) (.int .i64 x.sa) (.int .i64 x.ws) (.int .i64 x.oe) (.int .i64 x.ms) (.int .i64 x.mf))
  have hD1 := HD0.out.below hB1
  have HD1 := Lib.hid (hD1.set x)
  clear hB1 c0 c1 c2 c3 c4 c5 c6 c7 c8 c9 c10 c11 fr lt HB0 HD0 HN
  obtain ⟨c0, c1, c2, c3, c4, c5, c6, c7, c8, c9, c10, c11, fr, lt⟩ := hD1
  go_upto_region 2 with fail
  generalize ((((((((((((w1).setCell ⟨w.heap.size, 0, none⟩ (.bool x.ns)).setCell ⟨w.heap.size, 1, none⟩ (.bool x.nc)).setCell ⟨w.heap.size, 2, none⟩ (.bool x.pr)).setCell ⟨w.heap.size, 3, none⟩ (.bool x.pu)).setCell ⟨w.heap.size, 4, none⟩ (.bool x.mr)).setCell ⟨w.heap.size, 5, none⟩ (.bool x.oc)).setCell ⟨w.heap.size, 6, none⟩ (.int .i64 x.ma)).setCell ⟨w.heap.size, 7, none⟩ (.int .i64 x.sa)).setCell ⟨w.heap.size, 8, none⟩ (.int .i64 x.ws)).setCell ⟨w.heap.size, 9, none⟩ (.int .i64 x.oe)).setCell ⟨w.heap.size, 10, none⟩ (.int .i64 x.ms)).setCell ⟨w.heap.size, 11, none⟩ (.int .i64 x.mf) = W1 at *
  clear c0 c1 c2 c3 c4 c5 c6 c7 c8 c9 c10 c11 fr lt
  obtain ⟨c0, c1, c2, c3, c4, c5, c6, c7, c8, c9, c10, c11, fr, lt⟩ := HD1.out
  go_wp2_with fail
  refine (flags_any x _).mono ?_
  rintro e w3 ⟨g, rfl, hg1, hg2, _, hgc, hB3⟩
  have HGC := Lib.hid hgc
  have HD3 := Lib.hid (HD1.out.below hB3)
  have HB3 := Lib.hid (HB1.out.trans (hB3.mono HB1.out.size))
  clear hgc hB3 HD1 HB1 c0 c1 c2 c3 c4 c5 c6 c7 c8 c9 c10 c11 fr lt
  go_wp2_with fail
  go_loopw [3, 13] (fun v i wr => ∃ k : Nat, i = .int .i64 k ∧ k ≤ 6 ∧ OwnsS w3.heap.size wr v (flagI ((flagsD x).take k)) ∧ Below w3.heap.size w3 wr) (fun _ i _ => 6 - (intOf i).toNat)
  case atStart => exact ⟨0, rfl, Nat.zero_le _, World.ownsRow_nil _ _ _ _, Below.refl _ _⟩
  case round =>
    obtain ⟨k, rfl, hk, hO, hBr⟩ := hrel
    have hbr := hBr.size
    have hfl := flagI_le ((flagsD x).take k)
    have htl := List.length_take_le k (flagsD x)
    by_cases hlt : k < 6
    · obtain ⟨p, hp⟩ : ∃ p, (flagsD x)[k]? = some p := ⟨(flagsD x)[k]'hlt, List.getElem?_eq_getElem hlt⟩
      obtain ⟨h1, h2⟩ := HGC.out k p hp
      have hc1 : wr.cell? ⟨g, k * 2, none⟩ = some (.string (strB p.1)) := (hBr.cell (p := ⟨g, k * 2, none⟩) hg1).trans h1
      have hc2 : wr.cell? ⟨g, k * 2 + 1, none⟩ = some (.bool p.2) := (hBr.cell (p := ⟨g, k * 2 + 1, none⟩) hg1).trans h2
      have HP := Lib.hid hp
      have hn1 := (new_pair wr (.string (strB p.1)) (.bool p.2) 61).1
      have hn2 := (new_pair wr (.string (strB p.1)) (.bool p.2) 61).2
      clear hp h1 h2
      cases hpb : p.2 with
      | true =>
        rw [hpb] at hc2 hn1 hn2
        have HS := Lib.hid (flagI_yes HP.out hpb)
        clear hpb
        go_wp2_with (at_builtin; refine wpList_append_own _ rfl _ _ 22 rfl w3.heap.size 9 i0 (.string ByteArray.empty) 1 16 Tryd.underlying22 hi hz0 hz1 hz2 rfl (by decide) _ _ _ rfl (World.ownsRow.alloc (OwnsS.below hO (below_new wr (.cells #[.string (strB p.1), .bool true] 61))) _) ⟨wr.heap.size + 1, 0, none⟩ 1 1 [strV p.1] rfl rfl (one_new2 wr _ p.1 _) (fun u hu => by simp at hu; subst hu; rfl) (by unfold maxLen; omega) (by omega) (by simp; omega) ?_; intro v' w9 hown' hgrow _)
        go_roundw
        case rel => exact ⟨k + 1, by go_num, by omega, by rw [HS.out]; exact OwnsS.snoc hown', below_append hBr hbr (below_new wr _) hO hgrow⟩
        case measure => simp [intOf]; omega
      | false =>
        rw [hpb] at hc2 hn1 hn2
        have HS := Lib.hid (flagI_no HP.out hpb)
        clear hpb
        go_wp2_with fail
        go_roundw
        case rel => exact ⟨k + 1, by go_num, by omega, by rw [HS.out]; exact OwnsS.below hO (below_new wr _), hBr.alloc hbr _⟩
        case measure => simp [intOf]; omega
    · have htk : (flagsD x).take k = flagsD x := List.take_of_length_le (show 6 ≤ k by omega)
      rw [htk] at hO hfl
      have HL := Lib.hid (show (flagI (flagsD x)).length ≤ 6 from flagI_le (flagsD x))
      have HD4 := Lib.hid (HD3.out.below hBr)
      have HB4 := Lib.hid (HB3.out.trans (hBr.mono HB3.out.size))
      have HO4 := Lib.hid (OwnsS.mono HB3.out.size hO)
      generalize flagI (flagsD x) = L at *
      clear hO hBr htk hfl HD3 HB3
      obtain ⟨c0, c1, c2, c3, c4, c5, c6, c7, c8, c9, c10, c11, fr, lt⟩ := HD4.out
      go_wp2_with fail
      refine (durations_any x _).mono ?_
      rintro e w4 ⟨g2, rfl, hg3, hg4, hh, hgc, hB4⟩
      have HGD := Lib.hid hgc
      have HH := Lib.hid hh
      have HB5 := Lib.hid (HB4.out.trans (hB4.mono HB4.out.size))
      have HO5 := Lib.hid (OwnsS.below HO4.out hB4)
      clear hgc hh hB4 HD4 HB4 HO4 c0 c1 c2 c3 c4 c5 c6 c7 c8 c9 c10 c11 fr lt
      go_wp2_with fail
      go_loopw [3, 28] (fun v i wr => DurRel w.heap.size w g2 L x w4 v i wr) (fun _ i _ => 6 - (intOf i).toNat)
      case atStart => exact ⟨0, rfl, Nat.zero_le _, by simpa [timeI] using HO5.out, HB5.out, rfl, hg3⟩
      case round =>
        obtain ⟨k, rfl, hk, hO, hBw, hgk, hgl⟩ := hrel
        have HBw := Lib.hid hBw
        have hbw := hBw.size
        have htl := timeI_le ((timesD x).take k)
        have htk := List.length_take_le k (timesD x)
        have hll : (L ++ timeI ((timesD x).take k)).length ≤ 12 := by rw [List.length_append]; have := HL.out; omega
        by_cases hlt : k < 6
        · obtain ⟨p, hp⟩ : ∃ p, (timesD x)[k]? = some p := ⟨(timesD x)[k]'hlt, List.getElem?_eq_getElem hlt⟩
          obtain ⟨h1, h2⟩ := HGD.out k p hp
          have hc1 : wr.cell? ⟨g2, k * 2, none⟩ = some (.string (strB p.1)) := (World.cell?_of_block hgk).trans h1
          have hc2 : wr.cell? ⟨g2, k * 2 + 1, none⟩ = some (.int .i64 p.2) := (World.cell?_of_block hgk).trans h2
          have HP := Lib.hid hp
          have HGK := Lib.hid hgk
          have HHg := Lib.hid (hgk.trans HH.out)
          obtain ⟨hps, hpl, hpm⟩ := times_small hp HNor.out
          have hpz : (strB p.1).size = p.1.length := strB_size _
          have hdz : (strB (decT p.2)).size = (decT p.2).length := strB_size _
          have hn1 := (new_pair wr (.string (strB p.1)) (.int .i64 p.2) 65).1
          have hn2 := (new_pair wr (.string (strB p.1)) (.int .i64 p.2) 65).2
          have hsw : ((strB p.1).toList == [109, 97, 120, 45, 115, 116, 97, 108, 101]) = decide (p.1 = nMS) := sw_any p.1 nMS
          clear hp h1 h2 hgk hBw
          by_cases hms : p.1 = nMS
          · by_cases hlg : p.2 = 2147483647
            · have HS := Lib.hid (show timeI ((timesD x).take (k + 1)) = timeI ((timesD x).take k) ++ [nMS] by rw [timeI_yes HP.out (by omega)]; unfold timeL; rw [if_pos ⟨hms, hlg⟩, hms])
              rw [decide_eq_true hms] at hsw
              have hle : (p.2 == 2147483647) = true := by simpa using hlg
              clear hms hlg
              go_wp2_with (at_builtin; refine wpList_append_own _ rfl _ _ 22 rfl w.heap.size 9 i0 (.string ByteArray.empty) 1 16 Tryd.underlying22 hi hz0 hz1 hz2 rfl (by decide) _ _ _ rfl (World.ownsRow.alloc (OwnsS.below hO (below_new wr (.cells #[.string (strB p.1), .int .i64 p.2] 65))) _) ⟨wr.heap.size + 1, 0, none⟩ 1 1 [strV nMS] rfl rfl (one_new2 wr _ nMS _) (fun u hu => by simp at hu; subst hu; rfl) (by unfold maxLen; omega) (by omega) (by simp; omega) ?_; intro v' w9 hown' hgrow _)
              go_roundw
              case rel =>
                have hkp := dur_kept hO HHg.out hgl (below_new wr (.cells #[.string (strB p.1), .int .i64 p.2] 65)) hgrow
                exact ⟨k + 1, by go_num, by omega, by rw [HS.out, ← List.append_assoc]; exact OwnsS.snoc hown', below_append HBw.out hbw (below_new wr _) hO hgrow, hkp.1.trans HGK.out, hkp.2⟩
              case measure => simp [intOf]; omega
            · rw [decide_eq_true hms] at hsw
              have hle : (p.2 == 2147483647) = false := by simpa using hlg
              by_cases hab : p.2 = -1
              · have HS := Lib.hid (timeI_no HP.out hab)
                have hne : (p.2 != -1) = false := by simpa using hab
                clear hms hlg hab
                go_wp2_with fail
                go_roundw
                case rel => exact ⟨k + 1, by go_num, by omega, by rw [HS.out]; exact OwnsS.below hO (below_new wr _), HBw.out.alloc hbw _, ((below_new wr _).block g2 hgl).trans HGK.out, Nat.lt_of_lt_of_le hgl (below_new wr _).size⟩
                case measure => simp [intOf]; omega
              · have HS := Lib.hid (show timeI ((timesD x).take (k + 1)) = timeI ((timesD x).take k) ++ [p.1 ++ 61 :: decT p.2] by rw [timeI_yes HP.out hab]; unfold timeL; rw [if_neg (fun h => hlg h.2)])
                have hne : (p.2 != -1) = true := by simpa using hab
                have hp0 : 0 ≤ p.2 := by omega
                have hdl := decT_len p.2 hp0 hpm
                clear hms hlg hab
                go_upto_region 15 with fail
                have hcx := new_pair wr (.string (strB p.1)) (.int .i64 p.2) 65
                have hb1 := below_new wr (.cells #[.string (strB p.1), .int .i64 p.2] 65)
                have hz1 : (wr.alloc (.cells #[.string (strB p.1), .int .i64 p.2] 65)).heap.size = wr.heap.size + 1 := by simp
                change Code.wp _ _ _ _ (wr.alloc (.cells #[.string (strB p.1), .int .i64 p.2] 65))
                generalize wr.alloc (.cells #[.string (strB p.1), .int .i64 p.2] 65) = W1 at *
                have hS0 : W1.drew.cell? ⟨wr.heap.size, 0, none⟩ = some (.string (strB p.1)) ∧ W1.drew.cell? ⟨wr.heap.size, 1, none⟩ = some (.int .i64 p.2) := by simpa using hcx
                have hb2 : Below wr.heap.size wr W1.drew := hb1.drew
                have hz2' : W1.drew.heap.size = wr.heap.size + 1 := by simpa using hz1
                clear hcx hb1 hz1
                refine wp_region_held_drew (S := (fun w' => w'.cell? ⟨wr.heap.size, 0, none⟩ = some (.string (strB p.1)) ∧ w'.cell? ⟨wr.heap.size, 1, none⟩ = some (.int .i64 p.2))) (by kernel_rfl) hS0 (fun hHeld => ?_)
                generalize W1.drew = V0 at *
                refine wpAnyH_take (i := 0) (oi := { dst := some 48, op := _, type := _, pos := _, after := _, guard := _ }) (v := ?_) rfl (by kernel_rfl) (by kernel_rfl) (by kernel_rfl) (fun _ _ _ h => h) (Or.inl ⟨by rfl, ?_⟩) (by assumption) ?_
                rotate_left
                focus (intro w hSw; (try dsimp only at hSw); first | (go_simp; done) | (go_simp; with_reducible rfl) | (go_simp; rw [if_neg (by omega)]))
                (try simp only [Act.put, List.setIfInBounds_toArray, List.set_cons_zero, List.set_cons_succ])
                refine wpAnyH_take (i := 1) (oi := { dst := some 49, op := _, type := _, pos := _, after := _, guard := _ }) (v := ?_) rfl (by kernel_rfl) (by kernel_rfl) (by kernel_rfl) (fun _ _ _ h => h) (Or.inl ⟨by rfl, ?_⟩) (by assumption) ?_
                rotate_left
                focus (intro w hSw; (try dsimp only at hSw); first | (go_simp; done) | (go_simp; with_reducible rfl) | (go_simp; rw [if_neg (by omega)]))
                (try simp only [Act.put, List.setIfInBounds_toArray, List.set_cons_zero, List.set_cons_succ])
                refine wpAnyH_take (i := 2) (oi := { dst := some 50, op := _, type := _, pos := _, after := _, guard := _ }) (v := ?_) rfl (by kernel_rfl) (by kernel_rfl) (by kernel_rfl) (fun _ _ _ h => h) (Or.inl ⟨by rfl, ?_⟩) (by assumption) ?_
                rotate_left
                focus (intro w hSw; (try dsimp only at hSw); first | (go_simp; done) | (go_simp; with_reducible rfl) | (go_simp; rw [if_neg (by omega)]))
                (try simp only [Act.put, List.setIfInBounds_toArray, List.set_cons_zero, List.set_cons_succ])
                refine wpAnyH_take (i := 3) (oi := { dst := some 51, op := _, type := _, pos := _, after := _, guard := _ }) (v := ?_) rfl (by kernel_rfl) (by kernel_rfl) (by kernel_rfl) (fun _ _ _ h => h) (Or.inl ⟨by rfl, ?_⟩) (by assumption) ?_
                rotate_left
                focus (intro w hSw; (try dsimp only at hSw); first | (go_simp; done) | (go_simp; with_reducible rfl) | (go_simp; rw [if_neg (by omega)]))
                (try simp only [Act.put, List.setIfInBounds_toArray, List.set_cons_zero, List.set_cons_succ])
                refine wpAnyH_take (i := 4) (oi := { dst := some 52, op := _, type := _, pos := _, after := _, guard := _ }) (v := ?_) rfl (by kernel_rfl) (by kernel_rfl) (by kernel_rfl) (fun _ _ _ h => h) (Or.inl ⟨by rfl, ?_⟩) (by assumption) ?_
                rotate_left
                focus (intro w hSw; (try dsimp only at hSw); first | (go_simp; done) | (go_simp; with_reducible rfl) | (go_simp; rw [if_neg (by omega)]))
                (try simp only [Act.put, List.setIfInBounds_toArray, List.set_cons_zero, List.set_cons_succ])
                refine wpAnyH_take (i := 5) (oi := { dst := some 53, op := _, type := _, pos := _, after := _, guard := _ }) (v := ?_) rfl (by kernel_rfl) (by kernel_rfl) (by kernel_rfl) (fun _ _ _ h => h) (Or.inl ⟨by rfl, ?_⟩) (by assumption) ?_
                rotate_left
                focus (intro w hSw; (try dsimp only at hSw); first | (go_simp; done) | (go_simp; with_reducible rfl) | (go_simp; rw [if_neg (by omega)]))
                (try simp only [Act.put, List.setIfInBounds_toArray, List.set_cons_zero, List.set_cons_succ])
                refine wpAnyH_ready (rs := [6]) (by kernel_rfl) (by simp) ?_
                refine AllReadyH.cons (o := { dst := some 54, op := _, type := _, pos := _, after := _, guard := _ }) rfl (fun K hK => ?_) AllReadyH.nil
                go_simp
                refine (itoaD_any p.2 (by omega) (by omega) _ (HT.out.below (HBw.out.trans (hb2.mono HBw.out.size)))).mono ?_
                rintro en V1 ⟨rfl, hBc⟩
                have hS1 : V1.cell? ⟨wr.heap.size, 0, none⟩ = some (.string (strB p.1)) ∧ V1.cell? ⟨wr.heap.size, 1, none⟩ = some (.int .i64 p.2) := ⟨(hBc.cell (p := ⟨wr.heap.size, 0, none⟩) (by show wr.heap.size < V0.heap.size; omega)).trans hS0.1, (hBc.cell (p := ⟨wr.heap.size, 1, none⟩) (by show wr.heap.size < V0.heap.size; omega)).trans hS0.2⟩
                have hb3 := hb2.trans (hBc.mono (by omega))
                have hz3 := hBc.size
                refine hK.out _ _ hS1 (fun hH1 => ?_)
                clear hK K hHeld hS0 hb2 hBc
                (try simp only [Act.put, List.setIfInBounds_toArray, List.set_cons_zero, List.set_cons_succ])
                refine wpAnyH_take (i := 7) (oi := { dst := some 55, op := _, type := _, pos := _, after := _, guard := _ }) (v := ?_) rfl (by kernel_rfl) (by kernel_rfl) (by kernel_rfl) (fun _ _ _ h => h) (Or.inl ⟨by rfl, ?_⟩) (by assumption) ?_
                rotate_left
                focus (intro w hSw; (try dsimp only at hSw); first | (go_simp; done) | (go_simp; with_reducible rfl) | (go_simp; rw [if_neg (by omega)]))
                (try simp only [Act.put, List.setIfInBounds_toArray, List.set_cons_zero, List.set_cons_succ])
                have HTX := Lib.hid (show strB p.1 ++ ⟨#[61]⟩ ++ strB (decT p.2) = strB (p.1 ++ 61 :: decT p.2) by apply strB_ext; simp [strB])
                rw [HTX.out]
                have hcn := cell_one_new V1 (strV (p.1 ++ 61 :: decT p.2)) 9
                refine wpAnyH_ready (rs := [8]) (by kernel_rfl) (by simp) ?_
                refine AllReadyH.cons (o := { dst := some 56, op := _, type := _, pos := _, after := _, guard := _ }) rfl (fun K hK => ?_) AllReadyH.nil
                go_simp
                have hS2 : (V1.alloc (.cells #[.string (strB (p.1 ++ 61 :: decT p.2))] 9)).cell? ⟨wr.heap.size, 0, none⟩ = some (.string (strB p.1)) ∧ (V1.alloc (.cells #[.string (strB (p.1 ++ 61 :: decT p.2))] 9)).cell? ⟨wr.heap.size, 1, none⟩ = some (.int .i64 p.2) := ⟨((below_new V1 _).cell (p := ⟨wr.heap.size, 0, none⟩) (by show wr.heap.size < V1.heap.size; omega)).trans hS1.1, ((below_new V1 _).cell (p := ⟨wr.heap.size, 1, none⟩) (by show wr.heap.size < V1.heap.size; omega)).trans hS1.2⟩
                refine hK.out _ _ hS2 (fun hH2 => ?_)
                clear hK K hH1 hS1
                (try simp only [Act.put, List.setIfInBounds_toArray, List.set_cons_zero, List.set_cons_succ])
                refine wpAnyH_ready (rs := [9]) (by kernel_rfl) (by simp) ?_
                refine AllReadyH.cons (o := { dst := some 57, op := _, type := _, pos := _, after := _, guard := _ }) rfl (fun K hK => ?_) AllReadyH.nil
                rw [if_pos (by rfl)]
                have hO3 := OwnsS.below hO hb3
                refine wp_append_own _ _ _ 22 rfl w.heap.size 9 i0 (.string ByteArray.empty) 1 16 Tryd.underlying22 hi hz0 hz1 hz2 rfl (by decide) u3 _ _ rfl (World.ownsRow.alloc hO3 _) ⟨V1.heap.size, 0, none⟩ 1 1 [strV (p.1 ++ 61 :: decT p.2)] rfl rfl hcn (fun u hu => by simp at hu; subst hu; rfl) (by unfold maxLen; omega) (by omega) (by simp; omega) (fun v' w9 hown' hgrow _ => ?_)
                have hvb : ∀ q, u3.ownBlock = some q → q < wr.heap.size := fun q hq => (World.ownsRow.lt hO q hq).2
                have hS3 : w9.cell? ⟨wr.heap.size, 0, none⟩ = some (.string (strB p.1)) ∧ w9.cell? ⟨wr.heap.size, 1, none⟩ = some (.int .i64 p.2) := ⟨hgrow.cell hS2.1 (fun e => by have := hvb _ e.symm; simp at this), hgrow.cell hS2.2 (fun e => by have := hvb _ e.symm; simp at this)⟩
                refine hK.out _ _ hS3 (fun hH3 => ?_)
                clear hK K hH2 hS2
                (try simp only [Act.put, List.setIfInBounds_toArray, List.set_cons_zero, List.set_cons_succ])
                refine wpAnyH_take (i := 10) (oi := { dst := some 3, op := _, type := _, pos := _, after := _, guard := _ }) (v := ?_) rfl (by kernel_rfl) (by kernel_rfl) (by kernel_rfl) (fun _ _ _ h => h) (Or.inl ⟨by rfl, ?_⟩) (by assumption) ?_
                rotate_left
                focus (intro w hSw; (try dsimp only at hSw); first | (go_simp; done) | (go_simp; with_reducible rfl) | (go_simp; rw [if_neg (by omega)]))
                (try simp only [Act.put, List.setIfInBounds_toArray, List.set_cons_zero, List.set_cons_succ])
                refine wpAnyH_done (by kernel_rfl) ?_ _
                (try simp only [Exit.inBlock, Exit.then])
                go_wp2_with fail
                go_roundw
                case rel =>
                  have hkp := dur_kept hO HHg.out hgl hb3 hgrow
                  exact ⟨k + 1, by go_num, by omega, by rw [HS.out, ← List.append_assoc]; exact OwnsS.snoc hown', below_append HBw.out hbw hb3 hO hgrow, hkp.1.trans HGK.out, hkp.2⟩
                case measure => simp [intOf]; omega
          · rw [decide_eq_false hms] at hsw
            by_cases hab : p.2 = -1
            · have HS := Lib.hid (timeI_no HP.out hab)
              have hne : (p.2 != -1) = false := by simpa using hab
              clear hms hab
              go_wp2_with fail
              go_roundw
              case rel => exact ⟨k + 1, by go_num, by omega, by rw [HS.out]; exact OwnsS.below hO (below_new wr _), HBw.out.alloc hbw _, ((below_new wr _).block g2 hgl).trans HGK.out, Nat.lt_of_lt_of_le hgl (below_new wr _).size⟩
              case measure => simp [intOf]; omega
            · have HS := Lib.hid (show timeI ((timesD x).take (k + 1)) = timeI ((timesD x).take k) ++ [p.1 ++ 61 :: decT p.2] by rw [timeI_yes HP.out hab]; unfold timeL; rw [if_neg (fun h => hms h.1)])
              have hne : (p.2 != -1) = true := by simpa using hab
              have hp0 : 0 ≤ p.2 := by omega
              have hdl := decT_len p.2 hp0 hpm
              clear hms hab
              go_upto_region 15 with fail
              have hcx := new_pair wr (.string (strB p.1)) (.int .i64 p.2) 65
              have hb1 := below_new wr (.cells #[.string (strB p.1), .int .i64 p.2] 65)
              have hz1 : (wr.alloc (.cells #[.string (strB p.1), .int .i64 p.2] 65)).heap.size = wr.heap.size + 1 := by simp
              change Code.wp _ _ _ _ (wr.alloc (.cells #[.string (strB p.1), .int .i64 p.2] 65))
              generalize wr.alloc (.cells #[.string (strB p.1), .int .i64 p.2] 65) = W1 at *
              have hS0 : W1.drew.cell? ⟨wr.heap.size, 0, none⟩ = some (.string (strB p.1)) ∧ W1.drew.cell? ⟨wr.heap.size, 1, none⟩ = some (.int .i64 p.2) := by simpa using hcx
              have hb2 : Below wr.heap.size wr W1.drew := hb1.drew
              have hz2' : W1.drew.heap.size = wr.heap.size + 1 := by simpa using hz1
              clear hcx hb1 hz1
              refine wp_region_held_drew (S := (fun w' => w'.cell? ⟨wr.heap.size, 0, none⟩ = some (.string (strB p.1)) ∧ w'.cell? ⟨wr.heap.size, 1, none⟩ = some (.int .i64 p.2))) (by kernel_rfl) hS0 (fun hHeld => ?_)
              generalize W1.drew = V0 at *
              refine wpAnyH_take (i := 0) (oi := { dst := some 48, op := _, type := _, pos := _, after := _, guard := _ }) (v := ?_) rfl (by kernel_rfl) (by kernel_rfl) (by kernel_rfl) (fun _ _ _ h => h) (Or.inl ⟨by rfl, ?_⟩) (by assumption) ?_
              rotate_left
              focus (intro w hSw; (try dsimp only at hSw); first | (go_simp; done) | (go_simp; with_reducible rfl) | (go_simp; rw [if_neg (by omega)]))
              (try simp only [Act.put, List.setIfInBounds_toArray, List.set_cons_zero, List.set_cons_succ])
              refine wpAnyH_take (i := 1) (oi := { dst := some 49, op := _, type := _, pos := _, after := _, guard := _ }) (v := ?_) rfl (by kernel_rfl) (by kernel_rfl) (by kernel_rfl) (fun _ _ _ h => h) (Or.inl ⟨by rfl, ?_⟩) (by assumption) ?_
              rotate_left
              focus (intro w hSw; (try dsimp only at hSw); first | (go_simp; done) | (go_simp; with_reducible rfl) | (go_simp; rw [if_neg (by omega)]))
              (try simp only [Act.put, List.setIfInBounds_toArray, List.set_cons_zero, List.set_cons_succ])
              refine wpAnyH_take (i := 2) (oi := { dst := some 50, op := _, type := _, pos := _, after := _, guard := _ }) (v := ?_) rfl (by kernel_rfl) (by kernel_rfl) (by kernel_rfl) (fun _ _ _ h => h) (Or.inl ⟨by rfl, ?_⟩) (by assumption) ?_
              rotate_left
              focus (intro w hSw; (try dsimp only at hSw); first | (go_simp; done) | (go_simp; with_reducible rfl) | (go_simp; rw [if_neg (by omega)]))
              (try simp only [Act.put, List.setIfInBounds_toArray, List.set_cons_zero, List.set_cons_succ])
              refine wpAnyH_take (i := 3) (oi := { dst := some 51, op := _, type := _, pos := _, after := _, guard := _ }) (v := ?_) rfl (by kernel_rfl) (by kernel_rfl) (by kernel_rfl) (fun _ _ _ h => h) (Or.inl ⟨by rfl, ?_⟩) (by assumption) ?_
              rotate_left
              focus (intro w hSw; (try dsimp only at hSw); first | (go_simp; done) | (go_simp; with_reducible rfl) | (go_simp; rw [if_neg (by omega)]))
              (try simp only [Act.put, List.setIfInBounds_toArray, List.set_cons_zero, List.set_cons_succ])
              refine wpAnyH_take (i := 4) (oi := { dst := some 52, op := _, type := _, pos := _, after := _, guard := _ }) (v := ?_) rfl (by kernel_rfl) (by kernel_rfl) (by kernel_rfl) (fun _ _ _ h => h) (Or.inl ⟨by rfl, ?_⟩) (by assumption) ?_
              rotate_left
              focus (intro w hSw; (try dsimp only at hSw); first | (go_simp; done) | (go_simp; with_reducible rfl) | (go_simp; rw [if_neg (by omega)]))
              (try simp only [Act.put, List.setIfInBounds_toArray, List.set_cons_zero, List.set_cons_succ])
              refine wpAnyH_take (i := 5) (oi := { dst := some 53, op := _, type := _, pos := _, after := _, guard := _ }) (v := ?_) rfl (by kernel_rfl) (by kernel_rfl) (by kernel_rfl) (fun _ _ _ h => h) (Or.inl ⟨by rfl, ?_⟩) (by assumption) ?_
              rotate_left
              focus (intro w hSw; (try dsimp only at hSw); first | (go_simp; done) | (go_simp; with_reducible rfl) | (go_simp; rw [if_neg (by omega)]))
              (try simp only [Act.put, List.setIfInBounds_toArray, List.set_cons_zero, List.set_cons_succ])
              refine wpAnyH_ready (rs := [6]) (by kernel_rfl) (by simp) ?_
              refine AllReadyH.cons (o := { dst := some 54, op := _, type := _, pos := _, after := _, guard := _ }) rfl (fun K hK => ?_) AllReadyH.nil
              go_simp
              refine (itoaD_any p.2 (by omega) (by omega) _ (HT.out.below (HBw.out.trans (hb2.mono HBw.out.size)))).mono ?_
              rintro en V1 ⟨rfl, hBc⟩
              have hS1 : V1.cell? ⟨wr.heap.size, 0, none⟩ = some (.string (strB p.1)) ∧ V1.cell? ⟨wr.heap.size, 1, none⟩ = some (.int .i64 p.2) := ⟨(hBc.cell (p := ⟨wr.heap.size, 0, none⟩) (by show wr.heap.size < V0.heap.size; omega)).trans hS0.1, (hBc.cell (p := ⟨wr.heap.size, 1, none⟩) (by show wr.heap.size < V0.heap.size; omega)).trans hS0.2⟩
              have hb3 := hb2.trans (hBc.mono (by omega))
              have hz3 := hBc.size
              refine hK.out _ _ hS1 (fun hH1 => ?_)
              clear hK K hHeld hS0 hb2 hBc
              (try simp only [Act.put, List.setIfInBounds_toArray, List.set_cons_zero, List.set_cons_succ])
              refine wpAnyH_take (i := 7) (oi := { dst := some 55, op := _, type := _, pos := _, after := _, guard := _ }) (v := ?_) rfl (by kernel_rfl) (by kernel_rfl) (by kernel_rfl) (fun _ _ _ h => h) (Or.inl ⟨by rfl, ?_⟩) (by assumption) ?_
              rotate_left
              focus (intro w hSw; (try dsimp only at hSw); first | (go_simp; done) | (go_simp; with_reducible rfl) | (go_simp; rw [if_neg (by omega)]))
              (try simp only [Act.put, List.setIfInBounds_toArray, List.set_cons_zero, List.set_cons_succ])
              have HTX := Lib.hid (show strB p.1 ++ ⟨#[61]⟩ ++ strB (decT p.2) = strB (p.1 ++ 61 :: decT p.2) by apply strB_ext; simp [strB])
              rw [HTX.out]
              have hcn := cell_one_new V1 (strV (p.1 ++ 61 :: decT p.2)) 9
              refine wpAnyH_ready (rs := [8]) (by kernel_rfl) (by simp) ?_
              refine AllReadyH.cons (o := { dst := some 56, op := _, type := _, pos := _, after := _, guard := _ }) rfl (fun K hK => ?_) AllReadyH.nil
              go_simp
              have hS2 : (V1.alloc (.cells #[.string (strB (p.1 ++ 61 :: decT p.2))] 9)).cell? ⟨wr.heap.size, 0, none⟩ = some (.string (strB p.1)) ∧ (V1.alloc (.cells #[.string (strB (p.1 ++ 61 :: decT p.2))] 9)).cell? ⟨wr.heap.size, 1, none⟩ = some (.int .i64 p.2) := ⟨((below_new V1 _).cell (p := ⟨wr.heap.size, 0, none⟩) (by show wr.heap.size < V1.heap.size; omega)).trans hS1.1, ((below_new V1 _).cell (p := ⟨wr.heap.size, 1, none⟩) (by show wr.heap.size < V1.heap.size; omega)).trans hS1.2⟩
              refine hK.out _ _ hS2 (fun hH2 => ?_)
              clear hK K hH1 hS1
              (try simp only [Act.put, List.setIfInBounds_toArray, List.set_cons_zero, List.set_cons_succ])
              refine wpAnyH_ready (rs := [9]) (by kernel_rfl) (by simp) ?_
              refine AllReadyH.cons (o := { dst := some 57, op := _, type := _, pos := _, after := _, guard := _ }) rfl (fun K hK => ?_) AllReadyH.nil
              rw [if_pos (by rfl)]
              have hO3 := OwnsS.below hO hb3
              refine wp_append_own _ _ _ 22 rfl w.heap.size 9 i0 (.string ByteArray.empty) 1 16 Tryd.underlying22 hi hz0 hz1 hz2 rfl (by decide) u3 _ _ rfl (World.ownsRow.alloc hO3 _) ⟨V1.heap.size, 0, none⟩ 1 1 [strV (p.1 ++ 61 :: decT p.2)] rfl rfl hcn (fun u hu => by simp at hu; subst hu; rfl) (by unfold maxLen; omega) (by omega) (by simp; omega) (fun v' w9 hown' hgrow _ => ?_)
              have hvb : ∀ q, u3.ownBlock = some q → q < wr.heap.size := fun q hq => (World.ownsRow.lt hO q hq).2
              have hS3 : w9.cell? ⟨wr.heap.size, 0, none⟩ = some (.string (strB p.1)) ∧ w9.cell? ⟨wr.heap.size, 1, none⟩ = some (.int .i64 p.2) := ⟨hgrow.cell hS2.1 (fun e => by have := hvb _ e.symm; simp at this), hgrow.cell hS2.2 (fun e => by have := hvb _ e.symm; simp at this)⟩
              refine hK.out _ _ hS3 (fun hH3 => ?_)
              clear hK K hH2 hS2
              (try simp only [Act.put, List.setIfInBounds_toArray, List.set_cons_zero, List.set_cons_succ])
              refine wpAnyH_take (i := 10) (oi := { dst := some 3, op := _, type := _, pos := _, after := _, guard := _ }) (v := ?_) rfl (by kernel_rfl) (by kernel_rfl) (by kernel_rfl) (fun _ _ _ h => h) (Or.inl ⟨by rfl, ?_⟩) (by assumption) ?_
              rotate_left
              focus (intro w hSw; (try dsimp only at hSw); first | (go_simp; done) | (go_simp; with_reducible rfl) | (go_simp; rw [if_neg (by omega)]))
              (try simp only [Act.put, List.setIfInBounds_toArray, List.set_cons_zero, List.set_cons_succ])
              refine wpAnyH_done (by kernel_rfl) ?_ _
              (try simp only [Exit.inBlock, Exit.then])
              go_wp2_with fail
              go_roundw
              case rel =>
                have hkp := dur_kept hO HHg.out hgl hb3 hgrow
                exact ⟨k + 1, by go_num, by omega, by rw [HS.out, ← List.append_assoc]; exact OwnsS.snoc hown', below_append HBw.out hbw hb3 hO hgrow, hkp.1.trans HGK.out, hkp.2⟩
              case measure => simp [intOf]; omega
        · have htt : (timesD x).take k = timesD x := List.take_of_length_le (show 6 ≤ k by omega)
          rw [htt] at hO hll
          have HIt := Lib.hid hO
          go_wp2_with fail
          refine (join_any _ (L ++ timeI (timesD x)) _ _ HIt.out (by omega) HSm.out).mono ?_
          rintro e w9 ⟨rfl, hB9⟩
          go_wp2_with fail
          go_ret
          exact ⟨by first | (rw [HFm.out]; rfl) | rw [HFm.out], HBw.out.trans (hB9.mono hbw)⟩
end Go.Proofs.YtnjjjfbklgdgpaaDoor
