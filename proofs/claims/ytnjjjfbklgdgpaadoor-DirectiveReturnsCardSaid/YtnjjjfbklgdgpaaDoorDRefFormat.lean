/- What the reference's Format returns: the canonical text of directives. -/
import Derived.Test.YtnjjjfbklgdgpaaDoorDRefFmt
namespace Go.Proofs.YtnjjjfbklgdgpaaDoor
open Go.RowKit

theorem new_three (w : World) (a b c : Value) (T : TypeId) : (w.alloc (.cells #[a, b, c] T)).cell? ⟨w.heap.size, 0, none⟩ = some a ∧ (w.alloc (.cells #[a, b, c] T)).cell? ⟨w.heap.size, 1, none⟩ = some b ∧ (w.alloc (.cells #[a, b, c] T)).cell? ⟨w.heap.size, 2, none⟩ = some c := by
  refine ⟨?_, ?_, ?_⟩ <;> rw [World.cell?_alloc_at _ _ _ _ rfl] <;> rfl
theorem sep_strB (a : List UInt8) : strB a ++ ⟨#[44, 32]⟩ = strB (a ++ [44, 32]) := by apply strB_ext; simp [strB]
theorem app_strB (a b : List UInt8) : strB a ++ strB b = strB (a ++ b) := by apply strB_ext; simp [strB]
theorem eq_strB (b : List UInt8) : (⟨#[61]⟩ : ByteArray) ++ strB b = strB (61 :: b) := by apply strB_ext; simp [strB]
/-- The text so far: with a comma where something stands before. -/
def sepL (o : List UInt8) : List UInt8 := if o = [] then [] else o ++ [44, 32]
theorem getD_more {l : List (List UInt8 × Bool × Int)} {k : Nat} {p : List UInt8 × Bool × Int} {t : List UInt8} (hl : ∀ p ∈ l, RowOk p) (h : l[k]? = some p) (ht : rowI p = [t]) : getL ((l.take (k + 1)).flatMap rowI) = sepL (getL ((l.take k).flatMap rowI)) ++ t := by
  have hok : ∀ t ∈ (l.take k).flatMap rowI, t ≠ [] := fun t ht => (flat_ok (fun p hp => hl p (List.mem_of_mem_take hp)) t ht).1
  rw [flat_more h, ht]
  unfold sepL
  by_cases h0 : (l.take k).flatMap rowI = []
  · rw [h0]; rfl
  · rw [getD_snoc _ _ h0, if_neg (fun e => h0 (getD_nil hok e))]
    simp
theorem getD_same {l : List (List UInt8 × Bool × Int)} {k : Nat} {p : List UInt8 × Bool × Int} (h : l[k]? = some p) (ht : rowI p = []) : getL ((l.take (k + 1)).flatMap rowI) = getL ((l.take k).flatMap rowI) := by
  rw [flat_more h, ht, List.append_nil]
set_option maxHeartbeats 16000000 in
set_option maxRecDepth 100000 in
theorem refFormat11_any (d : Dv) (w : World) (hd : FitD d) :
    Calls Tryd.prog 21 #[dvV d] w fun e w' => e = .returned (strV (fmtD d)) ∧ Below w.heap.size w w' := by
  have HN := Lib.hid (fun w => refNormal_any d w hd)
  have HFm := Lib.hid (fmt_items d)
  rw [← rows_items (nor_norm d)] at HFm
  have HOk := Lib.hid (rows_ok (nor_norm d))
  generalize fmtD d = text at *
  generalize normD d = x at *
  have HB0 := Lib.hid (below_new w (.cells (dvC d) 26))
  have HD0 := Lib.hid (dvB_new w d 26)
  clear hd
  go_enter Tryd.func21, Tryd.ntmps21
  go_upto_region 1 with fail
  change Code.wp _ _ _ _ (w.alloc (.cells (dvC d) 26))
  generalize w.alloc (.cells (dvC d) 26) = W0 at *
  obtain ⟨c0, c1, c2, c3, c4, c5, c6, c7, c8, c9, c10, c11, fr, lt⟩ := HD0.out
  go_wp2_with fail
  refine (HN.out _).mono ?_
  rintro e w1 ⟨rfl, hB1⟩
  have HB1 := Lib.hid (below_dv (HB0.out.trans (hB1.mono HB0.out.size)) (Nat.le_refl _) (.bool x.ns) (.bool x.nc) (.bool x.pr) (.bool x.pu) (.bool x.mr) (.bool x.oc) (.int .i64 x.ma) (.int .i64 x.sa) (.int .i64 x.ws) (.int .i64 x.oe) (.int .i64 x.ms) (.int .i64 x.mf))
  have hD1 := HD0.out.below hB1
  have HD1 := Lib.hid (hD1.set x)
  clear hB1 c0 c1 c2 c3 c4 c5 c6 c7 c8 c9 c10 c11 fr lt HB0 HD0 HN
  obtain ⟨c0, c1, c2, c3, c4, c5, c6, c7, c8, c9, c10, c11, fr, lt⟩ := hD1
  go_upto_region 2 with fail
  generalize ((((((((((((w1).setCell ⟨w.heap.size, 0, none⟩ (.bool x.ns)).setCell ⟨w.heap.size, 1, none⟩ (.bool x.nc)).setCell ⟨w.heap.size, 2, none⟩ (.bool x.pr)).setCell ⟨w.heap.size, 3, none⟩ (.bool x.pu)).setCell ⟨w.heap.size, 4, none⟩ (.bool x.mr)).setCell ⟨w.heap.size, 5, none⟩ (.bool x.oc)).setCell ⟨w.heap.size, 6, none⟩ (.int .i64 x.ma)).setCell ⟨w.heap.size, 7, none⟩ (.int .i64 x.sa)).setCell ⟨w.heap.size, 8, none⟩ (.int .i64 x.ws)).setCell ⟨w.heap.size, 9, none⟩ (.int .i64 x.oe)).setCell ⟨w.heap.size, 10, none⟩ (.int .i64 x.ms)).setCell ⟨w.heap.size, 11, none⟩ (.int .i64 x.mf) = W1 at *
  clear c0 c1 c2 c3 c4 c5 c6 c7 c8 c9 c10 c11 fr lt
  obtain ⟨c0, c1, c2, c3, c4, c5, c6, c7, c8, c9, c10, c11, fr, lt⟩ := HD1.out
  have HRN := Lib.hid (rows_new x W1 68)
  have HB2 := Lib.hid (HB1.out.alloc HB1.out.size (.cells #[.string (strB nNS), .bool x.ns, .int .i64 (-1), .string (strB nNC), .bool x.nc, .int .i64 (-1), .string (strB nPR), .bool x.pr, .int .i64 (-1), .string (strB nPU), .bool x.pu, .int .i64 (-1), .string (strB nMR), .bool x.mr, .int .i64 (-1), .string (strB nOC), .bool x.oc, .int .i64 (-1), .string (strB nMA), .bool false, .int .i64 x.ma, .string (strB nSA), .bool false, .int .i64 x.sa, .string (strB nWS), .bool false, .int .i64 x.ws, .string (strB nOE), .bool false, .int .i64 x.oe, .string (strB nMS), .bool false, .int .i64 x.ms, .string (strB nMF), .bool false, .int .i64 x.mf] 68))
  have hz2 : (W1.alloc (.cells #[.string (strB nNS), .bool x.ns, .int .i64 (-1), .string (strB nNC), .bool x.nc, .int .i64 (-1), .string (strB nPR), .bool x.pr, .int .i64 (-1), .string (strB nPU), .bool x.pu, .int .i64 (-1), .string (strB nMR), .bool x.mr, .int .i64 (-1), .string (strB nOC), .bool x.oc, .int .i64 (-1), .string (strB nMA), .bool false, .int .i64 x.ma, .string (strB nSA), .bool false, .int .i64 x.sa, .string (strB nWS), .bool false, .int .i64 x.ws, .string (strB nOE), .bool false, .int .i64 x.oe, .string (strB nMS), .bool false, .int .i64 x.ms, .string (strB nMF), .bool false, .int .i64 x.mf] 68)).heap.size = W1.heap.size + 1 := by simp
  go_wp2_with fail
  change Code.wp _ _ _ _ (W1.alloc (.cells #[.string (strB nNS), .bool x.ns, .int .i64 (-1), .string (strB nNC), .bool x.nc, .int .i64 (-1), .string (strB nPR), .bool x.pr, .int .i64 (-1), .string (strB nPU), .bool x.pu, .int .i64 (-1), .string (strB nMR), .bool x.mr, .int .i64 (-1), .string (strB nOC), .bool x.oc, .int .i64 (-1), .string (strB nMA), .bool false, .int .i64 x.ma, .string (strB nSA), .bool false, .int .i64 x.sa, .string (strB nWS), .bool false, .int .i64 x.ws, .string (strB nOE), .bool false, .int .i64 x.oe, .string (strB nMS), .bool false, .int .i64 x.ms, .string (strB nMF), .bool false, .int .i64 x.mf] 68))
  generalize W1.alloc (.cells #[.string (strB nNS), .bool x.ns, .int .i64 (-1), .string (strB nNC), .bool x.nc, .int .i64 (-1), .string (strB nPR), .bool x.pr, .int .i64 (-1), .string (strB nPU), .bool x.pu, .int .i64 (-1), .string (strB nMR), .bool x.mr, .int .i64 (-1), .string (strB nOC), .bool x.oc, .int .i64 (-1), .string (strB nMA), .bool false, .int .i64 x.ma, .string (strB nSA), .bool false, .int .i64 x.sa, .string (strB nWS), .bool false, .int .i64 x.ws, .string (strB nOE), .bool false, .int .i64 x.oe, .string (strB nMS), .bool false, .int .i64 x.ms, .string (strB nMF), .bool false, .int .i64 x.mf] 68) = W2 at *
  clear c0 c1 c2 c3 c4 c5 c6 c7 c8 c9 c10 c11 fr lt HD1 HB1
  go_loopw [3, 46] (fun v i wr => ∃ k : Nat, i = .int .i64 k ∧ k ≤ 12 ∧ v = .string (strB (getL (((rowsD x).take k).flatMap rowI))) ∧ Below W2.heap.size W2 wr) (fun _ i _ => 12 - (intOf i).toNat)
  case atStart => exact ⟨0, rfl, Nat.zero_le _, rfl, Below.refl _ _⟩
  case round =>
    obtain ⟨k, rfl, hk, rfl, hBr⟩ := hrel
    have hbr := hBr.size
    have HBr := Lib.hid hBr
    have hfl := flat_len ((rowsD x).take k)
    have htl := List.length_take_le k (rowsD x)
    have hgl := getL_len (((rowsD x).take k).flatMap rowI) 40 (fun l hl => (flat_ok (fun p hp => HOk.out p (List.mem_of_mem_take hp)) l hl).2)
    have hmul : (((rowsD x).take k).flatMap rowI).length * (40 + 2) ≤ 12 * (40 + 2) := Nat.mul_le_mul_right _ (by omega)
    by_cases hlt : k < 12
    · obtain ⟨p, hp⟩ : ∃ p, (rowsD x)[k]? = some p := ⟨(rowsD x)[k]'hlt, List.getElem?_eq_getElem hlt⟩
      obtain ⟨h1, h2, h3⟩ := HRN.out k p hp
      have hc1 : wr.cell? ⟨W1.heap.size, k * 3, none⟩ = some (.string (strB p.1)) := (hBr.cell (p := ⟨W1.heap.size, k * 3, none⟩) (by show W1.heap.size < W2.heap.size; omega)).trans h1
      have hc2 : wr.cell? ⟨W1.heap.size, k * 3 + 1, none⟩ = some (.bool p.2.1) := (hBr.cell (p := ⟨W1.heap.size, k * 3 + 1, none⟩) (by show W1.heap.size < W2.heap.size; omega)).trans h2
      have hc3 : wr.cell? ⟨W1.heap.size, k * 3 + 2, none⟩ = some (.int .i64 p.2.2) := (hBr.cell (p := ⟨W1.heap.size, k * 3 + 2, none⟩) (by show W1.heap.size < W2.heap.size; omega)).trans h3
      have HP := Lib.hid hp
      obtain ⟨hpn, hpl, hpa, hpb, hpf⟩ := HOk.out p (List.mem_of_getElem? hp)
      obtain ⟨hn1, hn2, hn3⟩ := new_three wr (.string (strB p.1)) (.bool p.2.1) (.int .i64 p.2.2) 68
      have hBx := below_new wr (.cells #[.string (strB p.1), .bool p.2.1, .int .i64 p.2.2] 68)
      have hsw : ((strB p.1).toList == [109, 97, 120, 45, 115, 116, 97, 108, 101]) = decide (p.1 = nMS) := sw_any p.1 nMS
      have hzp : (strB p.1).size = p.1.length := strB_size _
      have HGo := Lib.hid (fun (t : List UInt8) (ht : rowI p = [t]) => getD_more HOk.out HP.out ht)
      have HSm := Lib.hid (fun (ht : rowI p = []) => getD_same HP.out ht)
      clear hp h1 h2 h3 hBr
      generalize getL (((rowsD x).take k).flatMap rowI) = o at *
      have hzo : (strB o).size = o.length := strB_size _
      obtain ⟨n, b, s⟩ := p
      simp only at hc1 hc2 hc3 hpn hpl hpa hpb hpf hn1 hn2 hn3 hsw hzp
      have HBx := Lib.hid hBx
      clear hBx
      have HPN := Lib.hid hpn
      clear hpn
      by_cases hskip : b = false ∧ s < 0
      · have HE := Lib.hid (HSm.out (by unfold rowI; exact if_pos hskip))
        obtain ⟨rfl, hs⟩ := hskip
        go_wp2_with fail
        go_roundw
        case rel => exact ⟨k + 1, by go_num, by omega, by rw [HE.out], HBr.out.trans (HBx.out.mono hbr)⟩
        case measure => simp [intOf]; omega
      · have HT := Lib.hid (show rowI (n, b, s) = [if 0 ≤ s ∧ (n ≠ nMS ∨ s < 2147483647) then n ++ 61 :: decT s else n] by unfold rowI; exact if_neg hskip)
        by_cases hoe : o = []
        · have hem := empty_yes hoe
          have hdo : (strB o).toList = [] := by rw [ByteArray.toList_eq, strB_list, hoe]
          have HSep := Lib.hid (show sepL o = o by unfold sepL; rw [if_pos hoe, hoe])
          clear hoe
          obtain ⟨q, hq⟩ : ∃ q, o ++ n = q := ⟨_, rfl⟩
          have hlq : q.length = o.length + n.length := by rw [← hq]; simp
          have HJ2 := Lib.hid (app_strB o n)
          rw [hq] at HJ2
          have hzq : (strB q).size = q.length := strB_size _
          have HQ := Lib.hid hq
          clear hq
          by_cases hs0 : s < 0
          · have hb : b = true := by cases b with | true => rfl | false => exact absurd ⟨rfl, hs0⟩ hskip
            have HE := Lib.hid ((HGo.out n (by rw [HT.out, if_neg (fun h => by have := h.1; omega)])).trans (by rw [HSep.out, HQ.out]))
            clear hskip
            subst hb
            have hs1 : s = -1 := hpf rfl
            subst hs1
            go_upto_region 10 with fail
            rw [HJ2.out]
            go_wp2_with fail
            go_roundw
            case rel => exact ⟨k + 1, by go_num, by omega, by rw [HE.out], HBr.out.trans (HBx.out.mono hbr)⟩
            case measure => simp [intOf]; omega
          · have hb : b = false := by cases b with | false => rfl | true => exact absurd (hpf rfl) (by omega)
            clear hskip
            subst hb
            by_cases hms : n = nMS
            · rw [decide_eq_true hms] at hsw
              by_cases hlg : s < 2147483647
              · have HE := Lib.hid ((HGo.out (n ++ 61 :: decT s) (by rw [HT.out, if_pos ⟨by omega, .inr hlg⟩])).trans (by rw [HSep.out, ← List.append_assoc, HQ.out]))
                have hdl := decT_len s (by omega) hpb
                have hzd : (strB (decT s)).size = (decT s).length := strB_size _
                have HJ3 := Lib.hid (eq_strB (decT s))
                have HJ4 := Lib.hid (app_strB q (61 :: decT s))
                clear hms
                go_upto_region 10 with fail
                rw [HJ2.out]
                go_wp2_with fail
                refine (digitsT_any s (by omega) hpb _).mono ?_
                rintro e w9 ⟨rfl, hB9⟩
                have HB9 := Lib.hid (HBx.out.trans (hB9.mono HBx.out.size))
                clear hB9
                go_wp2_with fail
                go_roundw
                case rel => exact ⟨k + 1, by go_num, by omega, by rw [HE.out, HJ3.out, HJ4.out], HBr.out.trans (HB9.out.mono hbr)⟩
                case measure => simp [intOf]; omega
              · have HE := Lib.hid ((HGo.out n (by rw [HT.out, if_neg (fun h => h.2.elim (fun h => h hms) (fun h => by omega))])).trans (by rw [HSep.out, HQ.out]))
                clear hms
                go_upto_region 10 with fail
                rw [HJ2.out]
                go_wp2_with fail
                go_roundw
                case rel => exact ⟨k + 1, by go_num, by omega, by rw [HE.out], HBr.out.trans (HBx.out.mono hbr)⟩
                case measure => simp [intOf]; omega
            · rw [decide_eq_false hms] at hsw
              have HE := Lib.hid ((HGo.out (n ++ 61 :: decT s) (by rw [HT.out, if_pos ⟨by omega, .inl hms⟩])).trans (by rw [HSep.out, ← List.append_assoc, HQ.out]))
              have hdl := decT_len s (by omega) hpb
              have hzd : (strB (decT s)).size = (decT s).length := strB_size _
              have HJ3 := Lib.hid (eq_strB (decT s))
              have HJ4 := Lib.hid (app_strB q (61 :: decT s))
              clear hms
              go_upto_region 10 with fail
              rw [HJ2.out]
              go_wp2_with fail
              refine (digitsT_any s (by omega) hpb _).mono ?_
              rintro e w9 ⟨rfl, hB9⟩
              have HB9 := Lib.hid (HBx.out.trans (hB9.mono HBx.out.size))
              clear hB9
              go_wp2_with fail
              go_roundw
              case rel => exact ⟨k + 1, by go_num, by omega, by rw [HE.out, HJ3.out, HJ4.out], HBr.out.trans (HB9.out.mono hbr)⟩
              case measure => simp [intOf]; omega
        · have hem := empty_no hoe
          have hdo : ¬ (strB o).toList = [] := by rw [ByteArray.toList_eq, strB_list]; exact hoe
          have HSep := Lib.hid (show sepL o = o ++ [44, 32] by unfold sepL; rw [if_neg hoe])
          clear hoe
          obtain ⟨o2, ho2⟩ : ∃ o2, o ++ [44, 32] = o2 := ⟨_, rfl⟩
          have hl2 : o2.length = o.length + 2 := by rw [← ho2]; simp
          have HJ1 := Lib.hid (sep_strB o)
          rw [ho2] at HJ1 HSep
          have hzo2 : (strB o2).size = o2.length := strB_size _
          clear ho2
          obtain ⟨q, hq⟩ : ∃ q, o2 ++ n = q := ⟨_, rfl⟩
          have hlq : q.length = o2.length + n.length := by rw [← hq]; simp
          have HJ2 := Lib.hid (app_strB o2 n)
          rw [hq] at HJ2
          have hzq : (strB q).size = q.length := strB_size _
          have HQ := Lib.hid hq
          clear hq
          by_cases hs0 : s < 0
          · have hb : b = true := by cases b with | true => rfl | false => exact absurd ⟨rfl, hs0⟩ hskip
            have HE := Lib.hid ((HGo.out n (by rw [HT.out, if_neg (fun h => by have := h.1; omega)])).trans (by rw [HSep.out, HQ.out]))
            clear hskip
            subst hb
            have hs1 : s = -1 := hpf rfl
            subst hs1
            go_upto_region 9 with fail
            rw [HJ1.out]
            go_upto_region 10 with fail
            rw [HJ2.out]
            go_wp2_with fail
            go_roundw
            case rel => exact ⟨k + 1, by go_num, by omega, by rw [HE.out], HBr.out.trans (HBx.out.mono hbr)⟩
            case measure => simp [intOf]; omega
          · have hb : b = false := by cases b with | false => rfl | true => exact absurd (hpf rfl) (by omega)
            clear hskip
            subst hb
            by_cases hms : n = nMS
            · rw [decide_eq_true hms] at hsw
              by_cases hlg : s < 2147483647
              · have HE := Lib.hid ((HGo.out (n ++ 61 :: decT s) (by rw [HT.out, if_pos ⟨by omega, .inr hlg⟩])).trans (by rw [HSep.out, ← List.append_assoc, HQ.out]))
                have hdl := decT_len s (by omega) hpb
                have hzd : (strB (decT s)).size = (decT s).length := strB_size _
                have HJ3 := Lib.hid (eq_strB (decT s))
                have HJ4 := Lib.hid (app_strB q (61 :: decT s))
                clear hms
                go_upto_region 9 with fail
                rw [HJ1.out]
                go_upto_region 10 with fail
                rw [HJ2.out]
                go_wp2_with fail
                refine (digitsT_any s (by omega) hpb _).mono ?_
                rintro e w9 ⟨rfl, hB9⟩
                have HB9 := Lib.hid (HBx.out.trans (hB9.mono HBx.out.size))
                clear hB9
                go_wp2_with fail
                go_roundw
                case rel => exact ⟨k + 1, by go_num, by omega, by rw [HE.out, HJ3.out, HJ4.out], HBr.out.trans (HB9.out.mono hbr)⟩
                case measure => simp [intOf]; omega
              · have HE := Lib.hid ((HGo.out n (by rw [HT.out, if_neg (fun h => h.2.elim (fun h => h hms) (fun h => by omega))])).trans (by rw [HSep.out, HQ.out]))
                clear hms
                go_upto_region 9 with fail
                rw [HJ1.out]
                go_upto_region 10 with fail
                rw [HJ2.out]
                go_wp2_with fail
                go_roundw
                case rel => exact ⟨k + 1, by go_num, by omega, by rw [HE.out], HBr.out.trans (HBx.out.mono hbr)⟩
                case measure => simp [intOf]; omega
            · rw [decide_eq_false hms] at hsw
              have HE := Lib.hid ((HGo.out (n ++ 61 :: decT s) (by rw [HT.out, if_pos ⟨by omega, .inl hms⟩])).trans (by rw [HSep.out, ← List.append_assoc, HQ.out]))
              have hdl := decT_len s (by omega) hpb
              have hzd : (strB (decT s)).size = (decT s).length := strB_size _
              have HJ3 := Lib.hid (eq_strB (decT s))
              have HJ4 := Lib.hid (app_strB q (61 :: decT s))
              clear hms
              go_upto_region 9 with fail
              rw [HJ1.out]
              go_upto_region 10 with fail
              rw [HJ2.out]
              go_wp2_with fail
              refine (digitsT_any s (by omega) hpb _).mono ?_
              rintro e w9 ⟨rfl, hB9⟩
              have HB9 := Lib.hid (HBx.out.trans (hB9.mono HBx.out.size))
              clear hB9
              go_wp2_with fail
              go_roundw
              case rel => exact ⟨k + 1, by go_num, by omega, by rw [HE.out, HJ3.out, HJ4.out], HBr.out.trans (HB9.out.mono hbr)⟩
              case measure => simp [intOf]; omega
    · have htk : (rowsD x).take k = rowsD x := List.take_of_length_le (show 12 ≤ k by omega)
      have HE := Lib.hid (show getL (((rowsD x).take k).flatMap rowI) = text by rw [htk, HFm.out])
      clear htk
      go_wp2_with fail
      go_ret
      exact ⟨by first | (rw [HE.out]; rfl) | rw [HE.out], HB2.out.trans (hBr.mono HB2.out.size)⟩
end Go.Proofs.YtnjjjfbklgdgpaaDoor
