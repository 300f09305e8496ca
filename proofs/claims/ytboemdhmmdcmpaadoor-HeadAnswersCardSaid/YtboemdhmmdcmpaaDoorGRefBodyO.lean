/- What the reference's body returns (for a seat without the reference's readers). -/
import Derived.Test.YtboemdhmmdcmpaaDoorGWResp
import Derived.Test.YtboemdhmmdcmpaaDoorFName
namespace Go.Proofs.YtboemdhmmdcmpaaDoor
open Go.RowKit

theorem flatW_more {fs : Fs} {k : Nat} {p : List UInt8 × List UInt8} (hp : fs[k]? = some p) : flat ((fs.take (k + 1)).map (lineW nmO)) = flat ((fs.take k).map (lineW nmO)) ++ (lineW nmO p ++ [13, 10]) := by
  rw [take_more hp, List.map_append]
  simp [flat]
theorem goodB_more {fs : Fs} {k : Nat} {p : List UInt8 × List UInt8} (hp : fs[k]? = some p) : goodB nmO vlO (fs.take (k + 1)) = (goodB nmO vlO (fs.take k) && ((nmO p.1).isSome && decide (vlO p.2 = some p.2))) := by
  rw [take_more hp]
  unfold goodB
  rw [List.all_append]; simp
theorem good_true {fs : Fs} {k : Nat} {p : List UInt8 × List UInt8} (hp : fs[k]? = some p) (h : goodB nmO vlO (fs.take k) = true) (hg : goodF p) : goodB nmO vlO (fs.take (k + 1)) = true := by
  rw [goodB_more hp, h, (goodF_iff p).2 hg]; rfl
theorem good_false {fs : Fs} {k : Nat} {p : List UInt8 × List UInt8} (hp : fs[k]? = some p) (hg : ¬ goodF p) : goodB nmO vlO (fs.take (k + 1)) = false := by
  rw [goodB_more hp, Bool.eq_false_iff]
  intro h
  rw [Bool.and_eq_true] at h
  exact hg ((goodF_iff p).1 h.2)
theorem good_stays {fs : Fs} {k : Nat} {p : List UInt8 × List UInt8} (hp : fs[k]? = some p) (h : goodB nmO vlO (fs.take k) = false) : goodB nmO vlO (fs.take (k + 1)) = false := by
  rw [goodB_more hp, h]; rfl
theorem line_out (o n : List UInt8) (v : List UInt8) : strB o ++ (strB n ++ (⟨#[58, 32]⟩ : ByteArray) ++ strB v ++ (⟨#[13, 10]⟩ : ByteArray)) = strB (o ++ ((n ++ 58 :: 32 :: v) ++ [13, 10])) := by
  apply ByteArray.ext; simp [strB]
theorem body_end (o : List UInt8) : strB o ++ (⟨#[13, 10]⟩ : ByteArray) = strB (o ++ [13, 10]) := by apply ByteArray.ext; simp [strB]
theorem lineW_low {p : List UInt8 × List UInt8} (h : nameC p.1 = 0) : lineW nmO p = nameR p.1 ++ 58 :: 32 :: p.2 := by
  unfold lineW nmO nameR; rw [if_pos h, if_pos h]; rfl
theorem lineW_raw {p : List UInt8 × List UInt8} (h : nameC p.1 ≠ 0) : lineW nmO p = p.1 ++ 58 :: 32 :: p.2 := by
  unfold lineW nmO; rw [if_neg h]; rfl
theorem nameR_len (l : List UInt8) : (nameR l).length ≤ l.length := by
  unfold nameR; split
  · rw [lowS_len]; exact Nat.le_refl _
  · simp
/-- What body leaves. -/
def BodyPost (fs : Fs) (w : World) (e : Ending) (w' : World) : Prop := e = .returned (.tuple #[.string (strB (flat (fs.map (lineW nmO)) ++ [13, 10])), .bool (goodB nmO vlO fs)]) ∧ Below w.heap.size w w'
set_option maxHeartbeats 8000000 in
set_option maxRecDepth 100000 in
theorem refBody_any (v : Value) (fs : Fs) (w : World) (hr : ReadsQ w v fs) (hl : fs.length ≤ 1000) (hb : ∀ p ∈ fs, p.1.length + p.2.length ≤ 1000000) :
    Calls Tryd.prog 38 #[v] w (BodyPost fs w) := by
  obtain ⟨ao, cap, rfl, hc⟩ := hr
  have HC := Lib.hid hc
  have HBig := Lib.hid hb
  have HSZ := Lib.hid (fun k => show (flat ((fs.take k).map (lineW nmO))).length ≤ 1100000000 by
    rw [sizL_lines]
    have h1 := sizL_le (fs := fs.take k) (M := 1000000) (fun p hp => hb p (List.mem_of_mem_take hp))
    have h2 : (fs.take k).length ≤ 1000 := by rw [List.length_take]; omega
    have h3 : (fs.take k).length * (1000000 + 4) ≤ 1000 * (1000000 + 4) := Nat.mul_le_mul_right _ h2
    omega)
  clear hc hb
  go_enter Tryd.func38, Tryd.ntmps38
  go_wp2_with fail
  go_loopw [4, 5, 6] (fun o g i wr => ∃ k : Nat, i = .int .i64 k ∧ k ≤ fs.length ∧ o = .string (strB (flat ((fs.take k).map (lineW nmO)))) ∧ g = .bool (goodB nmO vlO (fs.take k)) ∧ Below w.heap.size w wr) (fun _ _ i _ => fs.length - (intOf i).toNat)
  case atStart => exact ⟨0, rfl, Nat.zero_le _, rfl, rfl, Below.refl _ _⟩
  case round =>
    obtain ⟨k, rfl, hk, rfl, rfl, hBr⟩ := hrel
    have hbr := hBr.size
    have hoz : (strB (flat ((fs.take k).map (lineW nmO)))).size ≤ 1100000000 := by rw [strB_size]; exact HSZ.out k
    by_cases hlt : k < fs.length
    · obtain ⟨p, hp⟩ : ∃ p, fs[k]? = some p := ⟨fs[k], by simp [hlt]⟩
      obtain ⟨g, off, rfl, hg1, h1, h2⟩ := HC.out k p hp
      have hc1 : wr.cell? ⟨g, off + k * 2, none⟩ = some (.string (strB p.1)) := (hBr.cell (p := ⟨g, off + k * 2, none⟩) hg1).trans h1
      have hc2 : wr.cell? ⟨g, off + k * 2 + 1, none⟩ = some (.string (strB p.2)) := (hBr.cell (p := ⟨g, off + k * 2 + 1, none⟩) hg1).trans h2
      have HG1 := Lib.hid (Nat.lt_of_lt_of_le hg1 hBr.size)
      have HP := Lib.hid hp
      have hpl := HBig.out p (List.mem_of_getElem? hp)
      have hz1 : (strB p.1).size ≤ 1000000 := by rw [strB_size]; omega
      have hz2 : (strB p.2).size ≤ 1000000 := by rw [strB_size]; omega
      have hz3 : (strB (nameR p.1)).size ≤ 1000000 := by rw [strB_size]; have := nameR_len p.1; omega
      have N := Lib.hid (fun w => refName_any (strB p.1) w (by omega))
      have V := Lib.hid (fun w => refValue_any (strB p.2) w (by omega))
      rw [strB_list] at N V
      have HF := Lib.hid (flatW_more hp)
      clear hp h1 h2 hpl
      generalize flat ((fs.take k).map (lineW nmO)) = O at *
      cases hgk : goodB nmO vlO (fs.take k) with
      | false =>
        by_cases hn : nameC p.1 = 0
        · have HGs := Lib.hid (good_stays HP.out hgk)
          have HL := Lib.hid (lineW_low hn)
          have HO := Lib.hid (show strB O ++ (strB (nameR p.1) ++ (⟨#[58, 32]⟩ : ByteArray) ++ strB p.2 ++ (⟨#[13, 10]⟩ : ByteArray)) = strB (flat ((fs.take (k + 1)).map (lineW nmO))) by rw [line_out, HF.out, HL.out])
          have HGo := Lib.hid (HGs.out)
          have qn : ((nameC p.1 : Int) == 0) = true := by rw [hn]; rfl
          have qn2 : ((nameC p.1 : Int) != 0) = false := by rw [hn]; rfl
          clear hn hgk
          go_wp2_with fail
          refine (N.out _).mono ?_
          rintro e w1 ⟨rfl, hB1⟩
          have hd1 := (hB1.cell (p := ⟨g, off + k * 2, none⟩) HG1.out).trans hc1
          have hd2 := (hB1.cell (p := ⟨g, off + k * 2 + 1, none⟩) HG1.out).trans hc2
          have hB1' := hBr.trans (hB1.mono hbr)
          clear hB1 hc1 hc2
          go_wp2_with fail
          refine (V.out _).mono ?_
          rintro e w2 ⟨rfl, rfl⟩
          go_wp2_with fail
          go_roundw
          case rel => exact ⟨k + 1, by go_num, by omega, by rw [← HO.out], by rw [HGo.out], hB1'⟩
          case measure => simp [intOf]; omega
        · have HGs := Lib.hid (good_stays HP.out hgk)
          have HL := Lib.hid (lineW_raw hn)
          have HO := Lib.hid (show strB O ++ (strB (p.1) ++ (⟨#[58, 32]⟩ : ByteArray) ++ strB p.2 ++ (⟨#[13, 10]⟩ : ByteArray)) = strB (flat ((fs.take (k + 1)).map (lineW nmO))) by rw [line_out, HF.out, HL.out])
          have HGo := Lib.hid (HGs.out)
          have qn : ((nameC p.1 : Int) == 0) = false := by simp; omega
          have qn2 : ((nameC p.1 : Int) != 0) = true := by simp; omega
          clear hn hgk
          go_wp2_with fail
          refine (N.out _).mono ?_
          rintro e w1 ⟨rfl, hB1⟩
          have hd1 := (hB1.cell (p := ⟨g, off + k * 2, none⟩) HG1.out).trans hc1
          have hd2 := (hB1.cell (p := ⟨g, off + k * 2 + 1, none⟩) HG1.out).trans hc2
          have hB1' := hBr.trans (hB1.mono hbr)
          clear hB1 hc1 hc2
          go_wp2_with fail
          refine (V.out _).mono ?_
          rintro e w2 ⟨rfl, rfl⟩
          go_wp2_with fail
          go_roundw
          case rel => exact ⟨k + 1, by go_num, by omega, by rw [← HO.out], by rw [HGo.out], hB1'⟩
          case measure => simp [intOf]; omega
      | true =>
        by_cases hn : nameC p.1 = 0
        · by_cases hv : valueC p.2 = 0
          · have hvr : valueR p.2 = trimB p.2 := by unfold valueR; rw [if_pos hv]
            by_cases ht : trimB p.2 = p.2
            · have HGs := Lib.hid (good_true HP.out hgk ⟨hn, hv, ht⟩)
              have HL := Lib.hid (lineW_low hn)
              have HO := Lib.hid (show strB O ++ (strB (nameR p.1) ++ (⟨#[58, 32]⟩ : ByteArray) ++ strB p.2 ++ (⟨#[13, 10]⟩ : ByteArray)) = strB (flat ((fs.take (k + 1)).map (lineW nmO))) by rw [line_out, HF.out, HL.out])
              have HGo := Lib.hid (HGs.out)
              have qn : ((nameC p.1 : Int) == 0) = true := by rw [hn]; rfl
              have qn2 : ((nameC p.1 : Int) != 0) = false := by rw [hn]; rfl
              have qv : ((valueC p.2 : Int) == 0) = true := by rw [hv]; rfl
              have qt := toList_same (show valueR p.2 = p.2 from hvr.trans ht)
              clear hn hgk hv hvr ht
              go_wp2_with fail
              refine (N.out _).mono ?_
              rintro e w1 ⟨rfl, hB1⟩
              have hd1 := (hB1.cell (p := ⟨g, off + k * 2, none⟩) HG1.out).trans hc1
              have hd2 := (hB1.cell (p := ⟨g, off + k * 2 + 1, none⟩) HG1.out).trans hc2
              have hB1' := hBr.trans (hB1.mono hbr)
              clear hB1 hc1 hc2
              go_wp2_with fail
              refine (V.out _).mono ?_
              rintro e w2 ⟨rfl, rfl⟩
              go_wp2_with fail
              go_roundw
              case rel => exact ⟨k + 1, by go_num, by omega, by rw [← HO.out], by rw [HGo.out], hB1'⟩
              case measure => simp [intOf]; omega
            · have HGs := Lib.hid (good_false HP.out (fun h => ht h.2.2))
              have HL := Lib.hid (lineW_low hn)
              have HO := Lib.hid (show strB O ++ (strB (nameR p.1) ++ (⟨#[58, 32]⟩ : ByteArray) ++ strB p.2 ++ (⟨#[13, 10]⟩ : ByteArray)) = strB (flat ((fs.take (k + 1)).map (lineW nmO))) by rw [line_out, HF.out, HL.out])
              have HGo := Lib.hid (HGs.out)
              have qn : ((nameC p.1 : Int) == 0) = true := by rw [hn]; rfl
              have qn2 : ((nameC p.1 : Int) != 0) = false := by rw [hn]; rfl
              have qv : ((valueC p.2 : Int) == 0) = true := by rw [hv]; rfl
              have qt := toList_other (show valueR p.2 ≠ p.2 from fun h => ht (hvr.symm.trans h))
              clear hn hgk hv hvr ht
              go_wp2_with fail
              refine (N.out _).mono ?_
              rintro e w1 ⟨rfl, hB1⟩
              have hd1 := (hB1.cell (p := ⟨g, off + k * 2, none⟩) HG1.out).trans hc1
              have hd2 := (hB1.cell (p := ⟨g, off + k * 2 + 1, none⟩) HG1.out).trans hc2
              have hB1' := hBr.trans (hB1.mono hbr)
              clear hB1 hc1 hc2
              go_wp2_with fail
              refine (V.out _).mono ?_
              rintro e w2 ⟨rfl, rfl⟩
              go_wp2_with fail
              go_roundw
              case rel => exact ⟨k + 1, by go_num, by omega, by rw [← HO.out], by rw [HGo.out], hB1'⟩
              case measure => simp [intOf]; omega
          · have HGs := Lib.hid (good_false HP.out (fun h => hv h.2.1))
            have HL := Lib.hid (lineW_low hn)
            have HO := Lib.hid (show strB O ++ (strB (nameR p.1) ++ (⟨#[58, 32]⟩ : ByteArray) ++ strB p.2 ++ (⟨#[13, 10]⟩ : ByteArray)) = strB (flat ((fs.take (k + 1)).map (lineW nmO))) by rw [line_out, HF.out, HL.out])
            have HGo := Lib.hid (HGs.out)
            have qn : ((nameC p.1 : Int) == 0) = true := by rw [hn]; rfl
            have qn2 : ((nameC p.1 : Int) != 0) = false := by rw [hn]; rfl
            have qv : ((valueC p.2 : Int) == 0) = false := by simp; omega
            clear hn hgk hv
            go_wp2_with fail
            refine (N.out _).mono ?_
            rintro e w1 ⟨rfl, hB1⟩
            have hd1 := (hB1.cell (p := ⟨g, off + k * 2, none⟩) HG1.out).trans hc1
            have hd2 := (hB1.cell (p := ⟨g, off + k * 2 + 1, none⟩) HG1.out).trans hc2
            have hB1' := hBr.trans (hB1.mono hbr)
            clear hB1 hc1 hc2
            go_wp2_with fail
            refine (V.out _).mono ?_
            rintro e w2 ⟨rfl, rfl⟩
            go_wp2_with fail
            go_roundw
            case rel => exact ⟨k + 1, by go_num, by omega, by rw [← HO.out], by rw [HGo.out], hB1'⟩
            case measure => simp [intOf]; omega
        · have HGs := Lib.hid (good_false HP.out (fun h => hn h.1))
          have HL := Lib.hid (lineW_raw hn)
          have HO := Lib.hid (show strB O ++ (strB (p.1) ++ (⟨#[58, 32]⟩ : ByteArray) ++ strB p.2 ++ (⟨#[13, 10]⟩ : ByteArray)) = strB (flat ((fs.take (k + 1)).map (lineW nmO))) by rw [line_out, HF.out, HL.out])
          have HGo := Lib.hid (HGs.out)
          have qn : ((nameC p.1 : Int) == 0) = false := by simp; omega
          have qn2 : ((nameC p.1 : Int) != 0) = true := by simp; omega
          clear hn hgk
          go_wp2_with fail
          refine (N.out _).mono ?_
          rintro e w1 ⟨rfl, hB1⟩
          have hd1 := (hB1.cell (p := ⟨g, off + k * 2, none⟩) HG1.out).trans hc1
          have hd2 := (hB1.cell (p := ⟨g, off + k * 2 + 1, none⟩) HG1.out).trans hc2
          have hB1' := hBr.trans (hB1.mono hbr)
          clear hB1 hc1 hc2
          go_wp2_with fail
          refine (V.out _).mono ?_
          rintro e w2 ⟨rfl, rfl⟩
          go_wp2_with fail
          go_roundw
          case rel => exact ⟨k + 1, by go_num, by omega, by rw [← HO.out], by rw [HGo.out], hB1'⟩
          case measure => simp [intOf]; omega
    · have htk : fs.take k = fs := List.take_of_length_le (by omega)
      rw [htk] at hoz ⊢
      have HE := Lib.hid (body_end (flat (fs.map (lineW nmO))))
      go_wp2_with fail
      refine bodyPost_ret (v := .tuple #[.string (strB (flat (fs.map (lineW nmO))) ++ (⟨#[13, 10]⟩ : ByteArray)), .bool (goodB nmO vlO fs)]) (by simp [results, Tryd.results38, go_sem]) rfl ?_
      exact ⟨by rw [HE.out], hBr⟩
end Go.Proofs.YtboemdhmmdcmpaaDoor
