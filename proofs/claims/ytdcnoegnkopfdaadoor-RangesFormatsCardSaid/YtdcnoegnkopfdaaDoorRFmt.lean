/- What the code's Format returns. -/
import Derived.Test.YtdcnoegnkopfdaaDoorRRgText
import Derived.Test.YtdcnoegnkopfdaaDoorRFmtP
import Derived.Test.YtdcnoegnkopfdaaDoorRParse
namespace Go.Proofs.YtdcnoegnkopfdaaDoor
open Go.RowKit

theorem join9_any (v : Value) (ls : List (List UInt8)) (l : List Rg) (B : Nat) (w : World) (hO : OwnsS B w v ls) (hls : ls = l.map textR) (hg : goodR l) (hl : l.length ≤ 1000000) (hne : l ≠ []) :
    Calls Tryd.prog 43 #[v, .string ⟨#[44]⟩] w fun e w' => e = .returned (.string (strB (formR l))) ∧ Below w.heap.size w w' := by
  have hlen : ls.length = l.length := by rw [hls]; simp
  have hjl : (Lib.join ls [44]).length ≤ l.length * 42 := by rw [hls, join_formR]; exact formR_len l hg
  have hj : Lib.join ls [44] = formR l := by rw [hls, join_formR]
  rcases hO.open' with ⟨rfl, rfl⟩ | ⟨g, cap, rfl, hb, hgs, hc⟩
  · exact absurd (List.eq_nil_of_length_eq_zero (by rw [← hlen]; rfl)) hne
  · have hm : (ls.map strB).map (fun s : ByteArray => s.data.toList) = ls := by
      rw [List.map_map]
      conv => rhs; rw [← List.map_id ls]
      exact List.map_congr_left fun l _ => strB_list l
    have hcap : ls.length ≤ cap := by
      rcases hO with ⟨_, ⟨hv, _⟩ | ⟨g', cap', cur, hv, _, _, hn, _⟩⟩
      · cases hv
      · injection hv with _ _ h3; subst h3; exact hn
    have := Tryd.strings_Join g 0 cap (ls.map strB) ⟨#[44]⟩ w (fun j x hx => by
      rw [List.getElem?_map] at hx
      cases hj : ls[j]? with
      | none => rw [hj] at hx; cases hx
      | some l =>
        rw [hj] at hx
        simp only [Option.map_some, Option.some.injEq] at hx
        rw [Nat.zero_add, hc j l hj, hx]) hgs (by simp; omega) (by simpa using hcap) (by
        rw [hm]; show (Lib.join ls [44]).length ≤ _; omega)
    rw [List.length_map] at this
    refine this.mono ?_
    rintro e w' ⟨rfl, hB⟩
    rw [hm]
    exact ⟨by show Ending.returned (.string ⟨(Lib.join ls [44]).toArray⟩) = _; rw [hj]; rfl, hB⟩
def FRel (l : List Rg) (w : World) (v i : Value) (wr : World) : Prop :=
  ∃ k : Nat, i = .int .i64 k ∧ k ≤ l.length ∧ goodR (l.take k) ∧ OwnsS w.heap.size wr v ((l.take k).map textR) ∧ Below w.heap.size w wr
theorem fmt_app (l : List UInt8) : (⟨#[98, 121, 116, 101, 115, 61]⟩ : ByteArray) ++ strB l = strB (preB ++ l) := by apply ByteArray.ext; simp [strB, preB]
set_option maxHeartbeats 8000000 in
set_option maxRecDepth 100000 in
theorem format_any (va : Value) (l : List Rg) (w : World) (hT : HasTab w) (ha : ReadsI w va l) (hl : l.length ≤ 100000) :
    Calls Tryd.prog 15 #[va] w fun e w' => e = .returned (crV (fmtR l)) ∧ Below w.heap.size w w' := by
  obtain ⟨i0, hi, hz0, hz1, hz2⟩ := info_parts Tryd.infoS
  obtain ⟨ao, ca, rfl, hca⟩ := ha
  have HA := Lib.hid hca
  have HT := Lib.hid hT
  clear hca hT
  go_enter Tryd.func15, Tryd.ntmps15
  go_wp2
  go_loopw [4, 9] (fun v i wr => FRel l w v i wr) (fun _ i _ => l.length - (intOf i).toNat)
  case atStart => exact ⟨0, rfl, Nat.zero_le _, goodR0 _, World.ownsRow_nil _ _ _ _, Below.refl _ _⟩
  case round =>
    obtain ⟨k, rfl, hk, hgd, hO, hBr⟩ := hrel
    have hbr := hBr.size
    have HBR := Lib.hid hBr
    have HG := Lib.hid hgd
    clear hBr hgd
    by_cases hlt : k < l.length
    · obtain ⟨p, hp⟩ : ∃ p, l[k]? = some p := ⟨l[k], by simp [hlt]⟩
      obtain ⟨g, off, rfl, hg, hc1, hc2⟩ := HA.out k p hp
      have hd1 := (HBR.out.cell (p := ⟨g, off + k * 2, none⟩) hg).trans hc1
      have hd2 := (HBR.out.cell (p := ⟨g, off + k * 2 + 1, none⟩) hg).trans hc2
      have HP := Lib.hid hp
      clear hp hc1 hc2
      have HIP := Lib.hid (fun (w : World) => isProper_any p w)
      by_cases h1 : properR p
      · have hd : decide (properR p) = true := decide_eq_true h1
        rw [hd] at HIP
        have HX := Lib.hid (fun (w : World) (hT : HasTab w) => text_any p w hT h1)
        have HG2 := Lib.hid (goodR_step HG.out HP.out h1)
        have HTS := Lib.hid (take_map_snoc HP.out)
        have htz := textR_len h1
        generalize textR p = tx at *
        obtain ⟨x, y⟩ := p
        clear hd h1
        simp only at hd1 hd2
        go_wp2_with fail
        refine (HIP.out _).mono ?_
        rintro e w1 ⟨rfl, hB1⟩
        have hbx := (twoI_new wr x y 46).below hB1
        have HW1 := Lib.hid ((HBR.out.alloc hbr (.cells #[.int .i64 x, .int .i64 y] 46)).trans (hB1.mono (HBR.out.alloc hbr _).size))
        have HC1 := Lib.hid ((below_new wr (.cells #[.int .i64 x, .int .i64 y] 46)).trans (hB1.mono (by simp)))
        obtain ⟨c0, c1, f0, f1, hN⟩ := hbx
        clear hB1
        go_wp2_with fail
        refine (HX.out _ (HT.out.below HW1.out)).mono ?_
        rintro e w2 ⟨rfl, hB2⟩
        have HW2 := Lib.hid (HW1.out.trans (hB2.mono HW1.out.size))
        have HC2 := Lib.hid (HC1.out.trans (hB2.mono HC1.out.size))
        have hO2 := hO.below HC2.out
        have hsz2 := HC2.out.size
        clear hB2 c0 c1 f0 f1 hN hO
        have htl : ((l.take k).map textR).length = k := by simp; omega
        have HTL := Lib.hid htl
        have htl2 : ((l.take k).map textR).length ≤ 1000000 := by omega
        clear htl
        go_wp2_with (at_builtin; go_must (refine wpList_append_own _ rfl _ _ 76 rfl w.heap.size 9 i0 (.string ByteArray.empty) 1 16 Tryd.underlying76 hi hz0 hz1 hz2 rfl (by decide) _ _ _ rfl (World.ownsRow.alloc hO2 _) ⟨w2.heap.size, 0, none⟩ 1 1 [strV tx] rfl rfl (cell_one_new _ _ _) (fun u hu => by simp at hu; subst hu; rfl) (by unfold maxLen; omega) (by omega) (by simp; omega) ?_); intro v' w5 hown' hgrow _)
        go_roundw
        case rel => exact ⟨k + 1, by go_num, by omega, HG2.out, by rw [HTS.out]; exact OwnsS.snoc hown', below_append HW2.out (by omega) (Below.refl _ _) hO2 hgrow⟩
        case measure => simp [intOf]; omega
      · have hd : decide (properR p) = false := decide_eq_false h1
        rw [hd] at HIP
        have HR := Lib.hid (fmt_bad HP.out h1)
        obtain ⟨x, y⟩ := p
        clear hd h1
        simp only at hd1 hd2
        go_wp2_with fail
        refine (HIP.out _).mono ?_
        rintro e w1 ⟨rfl, hB1⟩
        have HW1 := Lib.hid ((HBR.out.alloc hbr (.cells #[.int .i64 x, .int .i64 y] 46)).trans (hB1.mono (HBR.out.alloc hbr _).size))
        clear hB1
        go_wp2_with fail
        go_ret2
        exact ⟨by rw [HR.out]; rfl, HW1.out⟩
    · have HTT := Lib.hid (show l.take k = l from List.take_of_length_le (by omega))
      rw [HTT.out] at hO
      by_cases hne : l = []
      · subst hne
        rcases hO.open' with ⟨rfl, _⟩ | ⟨g, cap, rfl, _, _, _⟩
        · go_wp2
          go_ret2
          exact ⟨rfl, HBR.out⟩
        · go_wp2
          go_ret2
          exact ⟨rfl, HBR.out⟩
      · have hgl : goodR l := by have := HG.out; rwa [HTT.out] at this
        have HJ := Lib.hid (fun (v : Value) (w1 : World) (hO : OwnsS w.heap.size w1 v (l.map textR)) => join9_any v _ l _ w1 hO rfl hgl (by omega) hne)
        have HR := Lib.hid (fmt_good HG.out (by omega) hne)
        have hfl := formR_len l hgl
        have hz : (strB (formR l)).size ≤ 4200000 := by rw [strB_size]; omega
        have HO := Lib.hid hO
        have hpos : 0 < l.length := List.length_pos_iff.mpr hne
        rcases hO.open' with ⟨_, h⟩ | ⟨g, cap, h, _, _, _⟩
        · exact absurd (List.map_eq_nil_iff.mp h) hne
        rw [List.length_map] at h
        subst h
        clear hO hgl hne hfl
        go_wp2_with fail
        refine (HJ.out _ _ HO.out).mono ?_
        rintro e w1 ⟨rfl, hB1⟩
        go_wp2_with fail
        go_ret2
        exact ⟨by rw [HR.out]; show _ = Ending.returned (.tuple #[.string (strB (preB ++ formR l)), .nilIface]); rw [← fmt_app]; rfl, HBR.out.trans (hB1.mono hbr)⟩
end Go.Proofs.YtdcnoegnkopfdaaDoor
