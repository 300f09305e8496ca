/- What the reference's Parse returns. -/
import Derived.Test.YtdcnoegnkopfdaaDoorRRefElem
import Derived.Test.YtdcnoegnkopfdaaDoorRParse
import Derived.Test.YtdcnoegnkopfdaaDoorRefList
namespace Go.Proofs.YtdcnoegnkopfdaaDoor
open Go.RowKit

theorem Tryd.infoR9 : (Tryd.prog.info? 43).map (fun i => (i.zero, i.size, i.bytes)) = some (some (.agg #[.int .i64 0, .int .i64 0]), 2, 16) := by kernel_rfl
theorem refListO_len {s : ByteArray} {ls : List (List UInt8)} (w : World) {e : Ending} {w' : World} (h : RefListPost s w e w') (hl : listO s.data.toList = some ls) :
    ∃ v, e = .returned (.tuple #[v, .bool true]) ∧ OwnsS w.heap.size w' v ls ∧ ls.length ≤ 100002 ∧ Below w.heap.size w w' := by
  obtain ⟨hB, h⟩ := h
  rw [hl] at h
  obtain ⟨v, h1, h2, h3⟩ := h
  exact ⟨v, h1, h2, h3, hB⟩
theorem pre_short {l : List UInt8} (h : l.length < 6) : preB.isPrefixOf l = false := by
  rw [Bool.eq_false_iff]; intro hp
  have := (List.isPrefixOf_iff_prefix.mp hp).length_le
  simp [preB] at this; omega
theorem pre_six {l : List UInt8} (h : 6 ≤ l.length) {b : Bool} (hp : preB.isPrefixOf l = b) : (l.take 6 == preB) = b := by
  rw [← hp, Bool.eq_iff_iff, List.isPrefixOf_iff_prefix, beq_iff_eq]
  constructor
  · intro e; rw [← e]; exact List.take_prefix 6 l
  · intro e
    have := List.prefix_iff_eq_take.mp e
    rw [this]; rfl
abbrev intC (c : Nat) : Value := .int .i64 (c : Int)
set_option maxHeartbeats 8000000 in
set_option maxRecDepth 100000 in
theorem refParse_any (s : ByteArray) (n : Int) (w : World) (hs : s.size ≤ 100000) (hn1 : -9223372036854775808 ≤ n) (hn2 : n ≤ 9223372036854775807) :
    Calls Tryd.prog 12 #[.string s, .int .i64 n] w fun e w' => ParsePost 43 n s w e w' intC (.int .i64 0) := by
  obtain ⟨i0, hi, hz0, hz1, hz2⟩ := info_parts Tryd.infoR9
  have hlen : s.data.toList.length = s.size := by simp
  obtain ⟨m, hm⟩ : ∃ m : Int, m = max n 0 := ⟨_, rfl⟩
  have hm0 : 0 ≤ m := by omega
  have hm1 : m ≤ 9223372036854775807 := by omega
  have hmx : max n 0 = m := hm.symm
  have HMX := Lib.hid hm
  clear hm
  by_cases h6 : s.size < 6
  · have HR := Lib.hid (parseR_pre n (pre_short (l := s.data.toList) (by omega)))
    go_enter Tryd.func12, Tryd.ntmps12
    go_wp2
    go_ret2
    exact post_err (Below.refl _ _) HR.out rfl
  have h6' : 6 ≤ s.size := by omega
  cases hp : preB.isPrefixOf s.data.toList with
  | false =>
    have HR := Lib.hid (parseR_pre n hp)
    have hq : ((s.extract 0 6).toList == [98, 121, 116, 101, 115, 61]) = false := by
      rw [ByteArray.toList_eq, seg_list, List.drop_zero]
      exact pre_six (by omega) hp
    clear hp h6
    go_enter Tryd.func12, Tryd.ntmps12
    go_wp2
    go_ret2
    exact post_err (Below.refl _ _) HR.out rfl
  | true =>
    have hq : ((s.extract 0 6).toList == [98, 121, 116, 101, 115, 61]) = true := by
      rw [ByteArray.toList_eq, seg_list, List.drop_zero]
      exact pre_six (by omega) hp
    have hdl : (s.extract 6 s.size).data.toList = s.data.toList.drop 6 := by rw [seg_list, List.take_of_length_le (by simp)]
    have HL := Lib.hid (fun w => refList_any (s.extract 6 s.size) w (by rw [ByteArray.size_extract]; omega))
    go_enter Tryd.func12, Tryd.ntmps12
    go_wp2_with fail
    refine (HL.out _).mono ?_
    rintro e w1 hpost
    cases hl : listO (s.extract 6 s.size).data.toList with
    | none =>
      obtain ⟨hB, he⟩ := hpost
      rw [hl] at he
      rw [hdl] at hl
      have HR := Lib.hid (parseR_list n hp hl)
      subst he
      clear hl hp
      go_wp2
      go_ret2
      exact post_err hB HR.out rfl
    | some ls =>
      obtain ⟨v, rfl, hv, hle, hB⟩ := refListO_len _ hpost hl
      rw [hdl] at hl
      by_cases hne : ls = []
      · subst hne
        have HR := Lib.hid (parseR_nil n hp hl)
        obtain ⟨ao, cap, rfl, _⟩ := hv.reads
        clear hl hp hpost
        go_wp2
        go_ret2
        exact post_err hB HR.out rfl
      · have hpos : 0 < ls.length := List.length_pos_iff.mpr hne
        rcases hv.open' with ⟨rfl, rfl⟩ | ⟨g, cap, rfl, hBg, hgs, hcells⟩
        · exact absurd rfl hne
        have HB := Lib.hid hB
        have HLI := Lib.hid (listO_in hl)
        have HPB := Lib.hid (fun (h : elemsR (max n 0) ls = none) => parseR_bad n hp hl h)
        have HPS := Lib.hid (fun (rs : List Rg) (h : elemsR (max n 0) ls = some rs) => parseR_some n hp hl hne h)
        have HCE := Lib.hid hcells
        have hBsz := hB.size
        rw [hmx] at HPB HPS
        have hl0 : ((ls.length : Int) == 0) = false := by simp; exact hne
        clear hB hl hp hpost hv hcells hne hdl HL h6 hq
        go_wp2
        go_loopw [8, 37] (fun v i wr => PRel 43 m ls w1 v i wr) (fun _ i _ => ls.length - (intOf i).toNat)
        case atStart => exact PRel0 _ _ _ _
        case round =>
          obtain ⟨k, rs, rfl, hk, hrk, hu, hO, hBr⟩ := hrel
          have HU := Lib.hid hu
          have hbr := hBr.size
          have HBR := Lib.hid hBr
          clear hu hBr
          by_cases hlt : k < ls.length
          · obtain ⟨l, hl⟩ : ∃ l, ls[k]? = some l := ⟨ls[k], by simp [hlt]⟩
            have hcell : wr.cell? ⟨g, k, none⟩ = some (.string (strB l)) := (HBR.out.cell (p := ⟨g, k, none⟩) hgs).trans (HCE.out k l hl)
            have HL := Lib.hid hl
            clear hl
            have hll : (strB l).size ≤ 1000000 := by
              have h1 := HLI.out l (List.mem_of_getElem? HL.out)
              rw [strB_size]; rw [List.length_drop] at h1; omega
            have HE := Lib.hid (fun (w : World) => refElem_any (strB l) m w hll hm0 hm1)
            clear hll
            go_wp2_with fail
            refine (HE.out _).mono ?_
            rintro e w2 ⟨he, hB2⟩
            rw [strB_list] at he
            have hb2 := hB2.size
            cases hq : elemR l m with
            | none =>
              rw [hq] at he
              have HR := Lib.hid (HPB.out (upTo_bad HU.out HL.out hq))
              clear hq
              simp only [Option.map_none] at he
              unfold rfO rgF at he
              subst he
              go_wp2
              go_ret2
              exact post_err (HB.out.trans (((HBR.out.trans (hB2.mono hbr)).alloc (by omega) _).mono hBsz)) HR.out rfl
            | some r =>
              rw [hq] at he
              have HQ := Lib.hid hq
              obtain ⟨x2, y2, hx2⟩ : ∃ x2 y2, withinR r m = (x2, y2) := ⟨_, _, rfl⟩
              have HX2 := Lib.hid hx2
              simp only [Option.map_some] at he
              rw [hx2] at he
              unfold rfO rgT at he
              clear hq hx2
              subst he
              have HB2 := Lib.hid hB2
              have hO2 := hO.below HB2.out
              have hfl := flatI_len rs
              clear hB2
              by_cases hc : x2 < y2
              · have HD := Lib.hid (upTo_keep HU.out HL.out HQ.out (by rw [HX2.out]; exact hc))
                rw [HX2.out] at HD
                go_wp2_with (at_builtin; go_must (refine wpList_append_own _ rfl _ _ 28 rfl w1.heap.size 43 i0 (.agg #[.int .i64 0, .int .i64 0]) 2 16 Tryd.underlying28 hi hz0 hz1 hz2 rfl (by decide) _ _ _ rfl ((World.ownsRow.alloc hO2 _).alloc _) ⟨w2.heap.size + 1, 0, none⟩ 1 1 [.int .i64 x2, .int .i64 y2] rfl rfl (new_rg2 w2 _ x2 y2 _) (fun u hu => by simp at hu; rcases hu with rfl | rfl <;> rfl) (by unfold maxLen; omega) (by omega) (by simp; omega) ?_); intro v' w5 hown' hgrow _)
                go_roundw
                case rel => exact ⟨k + 1, rs ++ [(x2, y2)], by go_num, by omega, by simp; omega, HD.out, OwnsI.snoc hown', below_appendI HBR.out hbr (HB2.out.alloc (by omega) _) hO hgrow⟩
                case measure => simp [intOf]; omega
              · have hc' : y2 ≤ x2 := by omega
                have HD := Lib.hid (upTo_drop HU.out HL.out HQ.out (by rw [HX2.out]; exact hc'))
                clear hc
                go_wp2
                go_roundw
                case rel => exact ⟨k + 1, rs, by go_num, by omega, by omega, HD.out, hO2.below (below_new _ _), (HBR.out.trans (HB2.out.mono hbr)).alloc (by omega) _⟩
                case measure => simp [intOf]; omega
          · have hall := upTo_all HU.out (by omega)
            have HR := Lib.hid (HPS.out rs hall)
            clear hall
            by_cases h8 : 8 < ls.length
            · go_wp2
              go_ret2
              exact post_err (HB.out.trans (HBR.out.mono hBsz)) (by rw [HR.out, if_pos h8]) rfl
            · by_cases he : rs = []
              · subst he
                obtain ⟨ao, cap2, rfl, _⟩ := hO.reads
                go_wp2
                go_ret2
                exact post_err (HB.out.trans (HBR.out.mono hBsz)) (by rw [HR.out, if_neg h8]; rfl) rfl
              · have hpos2 : 0 < rs.length := List.length_pos_iff.mpr he
                have hO2 := hO
                obtain ⟨ao, cap2, rfl, _⟩ := hO.reads
                have HO := Lib.hid hO2
                have HE := Lib.hid he
                clear he hO hO2
                go_wp2
                go_ret2
                exact post_ok (HB.out.trans (HBR.out.mono hBsz)) (by rw [HR.out, if_neg h8, if_neg HE.out]) rfl (HO.out.mono hBsz) HE.out (by omega)
end Go.Proofs.YtdcnoegnkopfdaaDoor
