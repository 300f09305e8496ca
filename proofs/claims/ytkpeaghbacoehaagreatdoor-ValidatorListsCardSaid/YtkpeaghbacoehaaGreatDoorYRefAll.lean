/- What the reference's ReadAll returns. -/
import Derived.Test.YtkpeaghbacoehaaGreatDoorYRef
import Derived.Test.YtkpeaghbacoehaaGreatDoorYMatch
import Derived.Test.YtkpeaghbacoehaaGreatDoorTrim
namespace Go.Proofs.YtkpeaghbacoehaaGreatDoor
open Go.RowKit

def RefAllPost (T : TypeId) (l : List UInt8) (w : World) (e : Ending) (w' : World) : Prop :=
  Below w.heap.size w w' ∧
  ((starL l = true ∧ e = .returned (.tuple #[.slice none 0 0, .bool true, .bool true])) ∨
   (starL l = false ∧ lstL l [] = none ∧ ∃ v, e = .returned (.tuple #[v, .bool false, .bool false])) ∨
   (starL l = false ∧ ∃ v ts, lstL l [] = some ts ∧ e = .returned (.tuple #[v, .bool false, .bool true]) ∧ OwnsT T w.heap.size w' v ts ∧ ts.length ≤ l.length + 1))
def GRel (T : TypeId) (l : List UInt8) (w : World) (v x q i : Value) (wr : World) : Prop :=
  ∃ (acc : List Tg) (k y : Nat) (b : Bool), i = .int .i64 k ∧ x = .int .i64 y ∧ q = .bool b ∧ OwnsT T w.heap.size wr v acc ∧ Below w.heap.size w wr ∧ acc.length ≤ k ∧ y ≤ k ∧
    ((k ≤ l.length ∧ lstG ((l.drop y).take (k - y)) b (l.drop k) acc = lstL l []) ∨ (k = l.length + 1 ∧ finT acc = lstL l []))
theorem cur_more {l : List UInt8} {y k : Nat} {c : UInt8} (hy : y ≤ k) (hc : l[k]? = some c) : (l.drop y).take (k + 1 - y) = (l.drop y).take (k - y) ++ [c] := by
  rw [show k + 1 - y = (k - y) + 1 by omega, List.take_add_one, List.getElem?_drop, show y + (k - y) = k by omega, hc]; rfl
theorem g_more {l : List UInt8} {y k : Nat} {b : Bool} {acc : List Tg} {c : UInt8} {t : Option (List Tg)} (hy : y ≤ k) (hc : l[k]? = some c) (h : lstG ((l.drop y).take (k - y)) b (l.drop k) acc = t) (b' : Bool) (hb : b' = if c = 34 then !b else b) (hg : b' = true ∨ c ≠ 44) :
    lstG ((l.drop y).take (k + 1 - y)) b' (l.drop (k + 1)) acc = t := by
  have hd : l.drop k = c :: l.drop (k + 1) := by
    have hlt : k < l.length := (List.getElem?_eq_some_iff.mp hc).1
    rw [List.drop_eq_getElem_cons hlt]
    congr 1
    exact (List.getElem?_eq_some_iff.mp hc).2
  rw [hd, lstG_cons, ← hb, if_pos hg] at h
  rw [cur_more hy hc]; exact h
theorem g_part {l : List UInt8} {y k : Nat} {acc : List Tg} {t : Option (List Tg)} (hc : l[k]? = some 44) (h : lstG ((l.drop y).take (k - y)) false (l.drop k) acc = t) :
    (addT ((l.drop y).take (k - y)) acc).bind (fun acc' => lstG ((l.drop (k + 1)).take (k + 1 - (k + 1))) false (l.drop (k + 1)) acc') = t := by
  have hd : l.drop k = 44 :: l.drop (k + 1) := by
    have hlt : k < l.length := (List.getElem?_eq_some_iff.mp hc).1
    rw [List.drop_eq_getElem_cons hlt]
    congr 1
    exact (List.getElem?_eq_some_iff.mp hc).2
  rw [hd, lstG_cons, if_neg (by simp)] at h
  rw [show k + 1 - (k + 1) = 0 by omega, List.take_zero]
  simpa using h
theorem g_last {l : List UInt8} {y k : Nat} {b : Bool} {acc : List Tg} {t : Option (List Tg)} (hk : k = l.length) (h : lstG ((l.drop y).take (k - y)) b (l.drop k) acc = t) : (addT ((l.drop y).take (k - y)) acc).bind finT = t := by
  rw [hk, List.drop_length, lstG_end] at h
  rw [hk]; exact h
theorem Tryz.infoTR : (Tryz.prog.info? 23).map (fun i => (i.zero, i.size, i.bytes)) = some (some (.agg #[.bool false, .string ByteArray.empty]), 2, 24) := by kernel_rfl
theorem refTrimS_any (s : ByteArray) (w : World) (hl : s.size ≤ 1000000) : Calls Tryz.prog 40 #[.string s] w fun e w' => e = .returned (.string (strB (trimB s.data.toList))) ∧ w = w' := by
  have := refTrim_any s.data.toList w (by simpa using hl)
  rwa [strB_of] at this
theorem addT_nil {x : List UInt8} (acc : List Tg) (h : trimB x = []) : addT x acc = some acc := by unfold addT; rw [if_pos h]
theorem addT_none {x : List UInt8} (acc : List Tg) (h : trimB x ≠ []) (hq : readTL (trimB x) = none) : addT x acc = none := by unfold addT; rw [if_neg h, hq]; rfl
theorem addT_some {x : List UInt8} (acc : List Tg) {t : Tg} (h : trimB x ≠ []) (hq : readTL (trimB x) = some t) : addT x acc = some (acc ++ [t]) := by unfold addT; rw [if_neg h, hq]; rfl
/-- The end of a round behind a part: a comma, or the text's end. -/
def PartNext (l : List UInt8) (k y : Nat) (b : Bool) (acc : List Tg) : Prop :=
  (addT ((l.drop y).take (k - y)) acc = none → lstL l [] = none) ∧
  ∀ acc', addT ((l.drop y).take (k - y)) acc = some acc' →
    ((k + 1 ≤ l.length ∧ lstG ((l.drop (k + 1)).take (k + 1 - (k + 1))) b (l.drop (k + 1)) acc' = lstL l []) ∨ (k + 1 = l.length + 1 ∧ finT acc' = lstL l []))
theorem partNext_comma {l : List UInt8} {y k : Nat} {acc : List Tg} (hc : l[k]? = some 44) (h : lstG ((l.drop y).take (k - y)) false (l.drop k) acc = lstL l []) : PartNext l k y false acc := by
  have h2 := g_part hc h
  have hlt : k < l.length := (List.getElem?_eq_some_iff.mp hc).1
  exact ⟨fun hn => by rw [hn] at h2; exact h2.symm, fun acc' ha => .inl ⟨hlt, by rw [ha] at h2; exact h2⟩⟩
theorem partNext_end {l : List UInt8} {y k : Nat} {b : Bool} {acc : List Tg} (hk : k = l.length) (h : lstG ((l.drop y).take (k - y)) b (l.drop k) acc = lstL l []) : PartNext l k y b acc := by
  have h2 := g_last hk h
  exact ⟨fun hn => by rw [hn] at h2; exact h2.symm, fun acc' ha => .inr ⟨by omega, by rw [ha] at h2; exact h2⟩⟩
set_option maxHeartbeats 16000000 in
set_option maxRecDepth 100000 in
theorem refAllT_any (l : List UInt8) (w : World) (hl : l.length ≤ 500000) :
    Calls Tryz.prog 20 #[.string (strB l)] w fun e w' => RefAllPost 23 l w e w' := by
  obtain ⟨i0, hi, hz0, hz1, hz2⟩ := info_tag Tryz.infoTR
  have hls : (strB l).size = l.length := strB_size l
  have HS := star_any l
  have HT0 := Lib.hid (fun w => refTrim_any l w (by omega))
  cases hst : starL l with
  | true =>
    rw [hst] at HS
    have HST := Lib.hid hst
    clear hst
    go_enter Tryz.func20, Tryz.ntmps20
    go_wp2_with fail
    refine (HT0.out _).mono ?_
    rintro e w' ⟨rfl, rfl⟩
    go_wp2_with fail
    exact bodyPost_ret (v := .tuple #[.slice none 0 0, .bool true, .bool true]) (by simp [results, Tryz.results20, go_sem]) rfl ⟨Below.refl _ _, .inl ⟨HST.out, rfl⟩⟩
  | false =>
    rw [hst] at HS
    have HST := Lib.hid hst
    clear hst
    go_enter Tryz.func20, Tryz.ntmps20
    go_wp2_with fail
    refine (HT0.out _).mono ?_
    rintro e w' ⟨rfl, rfl⟩
    go_wp2_with fail
    clear HS
    go_loopw [5, 6, 7, 18] (fun v x q i wr => GRel 23 l w v x q i wr) (fun _ _ _ i _ => l.length + 1 - (intOf i).toNat)
    case atStart => exact ⟨[], 0, 0, false, rfl, rfl, rfl, OwnsT.nil _ _ _, Below.refl _ _, Nat.le_refl _, Nat.le_refl _, .inl ⟨Nat.zero_le _, by simp [lstL]⟩⟩
    case round =>
      obtain ⟨acc, k, y, b, rfl, rfl, rfl, hO, hBr, hak, hyk, hcase⟩ := hrel
      have hbr := hBr.size
      have HBR := Lib.hid hBr
      have HO := Lib.hid hO
      clear hBr hO
      rcases hcase with ⟨hk, hK⟩ | ⟨hk, hK⟩
      · have HK := Lib.hid hK
        clear hK
        by_cases hlt : k < l.length
        · have hlt' : k < (strB l).size := by omega
          obtain ⟨c, hc⟩ : ∃ c, (strB l)[k] = c := ⟨_, rfl⟩
          have HC := Lib.hid (show l[k]? = some c by
            rw [List.getElem?_eq_getElem hlt, ← hc]
            have : (strB l)[k] = (strB l).data.toList[k]'(by rw [strB_list]; exact hlt) := rfl
            rw [this]; simp only [strB_list])
          by_cases h34 : c.toNat = 34
          · have e34 : ((c.toNat : Int) == 34) = true := by simp; omega
            have n44 : ((c.toNat : Int) != 44) = true := by simp; omega
            have hc34 : c = 34 := UInt8.toNat_inj.mp h34
            cases b
            · have HN := Lib.hid (g_more hyk HC.out HK.out true (by rw [hc34]; rfl) (.inl rfl))
              clear HK
              go_wp2_with fail
              go_roundw
              case rel => exact ⟨acc, k + 1, y, _, by go_num, rfl, rfl, HO.out, HBR.out, by omega, by omega, .inl ⟨by omega, HN.out⟩⟩
              case measure => simp [intOf]; omega
            · have HN := Lib.hid (g_more hyk HC.out HK.out false (by rw [hc34]; rfl) (.inr (by rw [hc34]; decide)))
              clear HK
              go_wp2_with fail
              go_roundw
              case rel => exact ⟨acc, k + 1, y, _, by go_num, rfl, rfl, HO.out, HBR.out, by omega, by omega, .inl ⟨by omega, HN.out⟩⟩
              case measure => simp [intOf]; omega
          · have e34 : ((c.toNat : Int) == 34) = false := by simp; omega
            have hc34 : c ≠ 34 := fun h => h34 (by rw [h]; rfl)
            cases b
            · by_cases h44 : c.toNat = 44
              · have n44 : ((c.toNat : Int) != 44) = false := by simp; omega
                have hc44 : c = 44 := UInt8.toNat_inj.mp h44
                have HPN := Lib.hid (partNext_comma (by rw [HC.out, hc44]) HK.out)
                have HT := Lib.hid (fun w => refTrimS_any ((strB l).extract y k) w (by rw [ByteArray.size_extract]; omega))
                have hseg : ((strB l).extract y k).data.toList = (l.drop y).take (k - y) := by rw [seg_list, strB_list]
                rw [hseg] at HT
                have htl : (trimB ((l.drop y).take (k - y))).length ≤ 500000 := Nat.le_trans (trimB_le _) (by simp; omega)
                unfold PartNext at HPN
                by_cases hp : trimB ((l.drop y).take (k - y)) = []
                · have HN := Lib.hid (HPN.out.2 acc (addT_nil acc hp))
                  rw [hp] at HT
                  have hE := empty_yes (l := []) rfl
                  have hE2 : (strB []).toList = [] := by rw [ByteArray.toList_eq]; rfl
                  clear hp hseg
                  go_wp2_with fail
                  refine (HT.out _).mono ?_
                  rintro e w' ⟨rfl, rfl⟩
                  go_wp2_with fail
                  go_roundw
                  case rel => exact ⟨acc, k + 1, k + 1, _, by go_num, by go_num, rfl, HO.out, HBR.out, by omega, Nat.le_refl _, HN.out⟩
                  case measure => simp [intOf]; omega
                · have hE := empty_no hp
                  have hE2 : (strB (trimB ((l.drop y).take (k - y)))).toList = trimB ((l.drop y).take (k - y)) := by rw [ByteArray.toList_eq, strB_list]
                  have HQR := Lib.hid (fun w => refRead_any (trimB ((l.drop y).take (k - y))) w (by omega))
                  cases hq : readTL (trimB ((l.drop y).take (k - y))) with
                  | none =>
                    rw [hq] at HQR
                    have HR := Lib.hid (HPN.out.1 (addT_none acc hp hq))
                    clear hq hseg
                    generalize trimB ((l.drop y).take (k - y)) = part at *
                    obtain ⟨d, z, rfl⟩ : ∃ d z, part = d :: z := by
                      cases part with
                      | nil => exact absurd rfl hp
                      | cons d z => exact ⟨d, z, rfl⟩
                    clear hp
                    unfold tgR at HQR
                    go_wp2_with fail
                    refine (HT.out _).mono ?_
                    rintro e w' ⟨rfl, rfl⟩
                    go_wp2_with fail
                    refine (HQR.out _).mono ?_
                    rintro e w2 ⟨rfl, hB2⟩
                    have HB2 := Lib.hid (HBR.out.trans (hB2.mono hbr))
                    clear hB2
                    go_wp2_with fail
                    exact bodyPost_ret (v := .tuple #[.slice none 0 0, .bool false, .bool false]) (by simp [results, Tryz.results20, go_sem]) rfl ⟨HB2.out.alloc HB2.out.size _, .inr (.inl ⟨HST.out, HR.out, _, rfl⟩)⟩
                  | some t =>
                    obtain ⟨tk, ta⟩ := t
                    rw [hq] at HQR
                    have HN := Lib.hid (HPN.out.2 (acc ++ [(tk, ta)]) (addT_some acc hp hq))
                    clear hq hseg
                    generalize trimB ((l.drop y).take (k - y)) = part at *
                    obtain ⟨d, z, rfl⟩ : ∃ d z, part = d :: z := by
                      cases part with
                      | nil => exact absurd rfl hp
                      | cons d z => exact ⟨d, z, rfl⟩
                    clear hp
                    unfold tgR at HQR
                    have hfl := flatT_len acc
                    go_wp2_with fail
                    refine (HT.out _).mono ?_
                    rintro e w' ⟨rfl, rfl⟩
                    go_wp2_with fail
                    refine (HQR.out _).mono ?_
                    rintro e w2 ⟨rfl, hB2⟩
                    have hb2 := hB2.size
                    have HB2 := Lib.hid hB2
                    obtain ⟨c0, c1, f0, f1, hN⟩ := twoT_new w2 tk ta 23
                    have hO4 := (HO.out.below hB2).below (below_new w2 (.cells #[.bool tk, .string (strB ta)] 23))
                    clear hB2
                    go_wp2_with (at_builtin; go_must (refine wpList_append_own _ rfl _ _ 45 rfl w.heap.size 23 i0 (.agg #[.bool false, .string ByteArray.empty]) 2 24 Tryz.underlying45 hi hz0 hz1 hz2 rfl (by decide) _ _ _ rfl (World.ownsRow.alloc hO4 _) ⟨w2.heap.size + 1, 0, none⟩ 1 1 [.bool tk, strV ta] rfl rfl (new_tg2 w2 _ tk ta _) (fun u hu => by simp at hu; rcases hu with rfl | rfl <;> rfl) (by unfold maxLen; omega) (by omega) (by simp; omega) ?_); intro v' w5 hown' hgrow _)
                    go_roundw
                    case rel => exact ⟨acc ++ [(tk, ta)], k + 1, k + 1, _, by go_num, by go_num, rfl, OwnsT.snoc hown', below_appendT HBR.out hbr (HB2.out.alloc hb2 _) HO.out hgrow, by simp; omega, Nat.le_refl _, HN.out⟩
                    case measure => simp [intOf]; omega
              · have n44 : ((c.toNat : Int) != 44) = true := by simp; omega
                have hc44 : c ≠ 44 := fun h => h44 (by rw [h]; rfl)
                have HN := Lib.hid (g_more hyk HC.out HK.out false (by rw [if_neg hc34]) (.inr hc44))
                clear HK
                go_wp2_with fail
                go_roundw
                case rel => exact ⟨acc, k + 1, y, _, by go_num, rfl, rfl, HO.out, HBR.out, by omega, by omega, .inl ⟨by omega, HN.out⟩⟩
                case measure => simp [intOf]; omega
            · have HN := Lib.hid (g_more hyk HC.out HK.out true (by rw [if_neg hc34]) (.inl rfl))
              clear HK
              go_wp2_with fail
              go_roundw
              case rel => exact ⟨acc, k + 1, y, _, by go_num, rfl, rfl, HO.out, HBR.out, by omega, by omega, .inl ⟨by omega, HN.out⟩⟩
              case measure => simp [intOf]; omega
        · have HKL := Lib.hid (show k = l.length by omega)
          have HPN := Lib.hid (partNext_end HKL.out HK.out)
          have HT := Lib.hid (fun w => refTrimS_any ((strB l).extract y k) w (by rw [ByteArray.size_extract]; omega))
          have hseg : ((strB l).extract y k).data.toList = (l.drop y).take (k - y) := by rw [seg_list, strB_list]
          rw [hseg] at HT
          have htl : (trimB ((l.drop y).take (k - y))).length ≤ 500000 := Nat.le_trans (trimB_le _) (by simp; omega)
          unfold PartNext at HPN
          by_cases hp : trimB ((l.drop y).take (k - y)) = []
          · have HN := Lib.hid (HPN.out.2 acc (addT_nil acc hp))
            rw [hp] at HT
            have hE := empty_yes (l := []) rfl
            have hE2 : (strB []).toList = [] := by rw [ByteArray.toList_eq]; rfl
            clear hp hseg
            go_wp2_with fail
            refine (HT.out _).mono ?_
            rintro e w' ⟨rfl, rfl⟩
            go_wp2_with fail
            go_roundw
            case rel => exact ⟨acc, k + 1, k + 1, _, by go_num, by go_num, rfl, HO.out, HBR.out, by omega, Nat.le_refl _, HN.out⟩
            case measure => simp [intOf]; omega
          · have hE := empty_no hp
            have hE2 : (strB (trimB ((l.drop y).take (k - y)))).toList = trimB ((l.drop y).take (k - y)) := by rw [ByteArray.toList_eq, strB_list]
            have HQR := Lib.hid (fun w => refRead_any (trimB ((l.drop y).take (k - y))) w (by omega))
            cases hq : readTL (trimB ((l.drop y).take (k - y))) with
            | none =>
              rw [hq] at HQR
              have HR := Lib.hid (HPN.out.1 (addT_none acc hp hq))
              clear hq hseg
              generalize trimB ((l.drop y).take (k - y)) = part at *
              obtain ⟨d, z, rfl⟩ : ∃ d z, part = d :: z := by
                cases part with
                | nil => exact absurd rfl hp
                | cons d z => exact ⟨d, z, rfl⟩
              clear hp
              unfold tgR at HQR
              go_wp2_with fail
              refine (HT.out _).mono ?_
              rintro e w' ⟨rfl, rfl⟩
              go_wp2_with fail
              refine (HQR.out _).mono ?_
              rintro e w2 ⟨rfl, hB2⟩
              have HB2 := Lib.hid (HBR.out.trans (hB2.mono hbr))
              clear hB2
              go_wp2_with fail
              exact bodyPost_ret (v := .tuple #[.slice none 0 0, .bool false, .bool false]) (by simp [results, Tryz.results20, go_sem]) rfl ⟨HB2.out.alloc HB2.out.size _, .inr (.inl ⟨HST.out, HR.out, _, rfl⟩)⟩
            | some t =>
              obtain ⟨tk, ta⟩ := t
              rw [hq] at HQR
              have HN := Lib.hid (HPN.out.2 (acc ++ [(tk, ta)]) (addT_some acc hp hq))
              clear hq hseg
              generalize trimB ((l.drop y).take (k - y)) = part at *
              obtain ⟨d, z, rfl⟩ : ∃ d z, part = d :: z := by
                cases part with
                | nil => exact absurd rfl hp
                | cons d z => exact ⟨d, z, rfl⟩
              clear hp
              unfold tgR at HQR
              have hfl := flatT_len acc
              go_wp2_with fail
              refine (HT.out _).mono ?_
              rintro e w' ⟨rfl, rfl⟩
              go_wp2_with fail
              refine (HQR.out _).mono ?_
              rintro e w2 ⟨rfl, hB2⟩
              have hb2 := hB2.size
              have HB2 := Lib.hid hB2
              obtain ⟨c0, c1, f0, f1, hN⟩ := twoT_new w2 tk ta 23
              have hO4 := (HO.out.below hB2).below (below_new w2 (.cells #[.bool tk, .string (strB ta)] 23))
              clear hB2
              go_wp2_with (at_builtin; go_must (refine wpList_append_own _ rfl _ _ 45 rfl w.heap.size 23 i0 (.agg #[.bool false, .string ByteArray.empty]) 2 24 Tryz.underlying45 hi hz0 hz1 hz2 rfl (by decide) _ _ _ rfl (World.ownsRow.alloc hO4 _) ⟨w2.heap.size + 1, 0, none⟩ 1 1 [.bool tk, strV ta] rfl rfl (new_tg2 w2 _ tk ta _) (fun u hu => by simp at hu; rcases hu with rfl | rfl <;> rfl) (by unfold maxLen; omega) (by omega) (by simp; omega) ?_); intro v' w5 hown' hgrow _)
              go_roundw
              case rel => exact ⟨acc ++ [(tk, ta)], k + 1, k + 1, _, by go_num, by go_num, rfl, OwnsT.snoc hown', below_appendT HBR.out hbr (HB2.out.alloc hb2 _) HO.out hgrow, by simp; omega, Nat.le_refl _, HN.out⟩
              case measure => simp [intOf]; omega
      · have HK := Lib.hid hK
        clear hK
        by_cases ha : acc = []
        · subst ha
          have HR := Lib.hid (show lstL l [] = none from HK.out.symm)
          obtain ⟨ao, cap, rfl, _⟩ := HO.out.reads
          go_wp2
          exact bodyPost_ret (v := .tuple #[.slice ao ([] : List Tg).length cap, .bool false, .bool false]) (by simp [results, Tryz.results20, go_sem]) rfl ⟨HBR.out, .inr (.inl ⟨HST.out, HR.out, _, rfl⟩)⟩
        · have HR := Lib.hid (show lstL l [] = some acc by rw [← HK.out]; unfold finT; rw [if_neg ha])
          have hpos : 0 < acc.length := List.length_pos_iff.mpr ha
          obtain ⟨ao, cap, rfl, _⟩ := HO.out.reads
          clear ha
          go_wp2
          exact bodyPost_ret (v := .tuple #[.slice ao acc.length cap, .bool false, .bool true]) (by simp [results, Tryz.results20, go_sem]) rfl ⟨HBR.out, .inr (.inr ⟨HST.out, _, acc, HR.out, rfl, HO.out, by omega⟩)⟩
end Go.Proofs.YtkpeaghbacoehaaGreatDoor
