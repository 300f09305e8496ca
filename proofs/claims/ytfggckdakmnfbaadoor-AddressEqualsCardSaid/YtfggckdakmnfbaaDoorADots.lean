/- What Segments, removeDots and canonicalPath return. -/
import Derived.Test.YtfggckdakmnfbaaDoorADotSpec
import Derived.Test.YtfggckdakmnfbaaDoorACanon
namespace Go.Proofs.YtfggckdakmnfbaaDoor
open Go.RowKit

set_option maxHeartbeats 2000000 in
set_option maxRecDepth 100000 in
theorem segments_any (s : ByteArray) (w : World) (hE : Env w) (hs : s.size ≤ 10000000) :
    Calls Tryd.prog 72 #[.string s] w fun e w' => ∃ v, e = .returned v ∧ OwnsS w.heap.size w' v (segL s.data.toList) ∧ Below w.heap.size w w' := by
  have HE := Lib.hid hE
  clear hE
  have hlen := (cutC_len 47 s.data.toList).2
  have hsz : s.data.toList.length = s.size := by rw [Array.length_toList]; rfl
  rw [hsz] at hlen
  clear hsz
  cases hf : (cutC 47 s.data.toList).2.2 with
  | false =>
    have HR := Lib.hid (show segL s.data.toList = [] by unfold segL; rw [hf]; rfl)
    have HC := Lib.hid (fun w hE => cut_any 47 s w hE (by omega))
    rw [hf] at HC
    clear hf
    go_enter Tryd.func72, Tryd.ntmps72
    go_wp2_with (go_at_call 33; refine (HC.out _ HE.out).mono ?_; rintro e w1 ⟨rfl, n, rfl⟩)
    go_ret
    exact ⟨_, rfl, by rw [HR.out]; exact World.ownsRow_nil _ _ _ _, below_drewN (Below.refl _ _) n⟩
  | true =>
    have HR := Lib.hid (show segL s.data.toList = cutL 47 (cutC 47 s.data.toList).2.1 by unfold segL; rw [hf]; rfl)
    have HC := Lib.hid (fun w hE => cut_any 47 s w hE (by omega))
    rw [hf] at HC
    have hl2 : (strB (cutC 47 s.data.toList).2.1).size ≤ 100000000 := by rw [strB_size]; omega
    clear hf hlen
    generalize (cutC 47 s.data.toList).2.1 = r at *
    generalize (cutC 47 s.data.toList).1 = b at *
    go_enter Tryd.func72, Tryd.ntmps72
    go_wp2_with (go_at_call 33; refine (HC.out _ HE.out).mono ?_; rintro e w1 ⟨rfl, n, rfl⟩)
    refine (split_any 47 (strB r) _ (HE.out.below (below_drewN (Below.refl _ _) n)) hl2).mono ?_
    rintro e w1 ⟨v, rfl, hv, hB⟩
    rw [strB_list] at hv
    go_wp2_with fail
    go_ret
    exact ⟨_, rfl, by rw [HR.out]; exact hv, (below_drewN (Below.refl _ _) n).trans hB⟩
theorem OwnsS.pop {B : Nat} {w : World} {g cap m : Nat} {ls : List (List UInt8)} (h : OwnsS B w (.slice (some ⟨g, 0, none⟩) (m + 1) cap) ls) (hl : ls.length = m + 1) : OwnsS B w (.slice (some ⟨g, 0, none⟩) m cap) ls.dropLast := by
  unfold OwnsS at *
  have hd : ls.dropLast.length = m := by rw [List.length_dropLast]; omega
  rw [hd]
  rcases h with ⟨h1, ⟨hv, hn⟩ | ⟨g', cap', cur, hv, hb, hg, hn, hm, hs, ht⟩⟩
  · omega
  · simp only [Value.slice.injEq, Option.some.injEq, Addr.mk.injEq, and_true] at hv
    obtain ⟨rfl, _, rfl⟩ := hv
    refine ⟨by rw [List.length_map, hd]; omega, .inr ⟨g, cap, cur, rfl, hb, hg, by omega, hm, hs, ?_⟩⟩
    have : cur.toList.take (m * 1) = (cur.toList.take (ls.length * 1)).take m := by rw [List.take_take, hl]; congr 1; omega
    rw [this, ht, List.map_dropLast, List.dropLast_eq_take, List.length_map, hl]
    simp only [Nat.add_sub_cancel, Nat.mul_one]
theorem OwnsS.capped {B : Nat} {w : World} {v : Value} {ls : List (List UInt8)} (hO : OwnsS B w v ls) (hne : ls ≠ []) :
    ∃ g cap, v = .slice (some ⟨g, 0, none⟩) ls.length cap ∧ ls.length ≤ cap ∧ g < w.heap.size ∧ (∀ j l, ls[j]? = some l → w.cell? ⟨g, j, none⟩ = some (.string (strB l))) := by
  rcases hO.open' with ⟨_, h⟩ | ⟨g, cap, hv, hb, hg, hc⟩
  · exact absurd h hne
  · refine ⟨g, cap, hv, ?_, hg, hc⟩
    rcases hO with ⟨hl, ⟨hv', hn⟩ | ⟨g', cap', cur, hv', hb', hg', hn, _⟩⟩
    · rw [hv'] at hv; cases hv
    · rw [hv'] at hv
      simp only [Value.slice.injEq, Option.some.injEq, Addr.mk.injEq, and_true, true_and] at hv
      obtain ⟨_, rfl⟩ := hv
      exact hn
def dotV (t : List UInt8) : Value := match dotsF (cutL 47 t) [] with
  | none => .tuple #[.string (strB []), errA 27]
  | some x => .tuple #[.string (strB (slashed x)), .nilIface]
theorem dotV_no {t : List UInt8} (h : dotsG (cutL 47 t) [] = none) : dotV t = .tuple #[.string (strB []), errA 27] := by
  unfold dotV; rw [dotsF_G _ _ (cutL_ne 47 t), h]; rfl
theorem dotV_yes {t : List UInt8} {x : List (List UInt8)} (h : dotsF (cutL 47 t) [] = some x) : dotV t = .tuple #[.string (strB (slashed x)), .nilIface] := by unfold dotV; rw [h]
theorem join47_any (v : Value) (ls : List (List UInt8)) (B : Nat) (w : World) (hO : OwnsS B w v ls) (hne : ls ≠ []) (hl : ls.length ≤ 1000000) (hb : ∀ l ∈ ls, l.length ≤ 1000000) :
    Calls Tryd.prog 74 #[v, .string ⟨#[47]⟩] w fun e w' => e = .returned (.string (strB (Lib.join ls [47]))) ∧ Below w.heap.size w w' := by
  have hcap := hO.capped hne
  obtain ⟨g, cap, rfl, hcap, hg, hc⟩ := hcap
  have hm : (ls.map strB).map (fun s : ByteArray => s.data.toList) = ls := by
    rw [List.map_map]
    conv => rhs; rw [← List.map_id ls]
    exact List.map_congr_left fun l _ => strB_list l
  have hgl := slashed_len ls 1000000 hb
  have hmul : ls.length * (1000000 + 1) ≤ 1000000 * (1000000 + 1) := Nat.mul_le_mul_right _ hl
  have hjl : (Lib.join ls [47]).length ≤ (slashed ls).length := by rw [← join_slashed hne]; simp
  have := Tryd.strings_Join g 0 cap (ls.map strB) ⟨#[47]⟩ w (fun j x hx => by
    rw [List.getElem?_map] at hx
    cases hj : ls[j]? with
    | none => rw [hj] at hx; cases hx
    | some l =>
      rw [hj] at hx
      simp only [Option.map_some, Option.some.injEq] at hx
      rw [Nat.zero_add, hc j l hj, hx]) hg (by simp; omega) (by simpa using hcap) (by
      rw [hm]; show (Lib.join ls [47]).length ≤ _; omega)
  rw [List.length_map] at this
  refine this.mono ?_
  rintro e w' ⟨rfl, hB⟩
  rw [hm]
  exact ⟨rfl, hB⟩
theorem join_size {ls : List (List UInt8)} (hne : ls ≠ []) (hl : ls.length ≤ 1000000) (hb : ∀ l ∈ ls, l.length ≤ 1000000) : (strB (Lib.join ls [47])).size ≤ 1000001000000 := by
  have hgl := slashed_len ls 1000000 hb
  have hmul : ls.length * (1000000 + 1) ≤ 1000000 * (1000000 + 1) := Nat.mul_le_mul_right _ hl
  have hjl : (Lib.join ls [47]).length ≤ (slashed ls).length := by rw [← join_slashed hne]; simp
  rw [strB_size]; omega
def DotRel (B : Nat) (l : List (List UInt8)) (w1 : World) (u i : Value) (wr : World) : Prop :=
  ∃ (k : Nat) (out : List (List UInt8)), i = .int .i64 k ∧ k ≤ l.length ∧ OwnsS B wr u out ∧ Below B w1 wr ∧ DotTo l k out
theorem dotRel0 (l : List (List UInt8)) (w1 : World) : DotRel w1.heap.size l w1 (.slice none 0 0) (.int .i64 0) w1 := ⟨0, [], rfl, Nat.zero_le _, World.ownsRow_nil _ _ _ _, Below.refl _ _, dotTo0 l⟩
theorem litEq {l x : List UInt8} (h : l = x) : ((strB l).toList == x) = true := by rw [ByteArray.toList_eq, strB_list, h]; exact beq_self_eq_true _
theorem litNe {l x : List UInt8} (h : l ≠ x) : ((strB l).toList == x) = false := by rw [ByteArray.toList_eq, strB_list]; simpa using h
theorem strB_pre (c : UInt8) (l : List UInt8) : (⟨#[c]⟩ : ByteArray) ++ strB l = strB (c :: l) := by apply ByteArray.ext; simp [strB]
theorem suffix_any (s : ByteArray) (x : List UInt8) (b : Bool) (w : World) (hs : s.size ≤ 9223372036854775807) (h : Lib.hasSuffix s.data.toList x = b) :
    Calls Tryd.prog 73 #[.string s, .string ⟨x.toArray⟩] w fun e w' => e = .returned (.bool b) ∧ w = w' := by
  refine (Tryd.strings_HasSuffix s ⟨x.toArray⟩ w hs).mono ?_
  rintro e w' ⟨rfl, rfl⟩
  exact ⟨by rw [← h], rfl⟩
theorem last_in {l : List (List UInt8)} {k : Nat} (h : k < l.length) : ∃ s, l[k]? = some s := ⟨l[k], by simp [h]⟩
set_option maxHeartbeats 8000000 in
set_option maxRecDepth 100000 in
theorem removeDots_any (s : ByteArray) (t : List UInt8) (w : World) (hE : Env w) (hs : s.size ≤ 100000) (hst : s.data.toList = 47 :: t) :
    Calls Tryd.prog 57 #[.string s] w fun e w' => e = .returned (dotV t) ∧ Below w.heap.size w w' := by
  obtain ⟨i0, hi, hz0, hz1, hz2⟩ := info_parts Tryd.infoS
  have HE := Lib.hid hE
  have hseg : segL s.data.toList = cutL 47 t := by rw [hst, segL_slash]
  have HS := Lib.hid hseg
  have hb1 := suffix_last t [46] (by decide)
  have hb2 := suffix_last t [46, 46] (by decide)
  rw [← hst] at hb1 hb2
  have HB1 := Lib.hid hb1
  have HB2 := Lib.hid hb2
  have hle := cutL_len 47 t
  have htl : t.length ≤ 100000 := by
    have : s.data.toList.length = s.size := by rw [Array.length_toList]; rfl
    rw [hst, List.length_cons] at this; omega
  have hle' : (cutL 47 t).length ≤ 100001 := by omega
  have HPL := Lib.hid (fun l hl => cutL_part_le 47 t l hl)
  clear hE hseg hb1 hb2 hle hst
  go_enter Tryd.func57, Tryd.ntmps57
  go_wp2_with fail
  refine (segments_any s _ HE.out (by omega)).mono ?_
  rintro e w1 ⟨v, rfl, hv, hB⟩
  rw [HS.out] at hv
  have hsz1 := hB.size
  rcases hv.open' with ⟨_, he⟩ | ⟨g, cap, rfl, hBg, hgs, hcells⟩
  · exact absurd he (cutL_ne 47 t)
  have HC := Lib.hid hcells
  have HNO := Lib.hid (fun h => dotV_no (t := t) h)
  have HF := Lib.hid (dotsF_G (cutL 47 t) [] (cutL_ne 47 t))
  clear hcells hv
  have hne : 0 < (cutL 47 t).length := List.length_pos_iff.mpr (cutL_ne 47 t)
  generalize hls : cutL 47 t = ls at *
  have HLS := Lib.hid hls
  clear hls
  go_wp2_with fail
  go_loopw [4, 10] (fun u i wr => DotRel w1.heap.size ls w1 u i wr) (fun _ i _ => ls.length - (intOf i).toNat)
  case atStart => exact dotRel0 ls w1
  case round =>
    obtain ⟨k, out, rfl, hk, hu, hBw, hD⟩ := hrel
    have hwz := hBw.size
    have hol := hD.2
    by_cases hlt : k < ls.length
    · obtain ⟨l, hl⟩ : ∃ l, ls[k]? = some l := ⟨ls[k], by simp [hlt]⟩
      have hcell : wr.cell? ⟨g, k, none⟩ = some (.string (strB l)) := (hBw.cell (p := ⟨g, k, none⟩) hgs).trans (HC.out k l hl)
      by_cases h1 : l = [46]
      · have HN := Lib.hid (dotTo_dot hD (by rw [← h1]; exact hl))
        have hq := litEq h1
        have HL := Lib.hid hl
        clear hl h1
        go_wp2
        go_roundw
        case rel => exact ⟨k + 1, out, by go_num, by omega, hu, hBw, HN.out⟩
        case measure => simp [intOf]; omega
      · by_cases h2 : l = [46, 46]
        · have hq1 := litNe h1
          have hq2 := litEq h2
          have HL := Lib.hid (show ls[k]? = some [46, 46] by rw [← h2]; exact hl)
          clear hl h1 h2
          by_cases ho : out = []
          · have HR := Lib.hid (dotTo_none hD HL.out ho)
            obtain ⟨ao, cc, rfl⟩ : ∃ ao cc, u4 = .slice ao 0 cc := by
              rcases hu.open' with ⟨h, _⟩ | ⟨g', cap', h, _⟩
              · exact ⟨_, _, h⟩
              · rw [ho] at h; exact ⟨_, _, h⟩
            clear ho
            go_wp2
            go_ret2
            exact ⟨by rw [HNO.out HR.out]; rfl, hB.trans (hBw.mono hsz1)⟩
          · have HN := Lib.hid (dotTo_back hD HL.out ho)
            obtain ⟨m, hm⟩ : ∃ m, out.length = m + 1 := ⟨out.length - 1, by have := List.length_pos_iff.mpr ho; omega⟩
            obtain ⟨g', cap', rfl, hcp, _⟩ := hu.capped ho
            rw [hm] at hu hcp
            have HU := Lib.hid (hu.pop hm)
            rw [hm] at hol ⊢
            have HM := Lib.hid hm
            clear hu hm ho
            go_wp2
            go_roundw
            case rel => exact ⟨k + 1, _, by go_num, by omega, HU.out, hBw, HN.out⟩
            case measure => simp [intOf]; omega
        · have hq1 := litNe h1
          have hq2 := litNe h2
          have HN := Lib.hid (dotTo_seg hD hl h1 h2)
          have HL := Lib.hid hl
          clear hl h1 h2
          go_wp2_with (at_builtin; refine wpList_append_own _ rfl _ _ 26 rfl w1.heap.size 9 i0 (.string ByteArray.empty) 1 16 Tryd.underlying26 hi hz0 hz1 hz2 rfl (by decide) _ _ _ rfl (World.ownsRow.alloc hu _) ⟨wr.heap.size, 0, none⟩ 1 1 [strV l] rfl rfl (cell_one_new _ _ _) (fun u hu => by simp at hu; subst hu; rfl) (by unfold maxLen; omega) (by omega) (by simp; omega) ?_; intro v' w2 hown' hgrow _)
          go_roundw
          case rel => exact ⟨k + 1, _, by go_num, by omega, OwnsS.snoc hown', below_append hBw hwz (Below.refl _ _) hu hgrow, HN.out⟩
          case measure => simp [intOf]; omega
    · have hG := dotTo_end hD (by omega)
      have hFx := HF.out
      rw [hG] at hFx
      have hlen := dotsF_len ls []
      have hall := dotsF_all (fun s => s.length ≤ 100000) (by decide) ls []
      have hmem : ∀ s ∈ ls, s.length ≤ 100000 := fun s hs' => by
        have := HPL.out s hs'
        omega
      by_cases h1 : lastS ls = [46]
      · have hx : dotsF ls [] = some (out ++ [[]]) := by rw [hFx, Option.map_some, if_pos (by rw [h1]; rfl)]
        have hne : out ++ [[]] ≠ [] := by simp
        have HR := Lib.hid (dotV_yes (t := t) (x := out ++ [[]]) (by rw [HLS.out]; exact hx))
        have HX := Lib.hid (hall _ (by simp) (fun s hs' _ => hmem s hs') hx)
        have hxl := hlen _ hx
        have hj := join_size hne (by simp at hxl ⊢; omega) (fun l hl => Nat.le_trans (HX.out l hl) (by omega))
        have hS := Lib.hid (fun w => suffix_any s [47, 46] true w (by omega) (by rw [HB1.out, h1]; decide))
        clear hFx hG hlen hall hx h1
        go_wp2_with (first
          | (go_at_call 73; refine (hS.out _).mono ?_; rintro e w' ⟨rfl, rfl⟩)
          | (at_builtin; refine wpList_append_own _ rfl _ _ 26 rfl w1.heap.size 9 i0 (.string ByteArray.empty) 1 16 Tryd.underlying26 hi hz0 hz1 hz2 rfl (by decide) _ _ _ rfl (World.ownsRow.alloc hu _) ⟨wr.heap.size, 0, none⟩ 1 1 [strV []] rfl rfl (cell_one_new _ _ _) (fun u hu => by simp at hu; subst hu; rfl) (by unfold maxLen; omega) (by omega) (by simp; omega) ?_; intro v' w2 hown' hgrow _; have hown2 := Lib.hid (OwnsS.snoc hown'); have hB2 := Lib.hid (below_append hBw hwz (Below.refl _ _) hu hgrow))
          | (go_at_call 74; refine (join47_any _ (out ++ [[]]) _ _ hown2.out hne (by simp at hxl ⊢; omega) (fun l hl => Nat.le_trans (HX.out l hl) (by omega))).mono ?_; rintro e w3 ⟨rfl, hB3⟩))
        go_ret2
        exact ⟨by rw [HR.out, ← join_slashed hne, strB_pre]; rfl, (hB.trans (hB2.out.mono hsz1)).trans (hB3.mono (by have := hB2.out.size; omega))⟩
      · by_cases h2 : lastS ls = [46, 46]
        · have hx : dotsF ls [] = some (out ++ [[]]) := by rw [hFx, Option.map_some, if_pos (by rw [h2]; rfl)]
          have hne : out ++ [[]] ≠ [] := by simp
          have HR := Lib.hid (dotV_yes (t := t) (x := out ++ [[]]) (by rw [HLS.out]; exact hx))
          have HX := Lib.hid (hall _ (by simp) (fun s hs' _ => hmem s hs') hx)
          have hxl := hlen _ hx
          have hj := join_size hne (by simp at hxl ⊢; omega) (fun l hl => Nat.le_trans (HX.out l hl) (by omega))
          have hS := Lib.hid (fun w => suffix_any s [47, 46] false w (by omega) (by rw [HB1.out, h2]; decide))
          have hS2 := Lib.hid (fun w => suffix_any s [47, 46, 46] true w (by omega) (by rw [HB2.out, h2]; decide))
          clear hFx hG hlen hall hx h1 h2
          go_wp2_with (first
            | (go_at_call 73; (first | (with_reducible refine (hS.out _).mono ?_) | (with_reducible refine (hS2.out _).mono ?_)); rintro e w' ⟨rfl, rfl⟩)
            | (at_builtin; refine wpList_append_own _ rfl _ _ 26 rfl w1.heap.size 9 i0 (.string ByteArray.empty) 1 16 Tryd.underlying26 hi hz0 hz1 hz2 rfl (by decide) _ _ _ rfl (World.ownsRow.alloc hu _) ⟨wr.heap.size, 0, none⟩ 1 1 [strV []] rfl rfl (cell_one_new _ _ _) (fun u hu => by simp at hu; subst hu; rfl) (by unfold maxLen; omega) (by omega) (by simp; omega) ?_; intro v' w2 hown' hgrow _; have hown2 := Lib.hid (OwnsS.snoc hown'); have hB2 := Lib.hid (below_append hBw hwz (Below.refl _ _) hu hgrow))
            | (go_at_call 74; refine (join47_any _ (out ++ [[]]) _ _ hown2.out hne (by simp at hxl ⊢; omega) (fun l hl => Nat.le_trans (HX.out l hl) (by omega))).mono ?_; rintro e w3 ⟨rfl, hB3⟩))
          go_ret2
          exact ⟨by rw [HR.out, ← join_slashed hne, strB_pre]; rfl, (hB.trans (hB2.out.mono hsz1)).trans (hB3.mono (by have := hB2.out.size; omega))⟩
        · have hx : dotsF ls [] = some out := by rw [hFx, Option.map_some, if_neg (by simp [dotB, h1, h2])]
          have hne : out ≠ [] := dotsF_ne ls [] out (Or.inl (by intro e; rw [e] at hne; exact absurd hne (by simp))) hx
          have HR := Lib.hid (dotV_yes (t := t) (x := out) (by rw [HLS.out]; exact hx))
          have HX := Lib.hid (hall _ (by simp) (fun s hs' _ => hmem s hs') hx)
          have hxl := hlen _ hx
          have hj := join_size hne (by simp at hxl ⊢; omega) (fun l hl => Nat.le_trans (HX.out l hl) (by omega))
          have hS := Lib.hid (fun w => suffix_any s [47, 46] false w (by omega) (by rw [HB1.out]; exact decide_eq_false h1))
          have hS2 := Lib.hid (fun w => suffix_any s [47, 46, 46] false w (by omega) (by rw [HB2.out]; exact decide_eq_false h2))
          clear hFx hG hlen hall hx h1 h2
          go_wp2_with (first
            | (go_at_call 73; (first | (with_reducible refine (hS.out _).mono ?_) | (with_reducible refine (hS2.out _).mono ?_)); rintro e w' ⟨rfl, rfl⟩)
            | (go_at_call 74; refine (join47_any _ out _ _ hu hne (by simp at hxl ⊢; omega) (fun l hl => Nat.le_trans (HX.out l hl) (by omega))).mono ?_; rintro e w3 ⟨rfl, hB3⟩))
          go_ret2
          exact ⟨by rw [HR.out, ← join_slashed hne, strB_pre]; rfl, (hB.trans (hBw.mono hsz1)).trans (hB3.mono (by omega))⟩
end Go.Proofs.YtfggckdakmnfbaaDoor
