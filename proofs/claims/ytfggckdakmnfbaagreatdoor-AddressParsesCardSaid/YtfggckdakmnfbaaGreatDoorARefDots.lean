/- What the reference's dots returns. -/
import Derived.Test.YtfggckdakmnfbaaGreatDoorADots
import Derived.Test.YtfggckdakmnfbaaGreatDoorARefCut
namespace Go.Proofs.YtfggckdakmnfbaaGreatDoor
open Go.RowKit

def refDotV (t : List UInt8) : Value := match dotsF (cutL 47 t) [] with
  | none => .tuple #[.string (strB []), .bool false]
  | some x => .tuple #[.string (strB (slashed x)), .bool true]
theorem refDotV_no {t : List UInt8} (h : dotsF (cutL 47 t) [] = none) : refDotV t = .tuple #[.string (strB []), .bool false] := by unfold refDotV; rw [h]
theorem refDotV_yes {t : List UInt8} {x : List (List UInt8)} (h : dotsF (cutL 47 t) [] = some x) : refDotV t = .tuple #[.string (strB (slashed x)), .bool true] := by unfold refDotV; rw [h]
def Dot2 (l : List (List UInt8)) (k : Nat) (out : List (List UInt8)) : Prop := dotsF l [] = dotsF (l.drop k) out ∧ out.length ≤ k + 1
theorem dot20 (l : List (List UInt8)) : Dot2 l 0 [] := ⟨rfl, Nat.zero_le _⟩
theorem last_nil {l : List (List UInt8)} {k : Nat} (h : k + 1 = l.length) : l.drop (k + 1) = [] := List.drop_eq_nil_of_le (by omega)
theorem last_no {l : List (List UInt8)} {k : Nat} (h : k + 1 < l.length) : l.drop (k + 1) ≠ [] := by
  intro e; have := congrArg List.length e; rw [List.length_drop] at this; simp at this; omega
theorem dot2_dot {l out : List (List UInt8)} {k : Nat} (h : Dot2 l k out) (hs : l[k]? = some [46]) (hk : k + 1 < l.length) : Dot2 l (k + 1) out := by
  obtain ⟨h1, h2⟩ := h
  exact ⟨by rw [h1, dropL hs, dotsF, if_pos rfl, if_neg (last_no hk)], by omega⟩
theorem dot2_dotL {l out : List (List UInt8)} {k : Nat} (h : Dot2 l k out) (hs : l[k]? = some [46]) (hk : k + 1 = l.length) : Dot2 l (k + 1) (out ++ [[]]) := by
  obtain ⟨h1, h2⟩ := h
  exact ⟨by rw [h1, dropL hs, dotsF, if_pos rfl, if_pos (last_nil hk)], by simp; omega⟩
theorem dot2_back {l out : List (List UInt8)} {k : Nat} (h : Dot2 l k out) (hs : l[k]? = some [46, 46]) (ho : out ≠ []) (hk : k + 1 < l.length) : Dot2 l (k + 1) out.dropLast := by
  obtain ⟨h1, h2⟩ := h
  exact ⟨by rw [h1, dropL hs, dotsF, if_neg (by decide), if_pos rfl, if_neg ho, if_neg (last_no hk)], by rw [List.length_dropLast]; omega⟩
theorem dot2_backL {l out : List (List UInt8)} {k : Nat} (h : Dot2 l k out) (hs : l[k]? = some [46, 46]) (ho : out ≠ []) (hk : k + 1 = l.length) : Dot2 l (k + 1) (out.dropLast ++ [[]]) := by
  obtain ⟨h1, h2⟩ := h
  exact ⟨by rw [h1, dropL hs, dotsF, if_neg (by decide), if_pos rfl, if_neg ho, if_pos (last_nil hk)], by simp; omega⟩
theorem dot2_none {l out : List (List UInt8)} {k : Nat} (h : Dot2 l k out) (hs : l[k]? = some [46, 46]) (ho : out = []) : dotsF l [] = none := by
  rw [h.1, dropL hs, dotsF, if_neg (by decide), if_pos rfl, if_pos ho]
theorem dot2_seg {l out : List (List UInt8)} {k : Nat} {s : List UInt8} (h : Dot2 l k out) (hs : l[k]? = some s) (h1 : s ≠ [46]) (h2 : s ≠ [46, 46]) : Dot2 l (k + 1) (out ++ [s]) := by
  obtain ⟨h3, h4⟩ := h
  exact ⟨by rw [h3, dropL hs, dotsF, if_neg h1, if_neg h2], by simp; omega⟩
theorem dot2_end {l out : List (List UInt8)} {k : Nat} (h : Dot2 l k out) (hk : l.length ≤ k) : dotsF l [] = some out := by
  rw [h.1, List.drop_eq_nil_of_le hk]; rfl
def RDotRel (B : Nat) (l : List (List UInt8)) (w1 : World) (u i : Value) (wr : World) : Prop :=
  ∃ (k : Nat) (out : List (List UInt8)), i = .int .i64 k ∧ k ≤ l.length ∧ OwnsS B wr u out ∧ Below B w1 wr ∧ Dot2 l k out
theorem rdotRel0 (l : List (List UInt8)) (w1 : World) : RDotRel w1.heap.size l w1 (.slice none 0 0) (.int .i64 0) w1 := ⟨0, [], rfl, Nat.zero_le _, World.ownsRow_nil _ _ _ _, Below.refl _ _, dot20 l⟩
/-- The pieces of a text so far. -/
def JoinTo (ls : List (List UInt8)) (k : Nat) (t : ByteArray) : Prop := t = strB (slashed (ls.take k))
theorem joinTo0 (ls : List (List UInt8)) : JoinTo ls 0 ⟨#[]⟩ := rfl
theorem joinTo_step {ls : List (List UInt8)} {k : Nat} {t : ByteArray} {l : List UInt8} (h : JoinTo ls k t) (hl : ls[k]? = some l) : JoinTo ls (k + 1) (t ++ ((⟨#[47]⟩ : ByteArray) ++ strB l)) := by
  unfold JoinTo at *
  have e : (⟨#[47]⟩ : ByteArray) ++ strB l = strB (47 :: l) := by apply ByteArray.ext; simp [strB]
  rw [h, e, strB_app, strB_list, List.take_add_one, hl, slashed_app]; simp [slashed]
theorem joinTo_end {ls : List (List UInt8)} {k : Nat} {t : ByteArray} (h : JoinTo ls k t) (hk : ls.length ≤ k) : t = strB (slashed ls) := by
  unfold JoinTo at h; rw [List.take_of_length_le hk] at h; exact h
theorem joinTo_size {ls : List (List UInt8)} {k : Nat} {t : ByteArray} (h : JoinTo ls k t) (hb : ∀ l ∈ ls, l.length ≤ 100000) (hk : k ≤ 200000) : t.size ≤ 20000200000 := by
  unfold JoinTo at h
  rw [h, strB_size]
  have h1 := slashed_len (ls.take k) 100000 (fun l hl => hb l (List.mem_of_mem_take hl))
  have h2 : (ls.take k).length ≤ 200000 := by rw [List.length_take]; omega
  have h3 : (ls.take k).length * (100000 + 1) ≤ 200000 * (100000 + 1) := Nat.mul_le_mul_right _ h2
  omega
theorem tail_extract (s : ByteArray) (t : List UInt8) (hst : s.data.toList = 47 :: t) : (s.extract 1 s.size).data.toList = t ∧ 1 ≤ s.size ∧ t.length + 1 = s.size := by
  have hl : s.data.toList.length = s.size := by rw [Array.length_toList]; rfl
  rw [hst, List.length_cons] at hl
  refine ⟨?_, by omega, hl⟩
  rw [seg_list, hst, List.drop_succ_cons, List.drop_zero, List.take_of_length_le (by omega)]
set_option maxHeartbeats 2000000 in
set_option maxRecDepth 100000 in
theorem refDots_any (s : ByteArray) (t : List UInt8) (w : World) (hs : s.size ≤ 100000) (hst : s.data.toList = 47 :: t) :
    Calls Tryz.prog 18 #[.string s] w fun e w' => e = .returned (refDotV t) ∧ Below w.heap.size w w' := by
  obtain ⟨i0, hi, hz0, hz1, hz2⟩ := info_parts Tryz.infoS
  obtain ⟨hx, hx1, hx2⟩ := tail_extract s t hst
  have hle := cutL_len 47 t
  have hle' : (cutL 47 t).length ≤ 100001 := by omega
  have HPL := Lib.hid (fun l hl => cutL_part_le 47 t l hl)
  have htl : t.length ≤ 100000 := by omega
  have HXT := Lib.hid hx
  have hxs : (s.extract 1 s.size).size ≤ 10000000 := by rw [ByteArray.size_extract]; omega
  clear hle hst hx
  go_enter Tryz.func18, Tryz.ntmps18
  go_wp2_with fail
  refine (refCut_any 47 (s.extract 1 s.size) _ hxs).mono ?_
  rintro e w1 ⟨v, rfl, hv, hB⟩
  rw [HXT.out] at hv
  have hsz1 := hB.size
  rcases hv.open' with ⟨_, he⟩ | ⟨g, cap, rfl, hBg, hgs, hcells⟩
  · exact absurd he (cutL_ne 47 t)
  have HC := Lib.hid hcells
  have HNO := Lib.hid (fun h => refDotV_no (t := t) h)
  have HYES := Lib.hid (fun x h => refDotV_yes (t := t) (x := x) h)
  have hne : 0 < (cutL 47 t).length := List.length_pos_iff.mpr (cutL_ne 47 t)
  clear hcells hv hxs
  generalize hls : cutL 47 t = ls at *
  clear hls
  go_wp2_with fail
  go_loopw [5, 14] (fun u i wr => RDotRel w1.heap.size ls w1 u i wr) (fun _ i _ => ls.length - (intOf i).toNat)
  case atStart => exact rdotRel0 ls w1
  case round =>
    obtain ⟨k, out, rfl, hk, hu, hBw, hD⟩ := hrel
    have hwz := hBw.size
    have hol := hD.2
    by_cases hlt : k < ls.length
    · obtain ⟨l, hl⟩ : ∃ l, ls[k]? = some l := ⟨ls[k], by simp [hlt]⟩
      have hcell : wr.cell? ⟨g, k, none⟩ = some (.string (strB l)) := (hBw.cell (p := ⟨g, k, none⟩) hgs).trans (HC.out k l hl)
      by_cases h1 : l = [46]
      · have hq := litEq h1
        have HL := Lib.hid (show ls[k]? = some [46] by rw [← h1]; exact hl)
        clear hl h1
        by_cases hlast : k + 1 = ls.length
        · have hla : ((k : Int) == (ls.length : Int) - 1) = true := by simp; omega
          have HN := Lib.hid (dot2_dotL hD HL.out hlast)
          clear hlast
          go_wp2_with (at_builtin; refine wpList_append_own _ rfl _ _ 49 rfl w1.heap.size 9 i0 (.string ByteArray.empty) 1 16 Tryz.underlying49 hi hz0 hz1 hz2 rfl (by decide) _ _ _ rfl (World.ownsRow.alloc hu _) ⟨wr.heap.size, 0, none⟩ 1 1 [strV []] rfl rfl (cell_one_new _ _ _) (fun u hu => by simp at hu; subst hu; rfl) (by unfold maxLen; omega) (by omega) (by simp; omega) ?_; intro v' w2 hown' hgrow _)
          go_roundw
          case rel => exact ⟨k + 1, _, by go_num, by omega, OwnsS.snoc hown', below_append hBw hwz (Below.refl _ _) hu hgrow, HN.out⟩
          case measure => simp [intOf]; omega
        · have hla : ((k : Int) == (ls.length : Int) - 1) = false := by simp; omega
          have HN := Lib.hid (dot2_dot hD HL.out (by omega))
          clear hlast
          go_wp2
          go_roundw
          case rel => exact ⟨k + 1, out, by go_num, by omega, hu, hBw, HN.out⟩
          case measure => simp [intOf]; omega
      · by_cases h2 : l = [46, 46]
        · have hq1 := litNe h1
          have hq2 := litEq h2
          have HL := Lib.hid (show ls[k]? = some [46, 46] by rw [← h2]; exact hl)
          clear hl h1 h2
          by_cases ho : out = []
          · have HR := Lib.hid (dot2_none hD HL.out ho)
            obtain ⟨ao, cc, rfl⟩ : ∃ ao cc, u5 = .slice ao 0 cc := by
              rcases hu.open' with ⟨h, _⟩ | ⟨g', cap', h, _⟩
              · exact ⟨_, _, h⟩
              · rw [ho] at h; exact ⟨_, _, h⟩
            clear ho
            go_wp2
            go_ret2
            exact ⟨by rw [HNO.out HR.out]; rfl, hB.trans (hBw.mono hsz1)⟩
          · obtain ⟨m, hm⟩ : ∃ m, out.length = m + 1 := ⟨out.length - 1, by have := List.length_pos_iff.mpr ho; omega⟩
            obtain ⟨g', cap', rfl, hcp, _⟩ := hu.capped ho
            have hdl : out.dropLast.length = m := by rw [List.length_dropLast]; omega
            rw [hm] at hu hcp
            have hu2 := hu.pop hm
            have HD := Lib.hid hD
            have HO := Lib.hid ho
            rw [hm] at hol ⊢
            clear hD ho hu hm
            by_cases hlast : k + 1 = ls.length
            · have hla : ((k : Int) == (ls.length : Int) - 1) = true := by simp; omega
              have HN := Lib.hid (dot2_backL HD.out HL.out HO.out hlast)
              clear hlast
              go_wp2_with (at_builtin; refine wpList_append_own _ rfl _ _ 49 rfl w1.heap.size 9 i0 (.string ByteArray.empty) 1 16 Tryz.underlying49 hi hz0 hz1 hz2 rfl (by decide) _ _ _ rfl (World.ownsRow.alloc hu2 _) ⟨wr.heap.size, 0, none⟩ 1 1 [strV []] rfl rfl (cell_one_new _ _ _) (fun u hu => by simp at hu; subst hu; rfl) (by unfold maxLen; omega) (by omega) (by simp; omega) ?_; intro v' w2 hown' hgrow _)
              go_roundw
              case rel => exact ⟨k + 1, _, by go_num, by omega, OwnsS.snoc hown', below_append hBw hwz (Below.refl _ _) hu2 hgrow, HN.out⟩
              case measure => simp [intOf]; omega
            · have hla : ((k : Int) == (ls.length : Int) - 1) = false := by simp; omega
              have HN := Lib.hid (dot2_back HD.out HL.out HO.out (by omega))
              have HU := Lib.hid hu2
              clear hlast hu2
              go_wp2
              go_roundw
              case rel => exact ⟨k + 1, _, by go_num, by omega, HU.out, hBw, HN.out⟩
              case measure => simp [intOf]; omega
        · have hq1 := litNe h1
          have hq2 := litNe h2
          have HN := Lib.hid (dot2_seg hD hl h1 h2)
          have HL := Lib.hid hl
          clear hl h1 h2
          go_wp2_with (at_builtin; refine wpList_append_own _ rfl _ _ 49 rfl w1.heap.size 9 i0 (.string ByteArray.empty) 1 16 Tryz.underlying49 hi hz0 hz1 hz2 rfl (by decide) _ _ _ rfl (World.ownsRow.alloc hu _) ⟨wr.heap.size, 0, none⟩ 1 1 [strV l] rfl rfl (cell_one_new _ _ _) (fun u hu => by simp at hu; subst hu; rfl) (by unfold maxLen; omega) (by omega) (by simp; omega) ?_; intro v' w2 hown' hgrow _)
          go_roundw
          case rel => exact ⟨k + 1, _, by go_num, by omega, OwnsS.snoc hown', below_append hBw hwz (Below.refl _ _) hu hgrow, HN.out⟩
          case measure => simp [intOf]; omega
    · have hx := dot2_end hD (by omega)
      have hall := dotsF_all (fun s => s.length ≤ 100000) (by decide) ls [] _ (by simp) (fun s hs' _ => by have := HPL.out s hs'; omega) hx
      have HALL := Lib.hid hall
      have HR := Lib.hid (HYES.out out hx)
      have hol2 : out.length ≤ 100002 := by omega
      have hBx := hB.trans (hBw.mono hsz1)
      obtain ⟨ao, cc, rfl, hcs⟩ := hu.reads
      have HCS := Lib.hid hcs
      clear hx hall hcs hu hD
      go_wp2
      go_loopw [7, 51] (fun u i wx => ∃ (j : Nat) (tx : ByteArray), u = .string tx ∧ i = .int .i64 j ∧ j ≤ out.length ∧ JoinTo out j tx ∧ wx = wr) (fun _ i _ => out.length - (intOf i).toNat)
      case atStart => exact ⟨0, _, rfl, rfl, Nat.zero_le _, joinTo0 out, rfl⟩
      case round =>
        obtain ⟨j, tx, rfl, rfl, hj, hJ, rfl⟩ := hrel
        have htx := joinTo_size hJ HALL.out (by omega)
        by_cases hjt : j < out.length
        · obtain ⟨l, hl⟩ : ∃ l, out[j]? = some l := ⟨out[j], by simp [hjt]⟩
          obtain ⟨g2, off, rfl, hg2, hc2⟩ := HCS.out j l hl
          have hls : (strB l).size ≤ 100000 := by rw [strB_size]; exact HALL.out l (List.mem_of_getElem? hl)
          have HN := Lib.hid (joinTo_step hJ hl)
          clear hl hJ
          go_wp2
          go_roundw
          case rel => exact ⟨j + 1, _, rfl, by go_num, by omega, HN.out, by first | rfl | trivial⟩
          case measure => simp [intOf]; omega
        · have HT := Lib.hid (joinTo_end hJ (by omega))
          clear hJ
          go_wp2
          go_ret2
          exact ⟨by rw [HR.out, ← HT.out]; rfl, hBx⟩
end Go.Proofs.YtfggckdakmnfbaaGreatDoor
