/- What the reference's alnum, Cut and Host return. -/
import Derived.Test.YtfggckdakmnfbaaGreatDoorAHost
namespace Go.Proofs.YtfggckdakmnfbaaGreatDoor
open Go.RowKit

set_option maxHeartbeats 400000 in
theorem refAlnum_any (c : UInt8) (w : World) :
    Calls Tryz.prog 33 #[.int .u8 (c.toNat : Int)] w fun e w' => e = .returned (.bool (alnB c)) ∧ w = w' := by
  go_enter Tryz.func33, Tryz.ntmps33
  go_wp2
  all_goals
    go_ret
    refine ⟨ret_bool ?_, rfl⟩
    rw [Bool.eq_iff_iff]
    simp [alnB] at *
    try omega
/-- k bytes are read; the parts so far are out; the next part begins at x. -/
def CutTo (c : UInt8) (s : ByteArray) (x k : Nat) (out : List (List UInt8)) : Prop :=
  cutL c s.data.toList = out ++ cutL c (s.data.toList.drop x) ∧ c ∉ (s.data.toList.drop x).take (k - x) ∧ x ≤ k ∧ k ≤ s.size ∧ out.length ≤ k
theorem cutTo0 (c : UInt8) (s : ByteArray) : CutTo c s 0 0 [] := by
  refine ⟨?_, ?_, Nat.le_refl _, Nat.zero_le _, Nat.le_refl _⟩
  · rw [List.drop_zero]; rfl
  · rw [Nat.sub_zero, List.take_zero]; simp
theorem take_drop_snoc (s : ByteArray) (x k : Nat) (hx : x ≤ k) (hk : k < s.size) : (s.data.toList.drop x).take (k + 1 - x) = (s.data.toList.drop x).take (k - x) ++ [s[k]] := by
  rw [show k + 1 - x = (k - x) + 1 by omega, List.take_succ_eq_append_getElem (by rw [List.length_drop, Array.length_toList]; show k - x < s.size - x; omega)]
  rw [List.getElem_drop]
  congr 2
  simp only [show x + (k - x) = k by omega]; rfl
theorem cutTo_other {c : UInt8} {s : ByteArray} {x k : Nat} {out : List (List UInt8)} (h : CutTo c s x k out) (hk : k < s.size) (hc : s[k].toNat ≠ c.toNat) : CutTo c s x (k + 1) out := by
  obtain ⟨h1, h2, h3, h4, h5⟩ := h
  refine ⟨h1, ?_, by omega, by omega, by omega⟩
  rw [take_drop_snoc s x k h3 hk, List.mem_append, not_or]
  exact ⟨h2, by simp; intro e; exact hc (by rw [e])⟩
theorem cutTo_sep {c : UInt8} {s : ByteArray} {x k : Nat} {out : List (List UInt8)} (h : CutTo c s x k out) (hk : k < s.size) (hc : s[k].toNat = c.toNat) : CutTo c s (k + 1) (k + 1) (out ++ [(s.data.toList.drop x).take (k - x)]) := by
  obtain ⟨h1, h2, h3, h4, h5⟩ := h
  have e : s[k] = c := nat_of_u8 hc
  refine ⟨?_, by simp, Nat.le_refl _, by omega, by simp; omega⟩
  have hd : s.data.toList.drop x = (s.data.toList.drop x).take (k - x) ++ c :: s.data.toList.drop (k + 1) := by
    have h6 := List.take_append_drop (k - x) (s.data.toList.drop x)
    rw [List.drop_drop, show x + (k - x) = k by omega] at h6
    have h7 : s.data.toList.drop k = s[k] :: s.data.toList.drop (k + 1) := by
      rw [List.drop_eq_getElem_cons (by simpa using hk)]; rfl
    rw [h7, e] at h6
    exact h6.symm
  rw [h1, hd, cutL_app, cutL_none h2, ← hd]; simp
theorem cutTo_end {c : UInt8} {s : ByteArray} {x k : Nat} {out : List (List UInt8)} (h : CutTo c s x k out) (hk : s.size ≤ k) : cutL c s.data.toList = out ++ [s.data.toList.drop x] := by
  obtain ⟨h1, h2, h3, h4, h5⟩ := h
  rw [List.take_of_length_le (by rw [List.length_drop, Array.length_toList]; show s.size - x ≤ k - x; omega)] at h2
  rw [h1, cutL_none h2]
def CutRel (c : UInt8) (s : ByteArray) (w : World) (u f i : Value) (wr : World) : Prop :=
  ∃ (x k : Nat) (out : List (List UInt8)), f = .int .i64 x ∧ i = .int .i64 k ∧ CutTo c s x k out ∧ OwnsS w.heap.size wr u out ∧ Below w.heap.size w wr
theorem cutRel0 (c : UInt8) (s : ByteArray) (w : World) : CutRel c s w (.slice none 0 0) (.int .i64 0) (.int .i64 0) w :=
  ⟨0, 0, [], rfl, rfl, cutTo0 c s, World.ownsRow_nil _ _ _ _, Below.refl _ _⟩
theorem strV_seg (s : ByteArray) (x k : Nat) : Value.string (s.extract x k) = strV ((s.data.toList.drop x).take (k - x)) := by
  show _ = Value.string (strB _); rw [← seg_list, strB_of]
set_option maxHeartbeats 4000000 in
set_option maxRecDepth 100000 in
theorem refCut_any (c : UInt8) (s : ByteArray) (w : World) (hs : s.size ≤ 10000000) :
    Calls Tryz.prog 32 #[.string s, .int .u8 (c.toNat : Int)] w fun e w' => ∃ v, e = .returned v ∧ OwnsS w.heap.size w' v (cutL c s.data.toList) ∧ Below w.heap.size w w' := by
  obtain ⟨i0, hi, hz0, hz1, hz2⟩ := info_parts Tryz.infoS
  go_enter Tryz.func32, Tryz.ntmps32
  go_wp2
  go_loopw [5, 6, 10] (fun u f i wr => CutRel c s w u f i wr) (fun _ _ i _ => s.size - (intOf i).toNat)
  case atStart => exact cutRel0 c s w
  case round =>
    obtain ⟨x, k, out, rfl, rfl, hC, hu, hB⟩ := hrel
    have hsz := hB.size
    have HC := Lib.hid hC
    obtain ⟨_, _, hxk, hks, hol⟩ := HC.out
    clear hC
    by_cases hlt : k < s.size
    · by_cases hc : s[k].toNat = c.toNat
      · have hca : ((s[k].toNat : Int) == (c.toNat : Int)) = true := by rw [hc]; exact beq_self_eq_true _
        have HN := Lib.hid (cutTo_sep HC.out hlt hc)
        have hseg := strV_seg s x k
        have HS := Lib.hid hseg
        clear hc hseg
        go_wp2_with (at_builtin; refine wpList_append_own _ rfl _ _ 49 rfl w.heap.size 9 i0 (.string ByteArray.empty) 1 16 Tryz.underlying49 hi hz0 hz1 hz2 rfl (by decide) _ _ _ rfl (World.ownsRow.alloc hu _) ⟨wr.heap.size, 0, none⟩ 1 1 [.string (s.extract x k)] rfl rfl (cell_one_new _ _ _) (fun u hu => by simp at hu; subst hu; rfl) (by unfold maxLen; omega) (by omega) (by simp; omega) ?_; intro v' w2 hown' hgrow _)
        go_roundw
        case rel => exact ⟨k + 1, k + 1, _, by go_num, by go_num, HN.out, by rw [HS.out] at hown'; exact OwnsS.snoc hown', below_append hB hsz (Below.refl _ _) hu hgrow⟩
        case measure => simp [intOf]; omega
      · have hca : ((s[k].toNat : Int) == (c.toNat : Int)) = false := by simp; omega
        have HN := Lib.hid (cutTo_other HC.out hlt hc)
        clear hc
        go_wp2
        go_roundw
        case rel => exact ⟨x, k + 1, out, rfl, by go_num, HN.out, hu, hB⟩
        case measure => simp [intOf]; omega
    · have HE := Lib.hid (cutTo_end HC.out (by omega))
      have hseg : Value.string (s.extract x s.size) = strV (s.data.toList.drop x) := by
        rw [strV_seg, List.take_of_length_le (by rw [List.length_drop, Array.length_toList]; exact Nat.le_refl _)]
      have HS := Lib.hid hseg
      clear hseg
      go_wp2_with (at_builtin; refine wpList_append_own _ rfl _ _ 49 rfl w.heap.size 9 i0 (.string ByteArray.empty) 1 16 Tryz.underlying49 hi hz0 hz1 hz2 rfl (by decide) _ _ _ rfl (World.ownsRow.alloc hu _) ⟨wr.heap.size, 0, none⟩ 1 1 [.string (s.extract x s.size)] rfl rfl (cell_one_new _ _ _) (fun u hu => by simp at hu; subst hu; rfl) (by unfold maxLen; omega) (by omega) (by simp; omega) ?_; intro v' w2 hown' hgrow _)
      go_ret
      exact ⟨_, rfl, by rw [HE.out]; rw [HS.out] at hown'; exact OwnsS.snoc hown', below_append hB hsz (Below.refl _ _) hu hgrow⟩
def refHostV (l : List UInt8) : Value := match hostO l with
  | none => .tuple #[.string (strB []), .bool false]
  | some h => .tuple #[.string (strB h), .bool true]
theorem refHostV_no {l : List UInt8} (h : hostO l = none) : refHostV l = .tuple #[.string (strB []), .bool false] := by unfold refHostV; rw [h]
theorem refHostV_yes {l h : List UInt8} (e : hostO l = some h) : refHostV l = .tuple #[.string (strB h), .bool true] := by unfold refHostV; rw [e]
set_option maxHeartbeats 8000000 in
set_option maxRecDepth 100000 in
theorem refHost_any (s : ByteArray) (w : World) (hs : s.size ≤ 1000000) :
    Calls Tryz.prog 16 #[.string s] w fun e w' => e = .returned (refHostV s.data.toList) ∧ Below w.heap.size w w' := by
  have hsz : s.data.toList.length = s.size := by rw [Array.length_toList]; rfl
  have HSZ := Lib.hid hsz
  clear hsz
  go_enter Tryz.func16, Tryz.ntmps16
  go_wp2_with fail
  refine (refCut_any 46 s _ (by omega)).mono ?_
  rintro e w1 ⟨v, rfl, hv, hB⟩
  have hle := cutL_len 46 s.data.toList
  have hle' : (cutL 46 s.data.toList).length ≤ 1000001 := by rw [HSZ.out] at hle; omega
  clear hle
  rcases hv.open' with ⟨rfl, he⟩ | ⟨g, cap, rfl, hBg, hgs, hcells⟩
  · exact absurd he (cutL_ne 46 _)
  have HPL := Lib.hid (fun l hl => cutL_part_le 46 s.data.toList l hl)
  generalize hls : cutL 46 s.data.toList = ls at *
  have HLS := Lib.hid hls
  have HC := Lib.hid hcells
  clear hls hcells hv
  go_wp2_with fail
  go_loop [12] (fun i => ∃ k : Nat, k ≤ ls.length ∧ i = .int .i64 k ∧ lblTo ls k) (fun i => ls.length - (intOf i).toNat)
  case atStart => exact ⟨0, by omega, rfl, by simp [lblTo]⟩
  case round =>
    obtain ⟨k, hk, rfl, hn⟩ := hrel
    by_cases hlt : k < ls.length
    · obtain ⟨t, ht⟩ : ∃ t : ByteArray, ls[k]? = some t.data.toList := by
        obtain ⟨l, hl⟩ : ∃ l, ls[k]? = some l := ⟨ls[k], by simp [hlt]⟩
        exact ⟨strB l, by rw [strB_list]; exact hl⟩
      have hcell : w1.cell? ⟨g, k, none⟩ = some (.string t) := by
        have := HC.out k _ ht; rw [strB_of] at this; exact this
      have hll : t.size ≤ 1000000 := by
        have := HPL.out _ (List.mem_of_getElem? ht)
        rw [HSZ.out, Array.length_toList] at this
        have h' : t.size ≤ s.size := this
        omega
      have HT := Lib.hid ht
      clear ht
      have HBAD := Lib.hid (fun (h : lblB t.data.toList = false) => refHostV_no (l := s.data.toList) (hostO_bad (s := t.data.toList) (by rw [HLS.out]; exact List.mem_of_getElem? HT.out) h))
      by_cases hz : t.size = 0
      · have HR := Lib.hid (HBAD.out (lbl_nil hz))
        have hz1 : t.size < 1 := by omega
        clear hz
        go_wp2
        go_ret2
        exact ⟨by rw [HR.out]; rfl, hB⟩
      · have hz' : 0 < t.size := by omega
        by_cases h63 : 63 < t.size
        · have HR := Lib.hid (HBAD.out (lbl_long h63))
          go_wp2
          go_ret2
          exact ⟨by rw [HR.out]; rfl, hB⟩
        · by_cases h0 : t[0].toNat = 45
          · have HR := Lib.hid (HBAD.out (lbl_head hz' h0))
            have h0' : ((t[0].toNat : Int) == 45) = true := by rw [h0]; rfl
            clear h0
            go_wp2
            go_ret2
            exact ⟨by rw [HR.out]; rfl, hB⟩
          · have h0' : ((t[0].toNat : Int) == 45) = false := by simp; omega
            by_cases h1 : (t[t.size - 1]'(by omega)).toNat = 45
            · have HR := Lib.hid (HBAD.out (lbl_last hz' h1))
              have h1' : (((t[t.size - 1]'(by omega)).toNat : Int) == 45) = true := by rw [h1]; rfl
              clear h1 h0
              go_wp2
              go_ret2
              exact ⟨by rw [HR.out]; rfl, hB⟩
            · have HRest := Lib.hid (lbl_rest hz' (by omega) h0 h1)
              have h1' : (((t[t.size - 1]'(by omega)).toNat : Int) == 45) = false := by simp; omega
              clear h1 h0
              go_wp2
              go_loop [45] (fun i => ∃ j : Nat, j ≤ t.size ∧ i = .int .i64 j ∧ okTo lblC t j) (fun i => t.size - (intOf i).toNat)
              case atStart => exact ⟨0, by omega, rfl, okTo0 _ t⟩
              case round =>
                obtain ⟨j, hj, rfl, hjn⟩ := hrel
                by_cases hjt : j < t.size
                · by_cases ha : alnB t[j] = true
                  · have HL := Lib.hid (lblC_of (Or.inl ha))
                    go_wp2_with (go_at_call 33; refine (refAlnum_any _ _).mono ?_; rintro e w' ⟨rfl, rfl⟩; rw [ha])
                    go_round
                    case rel => exact ⟨j + 1, by omega, by go_num, okTo_step hjt hjn HL.out⟩
                    case measure => simp [intOf]; omega
                  · have ha' : alnB t[j] = false := by simpa using ha
                    clear ha
                    by_cases h45 : t[j].toNat = 45
                    · have HL := Lib.hid (lblC_of (Or.inr h45))
                      have h45' : ((t[j].toNat : Int) != 45) = false := by rw [h45]; rfl
                      clear h45
                      go_wp2_with (go_at_call 33; refine (refAlnum_any _ _).mono ?_; rintro e w' ⟨rfl, rfl⟩; rw [ha'])
                      go_round
                      case rel => exact ⟨j + 1, by omega, by go_num, okTo_step hjt hjn HL.out⟩
                      case measure => simp [intOf]; omega
                    · have HR := Lib.hid (HBAD.out (by rw [HRest.out]; exact okTo_no hjt (lblC_not ha' h45)))
                      have h45' : ((t[j].toNat : Int) != 45) = true := by simp; omega
                      clear h45
                      go_wp2_with (go_at_call 33; refine (refAlnum_any _ _).mono ?_; rintro e w' ⟨rfl, rfl⟩; rw [ha'])
                      go_ret2
                      exact ⟨by rw [HR.out]; rfl, hB⟩
                · have HL := Lib.hid (show lblB t.data.toList = true by rw [HRest.out, okTo_end (by omega) hjn])
                  go_wp2
                  go_round
                  case rel => exact ⟨k + 1, by omega, by go_num, lblTo_step HT.out hn HL.out⟩
                  case measure => simp [intOf]; omega
    · have hall := lblTo_end (by omega) hn
      by_cases h100 : 100 < s.size
      · have HR := Lib.hid (refHostV_no (hostO_long (l := s.data.toList) (by rw [HSZ.out]; exact h100)))
        clear hall
        go_wp2
        go_ret2
        exact ⟨by rw [HR.out]; rfl, hB⟩
      · have HR := Lib.hid (refHostV_yes (hostO_good (l := s.data.toList) (by rw [HSZ.out]; omega) (by rw [HLS.out]; exact hall)))
        clear hall
        go_wp2_with (go_at_call 34; refine (refLower_any _ _ (by omega)).mono ?_; rintro e w2 ⟨rfl, hB2⟩)
        go_ret2
        exact ⟨by rw [HR.out]; rfl, hB.trans (hB2.mono hB.size)⟩
end Go.Proofs.YtfggckdakmnfbaaGreatDoor
