/- What the reference's Join returns: the same text as the code's. -/
import Derived.Test.YtjcekkgoohkomaaDoorJoin
import Derived.Test.YtjcekkgoohkomaaDoorRefLower
namespace Go.Proofs.YtjcekkgoohkomaaDoor
open Go.RowKit

theorem strB_piece (l n t : List UInt8) : strB l ++ (⟨#[59, 32]⟩ ++ strB n ++ ⟨#[61]⟩ ++ strB t) = strB (l ++ 59 :: 32 :: (n ++ 61 :: t)) := by apply ByteArray.ext; simp [strB]
def RJoinPost (v0 : List UInt8) (ps : List (List UInt8 × List UInt8)) (w : World) (e : Ending) (w' : World) : Prop :=
  Below w.heap.size w w' ∧
  match joinO v0 ps with
  | none => e = .returned (.tuple #[.string ⟨#[]⟩, .bool false])
  | some t => e = .returned (.tuple #[.string (strB t), .bool true])
theorem RJoinPost.none {v0 : List UInt8} {ps : List (List UInt8 × List UInt8)} {w w' : World} (h : joinO v0 ps = none) (hb : Below w.heap.size w w') : RJoinPost v0 ps w (.returned (.tuple #[.string ⟨#[]⟩, .bool false])) w' := ⟨hb, by rw [h]⟩
def RJRel (v0 : List UInt8) (ps : List (List UInt8 × List UInt8)) (w : World) (v i : Value) (wr : World) : Prop :=
  ∃ k : Nat, i = .int .i64 k ∧ k ≤ ps.length ∧ (ps.take k).all goodB = true ∧ v = .string (strB (joinL v0 (ps.take k))) ∧ Below w.heap.size w wr

set_option maxHeartbeats 4000000 in
set_option maxRecDepth 100000 in
theorem refJoin_any (v0 : List UInt8) (lv : Value) (ps : List (List UInt8 × List UInt8)) (w : World) (hr : ReadsQ w lv ps) (hv : v0.length ≤ 100000) (hps : ∀ p ∈ ps, p.1.length + p.2.length ≤ 400) (hn : ps.length ≤ 100) :
    Calls Tryd.prog 35 #[.string (strB v0), lv] w fun e w' => RJoinPost v0 ps w e w' := by
  obtain ⟨ao, cap, rfl, hc⟩ := hr
  have HC := Lib.hid hc
  have HPS := Lib.hid hps
  clear hc hps
  go_enter Tryd.func35, Tryd.ntmps35
  go_wp2
  go_loopw [0, 11] (fun v i wr => RJRel v0 ps w v i wr) (fun _ i _ => ps.length - (intOf i).toNat)
  case atStart => exact ⟨0, rfl, Nat.zero_le _, rfl, by simp [joinL], Below.refl _ _⟩
  case round =>
    obtain ⟨k, rfl, hk, hg, rfl, hB⟩ := hrel
    have hz := hB.size
    have hjl := join_len_take k HPS.out hn hv
    have hzj : (strB (joinL v0 (ps.take k))).size ≤ 180500 := by rw [strB_size]; exact hjl
    by_cases hlt : k < ps.length
    · obtain ⟨p, hp⟩ : ∃ p, ps[k]? = some p := ⟨ps[k], by simp [hlt]⟩
      obtain ⟨g, off, rfl, hg1, h1, h2⟩ := HC.out k p hp
      have hc1 : wr.cell? ⟨g, off + k * 2, none⟩ = some (.string (strB p.1)) := (hB.cell (p := ⟨g, off + k * 2, none⟩) hg1).trans h1
      have hc2 : wr.cell? ⟨g, off + k * 2 + 1, none⟩ = some (.string (strB p.2)) := (hB.cell (p := ⟨g, off + k * 2 + 1, none⟩) hg1).trans h2
      have hgr : g < wr.heap.size := Nat.lt_of_lt_of_le hg1 hz
      have hpl := HPS.out p (List.mem_of_getElem? hp)
      have hs1 : (strB p.1).size ≤ 400 := by rw [strB_size]; omega
      have hs2 : (strB p.2).size ≤ 400 := by rw [strB_size]; omega
      have HP := Lib.hid hp
      clear hp h1 h2
      cases hcx : ctlS p.2 with
      | true =>
        have hbad := join_bad (v := v0) HP.out (by unfold goodB; rw [hcx]; simp)
        have HCx := Lib.hid hcx
        have HBad := Lib.hid hbad
        clear hcx hbad
        go_wp2_with fail
        refine (refQuote_any (strB p.2) _ (by omega)).mono ?_
        rintro e w3 ⟨rfl, hB3⟩
        rw [strB_list, HCx.out]
        go_wp2_with fail
        go_ret2
        exact RJoinPost.none HBad.out (hB.trans (hB3.mono hz))
      | false =>
        have HCx := Lib.hid hcx
        clear hcx
        cases htn : tokS p.1 with
        | false =>
          have hbad := join_bad (v := v0) HP.out (by unfold goodB; rw [htn]; rfl)
          have HN := Lib.hid htn
          have HBad := Lib.hid hbad
          clear htn hbad
          go_wp2_with fail
          refine (refQuote_any (strB p.2) _ (by omega)).mono ?_
          rintro e w3 ⟨rfl, hB3⟩
          rw [strB_list, HCx.out]
          have c1' : w3.cell? ⟨g, off + k * 2, none⟩ = some (.string (strB p.1)) := (hB3.cell (p := ⟨g, off + k * 2, none⟩) hgr).trans hc1
          go_wp2_with fail
          refine (refToken_any (strB p.1) _ (by unfold maxLen; omega)).mono ?_
          rintro e w' ⟨rfl, rfl⟩
          rw [strB_list, HN.out]
          go_wp2_with fail
          go_ret2
          exact RJoinPost.none HBad.out (hB.trans (hB3.mono hz))
        | true =>
          have hgd : goodB p = true := (goodB_iff p).mpr ⟨htn, HCx.out⟩
          have HG := Lib.hid hgd
          have HN := Lib.hid htn
          clear htn hgd
          cases htx : tokS p.2 with
          | true =>
            have ht : txtS p.2 = p.2 := by unfold txtS; rw [if_pos htx]
            have HT := Lib.hid ht
            have HX := Lib.hid htx
            clear ht htx
            go_wp2_with fail
            refine (refQuote_any (strB p.2) _ (by omega)).mono ?_
            rintro e w3 ⟨rfl, hB3⟩
            rw [strB_list, HCx.out]
            have c1' : w3.cell? ⟨g, off + k * 2, none⟩ = some (.string (strB p.1)) := (hB3.cell (p := ⟨g, off + k * 2, none⟩) hgr).trans hc1
            have c2' : w3.cell? ⟨g, off + k * 2 + 1, none⟩ = some (.string (strB p.2)) := (hB3.cell (p := ⟨g, off + k * 2 + 1, none⟩) hgr).trans hc2
            have hzt : (strB (p.2)).size ≤ 802 := by rw [strB_size]; omega
            go_wp2_with fail
            refine (refToken_any (strB p.1) _ (by unfold maxLen; omega)).mono ?_
            rintro e w' ⟨rfl, rfl⟩
            rw [strB_list, HN.out]
            go_wp2_with fail
            refine (refToken_any (strB p.2) _ (by unfold maxLen; omega)).mono ?_
            rintro e w' ⟨rfl, rfl⟩
            rw [strB_list, HX.out]
            go_wp2_with fail
            refine (refLower_any (strB p.1) _ (by omega)).mono ?_
            rintro e w4 ⟨rfl, hB4⟩
            rw [strB_list]
            have hzl : (strB (lowS p.1)).size ≤ 400 := by rw [strB_size, lowS_len]; omega
            go_wp2_with fail
            go_roundw
            case rel => exact ⟨k + 1, by go_num, by omega, good_take HP.out hg HG.out, by rw [join_take HP.out, strB_piece]; unfold pieceS bodyS; rw [HT.out], hB.trans ((hB3.trans (hB4.mono hB3.size)).mono hz)⟩
            case measure => simp [intOf]; omega
          | false =>
            have ht : txtS p.2 = quoS p.2 := by unfold txtS; rw [if_neg (by rw [htx]; simp)]
            have hql : (quoS p.2).length ≤ 802 := by have := escS_le p.2; simp [quoS]; omega
            have HT := Lib.hid ht
            have HX := Lib.hid htx
            clear ht htx
            go_wp2_with fail
            refine (refQuote_any (strB p.2) _ (by omega)).mono ?_
            rintro e w3 ⟨rfl, hB3⟩
            rw [strB_list, HCx.out]
            have c1' : w3.cell? ⟨g, off + k * 2, none⟩ = some (.string (strB p.1)) := (hB3.cell (p := ⟨g, off + k * 2, none⟩) hgr).trans hc1
            have c2' : w3.cell? ⟨g, off + k * 2 + 1, none⟩ = some (.string (strB p.2)) := (hB3.cell (p := ⟨g, off + k * 2 + 1, none⟩) hgr).trans hc2
            have hzt : (strB (quoS p.2)).size ≤ 802 := by rw [strB_size]; omega
            go_wp2_with fail
            refine (refToken_any (strB p.1) _ (by unfold maxLen; omega)).mono ?_
            rintro e w' ⟨rfl, rfl⟩
            rw [strB_list, HN.out]
            go_wp2_with fail
            refine (refToken_any (strB p.2) _ (by unfold maxLen; omega)).mono ?_
            rintro e w' ⟨rfl, rfl⟩
            rw [strB_list, HX.out]
            go_wp2_with fail
            refine (refLower_any (strB p.1) _ (by omega)).mono ?_
            rintro e w4 ⟨rfl, hB4⟩
            rw [strB_list]
            have hzl : (strB (lowS p.1)).size ≤ 400 := by rw [strB_size, lowS_len]; omega
            go_wp2_with fail
            go_roundw
            case rel => exact ⟨k + 1, by go_num, by omega, good_take HP.out hg HG.out, by rw [join_take HP.out, strB_piece]; unfold pieceS bodyS; rw [HT.out], hB.trans ((hB3.trans (hB4.mono hB3.size)).mono hz)⟩
            case measure => simp [intOf]; omega
    · have hd := join_done (v := v0) (by omega : ps.length ≤ k) hg
      have HD := Lib.hid hd
      clear hd
      go_wp2_with fail
      go_ret2
      refine ⟨hB, ?_⟩
      rw [HD.out]
      rfl
end Go.Proofs.YtjcekkgoohkomaaDoor
