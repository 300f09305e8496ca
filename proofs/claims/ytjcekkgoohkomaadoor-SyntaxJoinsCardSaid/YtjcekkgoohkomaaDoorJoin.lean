/- What the code's Join returns. -/
import Derived.Test.YtjcekkgoohkomaaDoorJoinSpec
import Derived.Test.YtjcekkgoohkomaaDoorBuildK
import Derived.Test.YtjcekkgoohkomaaDoorSplits
namespace Go.Proofs.YtjcekkgoohkomaaDoor
open Go.RowKit

def JoinPost (v0 : List UInt8) (ps : List (List UInt8 × List UInt8)) (w : World) (e : Ending) (w' : World) : Prop :=
  Below w.heap.size w w' ∧
  match joinO v0 ps with
  | none => e = .returned (.tuple #[.string ⟨#[]⟩, errForm])
  | some t => e = .returned (.tuple #[.string (strB t), .nilIface])
theorem JoinPost.none {v0 : List UInt8} {ps : List (List UInt8 × List UInt8)} {w w' : World} (h : joinO v0 ps = none) (hb : Below w.heap.size w w') : JoinPost v0 ps w (.returned (.tuple #[.string ⟨#[]⟩, errForm])) w' := ⟨hb, by rw [h]⟩
def JRel (v0 : List UInt8) (ps : List (List UInt8 × List UInt8)) (w : World) (i : Value) (wr : World) : Prop :=
  ∃ k : Nat, i = .int .i64 k ∧ k ≤ ps.length ∧ (ps.take k).all goodB = true ∧ Bld w.heap.size w.heap.size (joinL v0 (ps.take k)) wr ∧ Below w.heap.size w wr
theorem new_block (w : World) (o : Obj) : (w.alloc o).heap[w.heap.size]? = some o := heap_alloc_new w o
theorem join_len_take {v0 : List UInt8} {ps : List (List UInt8 × List UInt8)} (k : Nat) (hps : ∀ p ∈ ps, p.1.length + p.2.length ≤ 400) (hn : ps.length ≤ 100) (hv : v0.length ≤ 100000) : (joinL v0 (ps.take k)).length ≤ 180500 := by
  have h1 := join_len v0 (ps.take k) (fun p hp => hps p (List.mem_of_mem_take hp))
  have h2 : (ps.take k).length ≤ ps.length := by simp; omega
  omega

set_option maxHeartbeats 4000000 in
set_option maxRecDepth 100000 in
theorem join_any (v0 : List UInt8) (lv : Value) (ps : List (List UInt8 × List UInt8)) (w : World) (hr : ReadsP w lv ps) (hv : v0.length ≤ 100000) (hps : ∀ p ∈ ps, p.1.length + p.2.length ≤ 400) (hn : ps.length ≤ 100) :
    Calls Tryd.prog 34 #[.string (strB v0), lv] w fun e w' => JoinPost v0 ps w e w' := by
  obtain ⟨ao, cap, rfl, hc⟩ := hr
  have HC := Lib.hid hc
  have HPS := Lib.hid hps
  clear hc hps
  go_enter Tryd.func34, Tryd.ntmps34
  go_wp2_with fail
  refine (writeString_k w.heap.size w.heap.size [] v0 _ (bld_new w) (by simp; omega) (by simp)).mono ?_
  rintro e w1 ⟨rfl, hb1, hB1, _⟩
  have hB01 := (below_new w (.cells #[.pointer none, .slice none 0 0] 78)).trans hB1
  clear hB1
  go_wp2_with fail
  go_loopw [16] (fun i wr => JRel v0 ps w i wr) (fun i _ => ps.length - (intOf i).toNat)
  case atStart => exact ⟨0, rfl, Nat.zero_le _, rfl, by simpa [joinL] using hb1, hB01⟩
  case round =>
    obtain ⟨k, rfl, hk, hg, hb, hB⟩ := hrel
    have hz := hB.size
    have hjl := join_len_take k HPS.out hn hv
    by_cases hlt : k < ps.length
    · obtain ⟨p, hp⟩ : ∃ p, ps[k]? = some p := ⟨ps[k], by simp [hlt]⟩
      obtain ⟨g, rfl, hg1, h1, h2⟩ := HC.out k p hp
      have hc1 : wr.cell? ⟨g, k * 2, none⟩ = some (.string (strB p.1)) := (hB.cell (p := ⟨g, k * 2, none⟩) hg1).trans h1
      have hc2 : wr.cell? ⟨g, k * 2 + 1, none⟩ = some (.string (strB p.2)) := (hB.cell (p := ⟨g, k * 2 + 1, none⟩) hg1).trans h2
      have hpl := HPS.out p (List.mem_of_getElem? hp)
      have hs1 : (strB p.1).size ≤ 400 := by rw [strB_size]; omega
      have hs2 : (strB p.2).size ≤ 400 := by rw [strB_size]; omega
      have HP := Lib.hid hp
      have hbW := hb.below (below_new wr (.cells #[.string (strB p.1), .string (strB p.2)] 51))
      have hBW := hB.alloc hz (.cells #[.string (strB p.1), .string (strB p.2)] 51)
      have hzn : wr.heap.size ≤ (wr.alloc (.cells #[.string (strB p.1), .string (strB p.2)] 51)).heap.size := by simp
      have hBlt : w.heap.size < wr.heap.size := by
        rcases hb with hb | hb
        · exact Lib.BuilderAt.lt hb
        · exact Lib.BuilderAt.lt hb
      clear hp h1 h2 hb
      cases htn : tokS p.1 with
      | false =>
        have hbad := join_bad (v := v0) HP.out (by unfold goodB; rw [htn]; rfl)
        have HN := Lib.hid htn
        have HBad := Lib.hid hbad
        clear htn hbad
        go_wp2_with fail
        refine (token_any (strB p.1) _ (by unfold maxLen; omega)).mono ?_
        rintro e w' ⟨rfl, rfl⟩
        rw [strB_list, HN.out]
        go_wp2_with fail
        go_ret2
        exact JoinPost.none HBad.out hBW
      | true =>
        have HN := Lib.hid htn
        clear htn
        cases htx : tokS p.2 with
        | true =>
          have hgd : goodB p = true := (goodB_iff p).mpr ⟨HN.out, tokS_ctl htx⟩
          have ht : txtS p.2 = p.2 := by unfold txtS; rw [if_pos htx]
          have HG := Lib.hid hgd
          have HT := Lib.hid ht
          have HX := Lib.hid htx
          clear hgd ht htx
          go_wp2_with fail
          refine (token_any (strB p.1) _ (by unfold maxLen; omega)).mono ?_
          rintro e w' ⟨rfl, rfl⟩
          rw [strB_list, HN.out]
          go_wp2_with fail
          refine (token_any (strB p.2) _ (by unfold maxLen; omega)).mono ?_
          rintro e w' ⟨rfl, rfl⟩
          rw [strB_list, HX.out]
          have hA := new_block wr (.cells #[.string (strB p.1), .string (strB p.2)] 51)
          have HA := Lib.hid hA
          clear hA
          go_wp2_with fail
          refine (writeString_k w.heap.size w.heap.size _ [59, 32] _ hbW (by simp; omega) (by simp; omega)).mono ?_
          rintro e w3 ⟨rfl, hb3, hB3, hk3⟩
          have hz3 := hB3.size
          have hA3 := hk3 wr.heap.size _ 51 (0, 0) (by omega) (by decide) HA.out
          have hc3 : w3.cell? ⟨wr.heap.size, 0, none⟩ = some (.string (strB p.1)) := by rw [Lib.cell_of_heap hA3]; rfl
          clear hk3 hA3
          go_wp2_with fail
          refine (lower_any (strB p.1) _ (by omega)).mono ?_
          rintro e w4 ⟨rfl, hB4⟩
          rw [strB_list]
          have hz4 := hB4.size
          go_wp2_with fail
          refine (writeString_k w.heap.size w.heap.size _ (lowS p.1) _ (hb3.below hB4) (by rw [lowS_len]; simp; omega) (by omega)).mono ?_
          rintro e w5 ⟨rfl, hb5, hB5, _⟩
          have hz5 := hB5.size
          go_wp2_with fail
          refine (writeByte_k w.heap.size w.heap.size _ 61 _ hb5 (by simp [lowS_len]; omega) (by omega)).mono ?_
          rintro e w6 ⟨rfl, hb6, hB6, _⟩
          have hz6 := hB6.size
          go_wp2_with fail
          refine (writeString_k w.heap.size w.heap.size _ (p.2) _ hb6 (by simp [lowS_len]; omega) (by omega)).mono ?_
          rintro e w7 ⟨rfl, hb7, hB7, _⟩
          go_wp2_with fail
          go_roundw
          case rel => exact ⟨k + 1, by go_num, by omega, good_take HP.out hg HG.out, by rw [join_take HP.out]; unfold pieceS bodyS; rw [HT.out]; simpa using hb7, ((((hBW.trans hB3).trans (hB4.mono (by omega))).trans hB5).trans hB6).trans hB7⟩
          case measure => simp [intOf]; omega
        | false =>
          have HX := Lib.hid htx
          cases hcx : ctlS p.2 with
          | true =>
            have hbad := join_bad (v := v0) HP.out (by unfold goodB; rw [hcx]; simp)
            have HCx := Lib.hid hcx
            have HBad := Lib.hid hbad
            clear htx hcx hbad
            go_wp2_with fail
            refine (token_any (strB p.1) _ (by unfold maxLen; omega)).mono ?_
            rintro e w' ⟨rfl, rfl⟩
            rw [strB_list, HN.out]
            go_wp2_with fail
            refine (token_any (strB p.2) _ (by unfold maxLen; omega)).mono ?_
            rintro e w' ⟨rfl, rfl⟩
            rw [strB_list, HX.out]
            go_wp2_with fail
            refine (quote_bad (strB p.2) _ (by omega) (by rw [strB_list]; exact HCx.out)).mono ?_
            rintro e w' ⟨rfl, rfl⟩
            go_wp2_with fail
            go_ret2
            exact JoinPost.none HBad.out hBW
          | false =>
            have hgd : goodB p = true := (goodB_iff p).mpr ⟨HN.out, hcx⟩
            have ht : txtS p.2 = quoS p.2 := by unfold txtS; rw [if_neg (by rw [htx]; simp)]
            have hql : (quoS p.2).length ≤ 802 := by have := escS_le p.2; simp [quoS]; omega
            have HG := Lib.hid hgd
            have HT := Lib.hid ht
            have HCx := Lib.hid hcx
            clear hgd ht htx hcx
            go_wp2_with fail
            refine (token_any (strB p.1) _ (by unfold maxLen; omega)).mono ?_
            rintro e w' ⟨rfl, rfl⟩
            rw [strB_list, HN.out]
            go_wp2_with fail
            refine (token_any (strB p.2) _ (by unfold maxLen; omega)).mono ?_
            rintro e w' ⟨rfl, rfl⟩
            rw [strB_list, HX.out]
            go_wp2_with fail
            refine (quote_good (strB p.2) _ (by omega) (by rw [strB_list]; exact HCx.out)).mono ?_
            rintro e w2 ⟨rfl, hB2⟩
            rw [strB_list]
            have hz2 := hB2.size
            have hA := (hB2.block wr.heap.size (by simp)).trans (new_block wr (.cells #[.string (strB p.1), .string (strB p.2)] 51))
            have HA := Lib.hid hA
            clear hA
            go_wp2_with fail
            refine (writeString_k w.heap.size w.heap.size _ [59, 32] _ (hbW.below hB2) (by simp; omega) (by omega)).mono ?_
            rintro e w3 ⟨rfl, hb3, hB3, hk3⟩
            have hz3 := hB3.size
            have hA3 := hk3 wr.heap.size _ 51 (0, 0) (by omega) (by decide) HA.out
            have hc3 : w3.cell? ⟨wr.heap.size, 0, none⟩ = some (.string (strB p.1)) := by rw [Lib.cell_of_heap hA3]; rfl
            clear hk3 hA3
            go_wp2_with fail
            refine (lower_any (strB p.1) _ (by omega)).mono ?_
            rintro e w4 ⟨rfl, hB4⟩
            rw [strB_list]
            have hz4 := hB4.size
            go_wp2_with fail
            refine (writeString_k w.heap.size w.heap.size _ (lowS p.1) _ (hb3.below hB4) (by rw [lowS_len]; simp; omega) (by omega)).mono ?_
            rintro e w5 ⟨rfl, hb5, hB5, _⟩
            have hz5 := hB5.size
            go_wp2_with fail
            refine (writeByte_k w.heap.size w.heap.size _ 61 _ hb5 (by simp [lowS_len]; omega) (by omega)).mono ?_
            rintro e w6 ⟨rfl, hb6, hB6, _⟩
            have hz6 := hB6.size
            go_wp2_with fail
            refine (writeString_k w.heap.size w.heap.size _ (quoS p.2) _ hb6 (by simp [lowS_len]; omega) (by omega)).mono ?_
            rintro e w7 ⟨rfl, hb7, hB7, _⟩
            go_wp2_with fail
            go_roundw
            case rel => exact ⟨k + 1, by go_num, by omega, good_take HP.out hg HG.out, by rw [join_take HP.out]; unfold pieceS bodyS; rw [HT.out]; simpa using hb7, (((((hBW.trans (hB2.mono (by simp; omega))).trans hB3).trans (hB4.mono (by omega))).trans hB5).trans hB6).trans hB7⟩
            case measure => simp [intOf]; omega
    · have hd := join_done (v := v0) (by omega : ps.length ≤ k) hg
      have HD := Lib.hid hd
      clear hd
      go_wp2_with fail
      refine (builder_string _ _ _ _ hb hz).mono ?_
      rintro e w2 ⟨rfl, hB2⟩
      go_wp2_with fail
      go_ret2
      refine ⟨hB.trans hB2, ?_⟩
      rw [HD.out]
      rfl
end Go.Proofs.YtjcekkgoohkomaaDoor
