/- AddressReads: for every string the statement's function returns true: the walk. -/
import Derived.Test.YtllkldbiagkbcaaGreatDoorARefRead
import Derived.Test.YtllkldbiagkbcaaGreatDoorAParses
namespace Go.Proofs.YtllkldbiagkbcaaGreatDoor.reads
open Go.RowKit
open Go.Proofs.YtllkldbiagkbcaaGreatDoor.parses (keep ref_in cellsA cellsR)

set_option maxHeartbeats 4000000 in
set_option maxRecDepth 100000 in
theorem walk (s : ByteArray) (w : World) (hE : Env w) (hs : s.size ≤ maxLen) :
    Calls Tryz.prog 5 #[.string s] w fun e w' => e = .returned (.bool true) ∧ Below w.heap.size w w' := by
  have HE := Lib.hid hE
  clear hE
  unfold maxLen at hs
  by_cases h1 : 1500 < s.size
  · go_enter Tryz.func5, Tryz.ntmps5
    go_wp2_with fail
    refine (awake_any _ HE.out).mono ?_
    rintro e w1 ⟨rfl, hB1⟩
    have HB1 := Lib.hid hB1
    clear hB1
    go_wp2_with fail
    refine (awake_any _ (HE.out.below HB1.out)).mono ?_
    rintro e w2 ⟨rfl, hB2⟩
    go_wp2_with fail
    go_ret
    exact ⟨rfl, HB1.out.trans (hB2.mono HB1.out.size)⟩
  · cases hr : readO s.data.toList with
    | none =>
      have HP := Lib.hid (readV_no hr)
      have HQ := Lib.hid (refReadV_no hr)
      clear hr
      go_enter Tryz.func5, Tryz.ntmps5
      go_wp2_with fail
      refine (awake_any _ HE.out).mono ?_
      rintro e w1 ⟨rfl, hB1⟩
      have HB1 := Lib.hid hB1
      clear hB1
      go_wp2_with fail
      refine (read_any s _ (HE.out.below HB1.out) (by omega)).mono ?_
      rintro e w2 ⟨rfl, hB2⟩
      rw [HP.out]
      have HB2 := Lib.hid (HB1.out.trans (hB2.mono HB1.out.size))
      clear hB2
      go_wp2_with fail
      have HB3 := Lib.hid (HB2.out.alloc HB2.out.size (cellsA .zero))
      have F1 := Lib.hid (four_new w2 (.string (strB Adr.zero.h)) (.string (strB Adr.zero.p)) (.string (strB Adr.zero.q)) (.bool Adr.zero.b) 24)
      generalize w2.alloc (.cells #[.string (strB Adr.zero.h), .string (strB Adr.zero.p), .string (strB Adr.zero.q), .bool Adr.zero.b] 24) = w3 at *
      generalize w2.heap.size = M at *
      refine (refRead_any s _ (by omega)).mono ?_
      rintro e w4 ⟨rfl, hB4⟩
      rw [HQ.out]
      have HB4 := Lib.hid (HB3.out.trans (hB4.mono HB3.out.size))
      have F2 := Lib.hid (F1.out.below hB4)
      clear hB4 F1
      go_upto_region 5 with fail
      have HB5 := Lib.hid (HB4.out.alloc HB4.out.size (cellsR .zero))
      have F3 := Lib.hid (F2.out.below (below_new w4 (cellsR .zero)))
      have G1 := Lib.hid (four_new w4 (.string (strB Adr.zero.h)) (.string (strB Adr.zero.p)) (.string (strB Adr.zero.q)) (.bool Adr.zero.b) 29)
      generalize w4.alloc (.cells #[.string (strB Adr.zero.h), .string (strB Adr.zero.p), .string (strB Adr.zero.q), .bool Adr.zero.b] 29) = w5 at *
      generalize w4.heap.size = N at *
      obtain ⟨c0, c1, c2, c3, _, _, _, _, _⟩ := F3.out
      go_wp2_with fail
      refine (ref_any .zero _).mono ?_
      rintro e w6 ⟨rfl, hB6⟩
      have HB6 := Lib.hid (HB5.out.trans (hB6.mono HB5.out.size))
      clear hB6 c0 c1 c2 c3
      have he2 : (strB Adr.zero.h).toList.isEmpty = true := empty_yes rfl
      have he3 : (strB Adr.zero.p).toList.isEmpty = true := empty_yes rfl
      have he4 : (strB Adr.zero.q).toList.isEmpty = true := empty_yes rfl
      have he5 : Adr.zero.b = false := rfl
      go_wp2_with (go_at_call 15; refine (isErr_any 2 (by decide) _).mono ?_; rintro e w' ⟨rfl, rfl⟩)
      go_ret
      exact ⟨ret_bool (by simp), HB6.out⟩
    | some x =>
      have HP := Lib.hid (readV_yes hr)
      have HQ := Lib.hid (refReadV_yes hr)
      obtain ⟨hvx, htx⟩ := readO_some hr
      have hts : strB x.text = s := by rw [htx, strB_of]
      have hle : AdrLe 10000 x := by
        have hv2 := hvx
        rw [valid_eq, decide_eq_true_iff] at hv2
        have this : AdrLe 2000 x := by have := parse_le x.h x.target; rw [hv2] at this; exact this
        exact ⟨by have := this.1; omega, by have := this.2.1; omega, by have := this.2.2; omega⟩
      have HFM := Lib.hid (fun w h => show Calls Tryz.prog 13 #[adrV x] w fun e w' => e = .returned (.tuple #[.string s, .nilIface]) ∧ Below w.heap.size w w' by
        have := format_any x w h hle
        rw [fmtV_yes hvx, hts] at this; exact this)
      clear hr hvx htx hts hle
      go_enter Tryz.func5, Tryz.ntmps5
      go_wp2_with fail
      refine (awake_any _ HE.out).mono ?_
      rintro e w1 ⟨rfl, hB1⟩
      have HB1 := Lib.hid hB1
      clear hB1
      go_wp2_with fail
      refine (read_any s _ (HE.out.below HB1.out) (by omega)).mono ?_
      rintro e w2 ⟨rfl, hB2⟩
      rw [HP.out]
      have HB2 := Lib.hid (HB1.out.trans (hB2.mono HB1.out.size))
      clear hB2
      go_wp2_with fail
      have HB3 := Lib.hid (HB2.out.alloc HB2.out.size (cellsA x))
      have F1 := Lib.hid (four_new w2 (.string (strB x.h)) (.string (strB x.p)) (.string (strB x.q)) (.bool x.b) 24)
      generalize w2.alloc (.cells #[.string (strB x.h), .string (strB x.p), .string (strB x.q), .bool x.b] 24) = w3 at *
      generalize w2.heap.size = M at *
      refine (refRead_any s _ (by omega)).mono ?_
      rintro e w4 ⟨rfl, hB4⟩
      rw [HQ.out]
      have HB4 := Lib.hid (HB3.out.trans (hB4.mono HB3.out.size))
      have F2 := Lib.hid (F1.out.below hB4)
      clear hB4 F1
      go_upto_region 5 with fail
      have HB5 := Lib.hid (HB4.out.alloc HB4.out.size (cellsR x))
      have F3 := Lib.hid (F2.out.below (below_new w4 (cellsR x)))
      have G1 := Lib.hid (four_new w4 (.string (strB x.h)) (.string (strB x.p)) (.string (strB x.q)) (.bool x.b) 29)
      generalize w4.alloc (.cells #[.string (strB x.h), .string (strB x.p), .string (strB x.q), .bool x.b] 29) = w5 at *
      generalize w4.heap.size = N at *
      obtain ⟨c0, c1, c2, c3, _, _, _, _, _⟩ := F3.out
      go_wp2_with fail
      refine (HFM.out _ (HE.out.below HB5.out)).mono ?_
      rintro e w6 ⟨rfl, hB6⟩
      have F4 := Lib.hid (F3.out.below hB6)
      have G2 := Lib.hid (G1.out.below hB6)
      have HB6 := Lib.hid (HB5.out.trans (hB6.mono HB5.out.size))
      clear hB6 c0 c1 c2 c3
      go_upto_region 8 with fail
      have hS : w6.cell? ⟨M, 0, none⟩ = some (.string (strB x.h)) ∧ w6.cell? ⟨M, 1, none⟩ = some (.string (strB x.p)) ∧ w6.cell? ⟨M, 2, none⟩ = some (.string (strB x.q)) ∧ w6.cell? ⟨M, 3, none⟩ = some (.bool x.b) ∧ w6.cell? ⟨N, 0, none⟩ = some (.string (strB x.h)) ∧ w6.cell? ⟨N, 1, none⟩ = some (.string (strB x.p)) ∧ w6.cell? ⟨N, 2, none⟩ = some (.string (strB x.q)) ∧ w6.cell? ⟨N, 3, none⟩ = some (.bool x.b) ∧ M < w6.heap.size ∧ N < w6.heap.size ∧ Below w.heap.size w w6 :=
        ⟨F4.out.1, F4.out.2.1, F4.out.2.2.1, F4.out.2.2.2.1, G2.out.1, G2.out.2.1, G2.out.2.2.1, G2.out.2.2.2.1, F4.out.2.2.2.2.2.2.2.2, G2.out.2.2.2.2.2.2.2.2, HB6.out⟩
      have hSd := keep hS ((Below.refl w6.heap.size w6).drew)
      clear F2 F3 F4 G1 G2 HB1 HB2 HB3 HB4 HB5 HB6
      go_region_held3 (fun w' => w'.cell? ⟨M, 0, none⟩ = some (.string (strB x.h)) ∧ w'.cell? ⟨M, 1, none⟩ = some (.string (strB x.p)) ∧ w'.cell? ⟨M, 2, none⟩ = some (.string (strB x.q)) ∧ w'.cell? ⟨M, 3, none⟩ = some (.bool x.b) ∧ w'.cell? ⟨N, 0, none⟩ = some (.string (strB x.h)) ∧ w'.cell? ⟨N, 1, none⟩ = some (.string (strB x.p)) ∧ w'.cell? ⟨N, 2, none⟩ = some (.string (strB x.q)) ∧ w'.cell? ⟨N, 3, none⟩ = some (.bool x.b) ∧ M < w'.heap.size ∧ N < w'.heap.size ∧ Below w.heap.size w w')
        (first | (with_reducible exact h5) | (with_reducible exact hSd))
        (first
          | (go_at_call 10; refine (ref_in (by assumption)).mono ?_; rintro e w' ⟨rfl, h5⟩))
      go_wp2_with fail
      go_ret
      exact ⟨ret_bool (by simp), h5.2.2.2.2.2.2.2.2.2.2⟩
end Go.Proofs.YtllkldbiagkbcaaGreatDoor.reads
