/- AddressReturns: for every host and target the statement's function returns true: the walk. -/
import Derived.Test.YtllkldbiagkbcaaDoorARead
namespace Go.Proofs.YtllkldbiagkbcaaDoor.returns
open Go.RowKit

abbrev cellsA (x : Adr) : Obj := .cells #[.string (strB x.h), .string (strB x.p), .string (strB x.q), .bool x.b] 33
set_option maxHeartbeats 4000000 in
set_option maxRecDepth 100000 in
theorem walk (s t : ByteArray) (w : World) (hE : Env w) (hs : s.size ≤ 140737488355328) (ht : t.size ≤ 140737488355328) :
    Calls Tryd.prog 4 #[.string s, .string t] w fun e w' => e = .returned (.bool true) ∧ Below w.heap.size w w' := by
  have HE := Lib.hid hE
  have HM := Lib.hid (show s.size ≤ maxLen by unfold maxLen; omega)
  clear hE
  by_cases h1 : 1500 < s.size + t.size
  · go_enter Tryd.func4, Tryd.ntmps4
    go_wp2_with fail
    refine (awake_any _ HE.out).mono ?_
    rintro e w1 ⟨rfl, hB1⟩
    have HB1 := Lib.hid hB1
    clear hB1
    go_wp2_with fail
    refine (awake_any _ (HE.out.below HB1.out)).mono ?_
    rintro e w2 ⟨rfl, hB2⟩
    go_wp2_with fail
    go_ret
    exact ⟨rfl, HB1.out.trans (hB2.mono HB1.out.size)⟩
  · obtain ⟨n, x, hx⟩ : ∃ n x, parseA s.data.toList t.data.toList = (n, x) := ⟨_, _, rfl⟩
    by_cases hn : n = 0
    · subst hn
      have HP := Lib.hid (show parseV s.data.toList t.data.toList = .tuple #[adrV x, .nilIface] by rw [parseV_of hx]; rfl)
      have HF := Lib.hid (fmtV_yes (validA_of hx))
      have HR := Lib.hid (show readV (strB x.text).data.toList = .tuple #[adrV x, .nilIface] by rw [strB_list]; exact readV_yes (readO_of hx))
      have HG := Lib.hid (show parseV (strB x.h).data.toList (strB x.target).data.toList = .tuple #[adrV x, .nilIface] by rw [strB_list, strB_list, parseV_of (parseA_again hx)]; rfl)
      have hle : AdrLe 2000 x := by have := parse_le s.data.toList t.data.toList; rw [hx] at this; exact this
      have hts := target_size hle
      have HLE := Lib.hid (show AdrLe 10000 x from ⟨by have := hle.1; omega, by have := hle.2.1; omega, by have := hle.2.2; omega⟩)
      have hxl : (strB x.text).size ≤ 100000 := by
        have := (parseA_ok hx).2.2.2.2
        rw [strB_size]; omega
      have hhm : (strB x.h).size ≤ maxLen := by have := hle.1; unfold maxLen; omega
      have hp1 := hle.2.1
      have hq1 := hle.2.2
      have HHM := Lib.hid hhm
      clear hx hle hhm
      go_enter Tryd.func4, Tryd.ntmps4
      go_wp2_with fail
      refine (awake_any _ HE.out).mono ?_
      rintro e w1 ⟨rfl, hB1⟩
      have HB1 := Lib.hid hB1
      clear hB1
      go_wp2_with fail
      refine (parse_any s t _ (HE.out.below HB1.out) HM.out (by omega)).mono ?_
      rintro e w2 ⟨rfl, hB2⟩
      rw [HP.out]
      have HB2 := Lib.hid (HB1.out.trans (hB2.mono HB1.out.size))
      clear hB2
      go_wp2_with fail
      have HB3 := Lib.hid (HB2.out.alloc HB2.out.size (cellsA x))
      have F1 := Lib.hid (four_new w2 (.string (strB x.h)) (.string (strB x.p)) (.string (strB x.q)) (.bool x.b) 33)
      generalize w2.alloc (.cells #[.string (strB x.h), .string (strB x.p), .string (strB x.q), .bool x.b] 33) = w3 at *
      generalize w2.heap.size = N1 at *
      refine (format_any x _ (HE.out.below HB3.out) HLE.out).mono ?_
      rintro e w4 ⟨rfl, hB4⟩
      rw [HF.out]
      have HB4 := Lib.hid (HB3.out.trans (hB4.mono HB3.out.size))
      have F2 := Lib.hid (F1.out.below hB4)
      clear hB4 F1
      go_wp2_with fail
      refine (read_any (strB x.text) _ (HE.out.below HB4.out) hxl).mono ?_
      rintro e w5 ⟨rfl, hB5⟩
      rw [HR.out]
      have HB5 := Lib.hid (HB4.out.trans (hB5.mono HB4.out.size))
      have F3 := Lib.hid (F2.out.below hB5)
      clear hB5 F2
      go_upto_region 8 with fail
      have HB6 := Lib.hid (HB5.out.alloc HB5.out.size (cellsA x))
      have F4 := Lib.hid (F3.out.below (below_new w5 (cellsA x)))
      have G1 := Lib.hid (four_new w5 (.string (strB x.h)) (.string (strB x.p)) (.string (strB x.q)) (.bool x.b) 33)
      generalize w5.alloc (.cells #[.string (strB x.h), .string (strB x.p), .string (strB x.q), .bool x.b] 33) = w6 at *
      generalize w5.heap.size = N2 at *
      clear F3 HB5 HB4 HB3 HB2 HB1
      obtain ⟨c0, c1, c2, c3, _, _, _, _, _⟩ := F4.out
      have HREST := Lib.hid (fun (w5 : World) (h : Below w.heap.size w w5) => parse_any (strB x.h) (strB x.target) w5 (HE.out.below h) HHM.out (by omega))
      have HBOTH := Lib.hid (show (x.b = true → strB x.p ++ (⟨#[63]⟩ ++ strB x.q) = strB x.target) ∧ (x.b = false → strB x.p = strB x.target) from ⟨fun hb => by
        have : (⟨#[63]⟩ : ByteArray) ++ strB x.q = strB (63 :: x.q) := strB_pre 63 _
        rw [this, strB_app, strB_list]; unfold Adr.target; rw [hb, if_pos rfl], fun hb => by unfold Adr.target; rw [hb, if_neg (by decide)]⟩)
      clear hts
      cases hb : x.b with
      | true =>
        rw [hb] at F4 c3
        have HT := Lib.hid (HBOTH.out.1 hb)
        have HXB := Lib.hid hb
        clear hb
        go_wp2_with fail
        rw [HT.out]
        refine (HREST.out _ HB6.out).mono ?_
        rintro e w7 ⟨rfl, hB7⟩
        rw [HG.out]
        clear c0 c1 c2 c3
        have HB7 := Lib.hid (HB6.out.trans (hB7.mono HB6.out.size))
        have F5 := Lib.hid (F4.out.below hB7)
        have G2 := Lib.hid (G1.out.below hB7)
        clear hB7
        go_upto_region 12 with fail
        have HB8 := Lib.hid (HB7.out.alloc HB7.out.size (cellsA x))
        obtain ⟨c0, c1, c2, c3, _, _, _, _, _⟩ := F5.out.below (below_new w7 (cellsA x))
        obtain ⟨d0, d1, d2, d3, _, _, _, _, _⟩ := G2.out.below (below_new w7 (cellsA x))
        obtain ⟨k0, k1, k2, k3, _, _, _, _, _⟩ := four_new w7 (.string (strB x.h)) (.string (strB x.p)) (.string (strB x.q)) (.bool x.b) 33
        generalize w7.alloc (.cells #[.string (strB x.h), .string (strB x.p), .string (strB x.q), .bool x.b] 33) = w8 at *
        generalize w7.heap.size = N3 at *
        have hb := HXB.out
        go_wp2_with fail
        go_ret
        exact ⟨ret_bool (by simp), HB8.out⟩
      | false =>
        rw [hb] at F4 c3
        have HT := Lib.hid (HBOTH.out.2 hb)
        have HXB := Lib.hid hb
        clear hb
        go_wp2_with fail
        rw [HT.out]
        refine (HREST.out _ HB6.out).mono ?_
        rintro e w7 ⟨rfl, hB7⟩
        rw [HG.out]
        clear c0 c1 c2 c3
        have HB7 := Lib.hid (HB6.out.trans (hB7.mono HB6.out.size))
        have F5 := Lib.hid (F4.out.below hB7)
        have G2 := Lib.hid (G1.out.below hB7)
        clear hB7
        go_upto_region 12 with fail
        have HB8 := Lib.hid (HB7.out.alloc HB7.out.size (cellsA x))
        obtain ⟨c0, c1, c2, c3, _, _, _, _, _⟩ := F5.out.below (below_new w7 (cellsA x))
        obtain ⟨d0, d1, d2, d3, _, _, _, _, _⟩ := G2.out.below (below_new w7 (cellsA x))
        obtain ⟨k0, k1, k2, k3, _, _, _, _, _⟩ := four_new w7 (.string (strB x.h)) (.string (strB x.p)) (.string (strB x.q)) (.bool x.b) 33
        generalize w7.alloc (.cells #[.string (strB x.h), .string (strB x.p), .string (strB x.q), .bool x.b] 33) = w8 at *
        generalize w7.heap.size = N3 at *
        have hb := HXB.out
        go_wp2_with fail
        go_ret
        exact ⟨ret_bool (by simp), HB8.out⟩
    · have HP := Lib.hid (show parseV s.data.toList t.data.toList = .tuple #[adrV .zero, errA n] by
        have hz : x = .zero := by have := parseA_zero (h := s.data.toList) (t := t.data.toList) (by rw [hx]; exact hn); rw [hx] at this; exact this
        rw [parseV_of hx, if_neg hn, hz])
      clear hx hn
      go_enter Tryd.func4, Tryd.ntmps4
      go_wp2_with fail
      refine (awake_any _ HE.out).mono ?_
      rintro e w1 ⟨rfl, hB1⟩
      have HB1 := Lib.hid hB1
      clear hB1
      go_wp2_with fail
      refine (parse_any s t _ (HE.out.below HB1.out) HM.out (by omega)).mono ?_
      rintro e w2 ⟨rfl, hB2⟩
      rw [HP.out]
      have HB2 := Lib.hid (HB1.out.trans (hB2.mono HB1.out.size))
      clear hB2
      go_wp2_with fail
      have HB3 := Lib.hid (HB2.out.alloc HB2.out.size (cellsA .zero))
      refine (ref_any .zero _).mono ?_
      rintro e w3 ⟨rfl, hB3⟩
      have e1 : (strB Adr.zero.h).toList = [] := by rw [ByteArray.toList_eq]; rfl
      have e2 : (strB Adr.zero.p).toList = [] := by rw [ByteArray.toList_eq]; rfl
      have e3 : (strB Adr.zero.q).toList = [] := by rw [ByteArray.toList_eq]; rfl
      have f1 : (strB Adr.zero.h).toList.isEmpty = true := by rw [e1]; rfl
      have f2 : (strB Adr.zero.p).toList.isEmpty = true := by rw [e2]; rfl
      have f3 : (strB Adr.zero.q).toList.isEmpty = true := by rw [e3]; rfl
      have e4 : Adr.zero.b = false := rfl
      have HB4 := Lib.hid (HB3.out.trans (hB3.mono HB3.out.size))
      clear hB3
      go_wp2_with fail
      go_ret
      exact ⟨ret_bool (by simp), HB4.out⟩
end Go.Proofs.YtllkldbiagkbcaaDoor.returns
