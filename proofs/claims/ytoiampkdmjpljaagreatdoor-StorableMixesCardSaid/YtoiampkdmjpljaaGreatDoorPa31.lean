import Derived.Test.YtoiampkdmjpljaaGreatDoorPa30
/- What the reference's with returns, continued. -/
namespace Go.Proofs.YtoiampkdmjpljaaGreatDoor
open Go.RowKit

set_option maxHeartbeats 16000000 in
set_option maxRecDepth 100000 in
theorem with_no (d : Dv) (e nm ar : List UInt8) (fd : Bool) (hfb : fd = false) (hEq : EqAt e nm ar fd) (w : World) (hN : Nor d) (he : e.length ≤ 1000000) :
    Calls Tryz.prog 87 #[dvV d, .string (strB e)] w fun en w' => en = .returned (dvV (elemD d e)) ∧ Below w.heap.size w w' := by
  obtain ⟨hl1, hl2, hel, hfd, htk, hno, hyes, hend⟩ := hEq
  have hez : (strB e).size = e.length := strB_size e
  have HB := Lib.hid ((below_new w (.cells (dvC d) 64)).alloc (by simp) (.cells (dvC zD) 64))
  have HA := Lib.hid ((dvB_new w d 64).below (below_new _ (.cells (dvC zD) 64)))
  have hR := dvB_new (w.alloc (.cells (dvC d) 64)) zD 64
  have e1 : (w.alloc (.cells (dvC d) 64)).heap.size = w.heap.size + 1 := by simp
  rw [e1] at hR
  have HR := Lib.hid hR
  have hWz : ((w.alloc (.cells (dvC d) 64)).alloc (.cells (dvC zD) 64)).heap.size = w.heap.size + 2 := by simp
  have HEL := Lib.hid (hel d)
  have HL := Lib.hid (fun w => refLower_any (strB nm) w (by rw [strB_size]; omega))
  rw [strB_list] at HL
  have HS := Lib.hid (seg0 e nm.length)
  rw [htk] at HS
  have HX := Lib.hid (argX_of hfd)
  have HZ := Lib.hid (argZ_of hfd)
  have HY := Lib.hid hyes
  have HE0 := Lib.hid hend
  have HF := Lib.hid hfd
  have HNM := Lib.hid hN
  clear hR e1 hel hyes hend hfd hN
  go_enter Tryz.func87, Tryz.ntmps87
  go_upto_region 1 with fail
  change Code.wp _ _ _ _ ((w.alloc (.cells (dvC d) 64)).alloc (.cells (dvC zD) 64))
  generalize ((w.alloc (.cells (dvC d) 64)).alloc (.cells (dvC zD) 64)) = W at *
  go_wp2_with fail
  go_loopw [5] (fun i wr => (∃ k : Nat, i = .int .i64 k ∧ k ≤ nm.length) ∧ wr = W) (fun i _ => e.length + 1 - (intOf i).toNat)
  case atStart => exact ⟨⟨0, rfl, Nat.zero_le _⟩, rfl⟩
  case round =>
    obtain ⟨⟨k, rfl, hk⟩, hwr⟩ := hrel
    subst hwr
    by_cases hkn : k = nm.length
    · subst hkn
      cases fd with
      | false =>
        have hke : nm.length = e.length := HE0.out rfl
        have HAR := Lib.hid (HF.out rfl)
        have HKE := Lib.hid hke
        go_wp2_with fail
        rw [show (strB e).extract 0 e.length = strB nm by rw [← HKE.out]; exact HS.out]
        refine (HL.out _).mono ?_
        rintro en w1 ⟨rfl, hB1⟩
        have HB1 := Lib.hid (HB.out.trans (hB1.mono HB.out.size))
        have HA1 := Lib.hid (HA.out.below hB1)
        have HR1 := Lib.hid (HR.out.below hB1)
        clear hB1
        obtain ⟨m, hm⟩ : ∃ m, lowS nm = m := ⟨_, rfl⟩
        rw [hm] at HEL
        rw [hm]
        by_cases h0 : m = nNS
        · have s0 : ((strB m).toList == [110, 111, 45, 115, 116, 111, 114, 101]) = true := by rw [sw_any]; exact decide_eq_true h0
          have hE1 : elemD d e = putD d m none := HEL.out
          have hk : kindL m = 0 := by rw [h0]; decide
          have HE := Lib.hid (show elemD d e = { d with ns := true } by rw [hE1]; unfold putD; rw [hk]; rfl)
          clear hE1 hm h0 hk
          obtain ⟨a0, a1, a2, a3, a4, a5, a6, a7, a8, a9, a10, a11, fa, la⟩ := HA1.out
          obtain ⟨c0, c1, c2, c3, c4, c5, c6, c7, c8, c9, c10, c11, fr, lt⟩ := HR1.out
          have fj := fa 0
          go_wp2_with fail
          refine bodyPost_ret (v := dvV { d with ns := true }) (by simp [results, Tryz.results87, go_sem, c0, c1, c2, c3, c4, c5, c6, c7, c8, c9, c10, c11]) rfl ?_
          exact ⟨by first | (rw [HE.out]; rfl) | rw [HE.out], below_dv (HB1.out.setCell (p := ⟨w.heap.size, 0, none⟩) (Nat.le_refl _) _) (Nat.le_succ _) _ _ _ _ _ _ _ _ _ _ _ _⟩
        by_cases h1 : m = nNC
        · have s0 : ((strB m).toList == [110, 111, 45, 115, 116, 111, 114, 101]) = false := by rw [sw_any]; exact decide_eq_false h0
          have s1 : ((strB m).toList == [110, 111, 45, 99, 97, 99, 104, 101]) = true := by rw [sw_any]; exact decide_eq_true h1
          have hE1 : elemD d e = putD d m none := HEL.out
          have hk : kindL m = 1 := by rw [h1]; decide
          have HE := Lib.hid (show elemD d e = { d with nc := true } by rw [hE1]; unfold putD; rw [hk]; rfl)
          clear hE1 hm h0 h1 hk
          obtain ⟨a0, a1, a2, a3, a4, a5, a6, a7, a8, a9, a10, a11, fa, la⟩ := HA1.out
          obtain ⟨c0, c1, c2, c3, c4, c5, c6, c7, c8, c9, c10, c11, fr, lt⟩ := HR1.out
          have fj := fa 1
          go_wp2_with fail
          refine bodyPost_ret (v := dvV { d with nc := true }) (by simp [results, Tryz.results87, go_sem, c0, c1, c2, c3, c4, c5, c6, c7, c8, c9, c10, c11]) rfl ?_
          exact ⟨by first | (rw [HE.out]; rfl) | rw [HE.out], below_dv (HB1.out.setCell (p := ⟨w.heap.size, 1, none⟩) (Nat.le_refl _) _) (Nat.le_succ _) _ _ _ _ _ _ _ _ _ _ _ _⟩
        by_cases h2 : m = nPR
        · have s0 : ((strB m).toList == [110, 111, 45, 115, 116, 111, 114, 101]) = false := by rw [sw_any]; exact decide_eq_false h0
          have s1 : ((strB m).toList == [110, 111, 45, 99, 97, 99, 104, 101]) = false := by rw [sw_any]; exact decide_eq_false h1
          have s2 : ((strB m).toList == [112, 114, 105, 118, 97, 116, 101]) = true := by rw [sw_any]; exact decide_eq_true h2
          have hE1 : elemD d e = putD d m none := HEL.out
          have hk : kindL m = 2 := by rw [h2]; decide
          have HE := Lib.hid (show elemD d e = { d with pr := true } by rw [hE1]; unfold putD; rw [hk]; rfl)
          clear hE1 hm h0 h1 h2 hk
          obtain ⟨a0, a1, a2, a3, a4, a5, a6, a7, a8, a9, a10, a11, fa, la⟩ := HA1.out
          obtain ⟨c0, c1, c2, c3, c4, c5, c6, c7, c8, c9, c10, c11, fr, lt⟩ := HR1.out
          have fj := fa 2
          go_wp2_with fail
          refine bodyPost_ret (v := dvV { d with pr := true }) (by simp [results, Tryz.results87, go_sem, c0, c1, c2, c3, c4, c5, c6, c7, c8, c9, c10, c11]) rfl ?_
          exact ⟨by first | (rw [HE.out]; rfl) | rw [HE.out], below_dv (HB1.out.setCell (p := ⟨w.heap.size, 2, none⟩) (Nat.le_refl _) _) (Nat.le_succ _) _ _ _ _ _ _ _ _ _ _ _ _⟩
        by_cases h3 : m = nPU
        · have s0 : ((strB m).toList == [110, 111, 45, 115, 116, 111, 114, 101]) = false := by rw [sw_any]; exact decide_eq_false h0
          have s1 : ((strB m).toList == [110, 111, 45, 99, 97, 99, 104, 101]) = false := by rw [sw_any]; exact decide_eq_false h1
          have s2 : ((strB m).toList == [112, 114, 105, 118, 97, 116, 101]) = false := by rw [sw_any]; exact decide_eq_false h2
          have s3 : ((strB m).toList == [112, 117, 98, 108, 105, 99]) = true := by rw [sw_any]; exact decide_eq_true h3
          have hE1 : elemD d e = putD d m none := HEL.out
          have hk : kindL m = 3 := by rw [h3]; decide
          have HE := Lib.hid (show elemD d e = { d with pu := true } by rw [hE1]; unfold putD; rw [hk]; rfl)
          clear hE1 hm h0 h1 h2 h3 hk
          obtain ⟨a0, a1, a2, a3, a4, a5, a6, a7, a8, a9, a10, a11, fa, la⟩ := HA1.out
          obtain ⟨c0, c1, c2, c3, c4, c5, c6, c7, c8, c9, c10, c11, fr, lt⟩ := HR1.out
          have fj := fa 3
          go_wp2_with fail
          refine bodyPost_ret (v := dvV { d with pu := true }) (by simp [results, Tryz.results87, go_sem, c0, c1, c2, c3, c4, c5, c6, c7, c8, c9, c10, c11]) rfl ?_
          exact ⟨by first | (rw [HE.out]; rfl) | rw [HE.out], below_dv (HB1.out.setCell (p := ⟨w.heap.size, 3, none⟩) (Nat.le_refl _) _) (Nat.le_succ _) _ _ _ _ _ _ _ _ _ _ _ _⟩
        by_cases h4 : m = nMR
        · have s0 : ((strB m).toList == [110, 111, 45, 115, 116, 111, 114, 101]) = false := by rw [sw_any]; exact decide_eq_false h0
          have s1 : ((strB m).toList == [110, 111, 45, 99, 97, 99, 104, 101]) = false := by rw [sw_any]; exact decide_eq_false h1
          have s2 : ((strB m).toList == [112, 114, 105, 118, 97, 116, 101]) = false := by rw [sw_any]; exact decide_eq_false h2
          have s3 : ((strB m).toList == [112, 117, 98, 108, 105, 99]) = false := by rw [sw_any]; exact decide_eq_false h3
          have s4 : ((strB m).toList == [109, 117, 115, 116, 45, 114, 101, 118, 97, 108, 105, 100, 97, 116, 101]) = true := by rw [sw_any]; exact decide_eq_true h4
          have hE1 : elemD d e = putD d m none := HEL.out
          have hk : kindL m = 4 := by rw [h4]; decide
          have HE := Lib.hid (show elemD d e = { d with mr := true } by rw [hE1]; unfold putD; rw [hk]; rfl)
          clear hE1 hm h0 h1 h2 h3 h4 hk
          obtain ⟨a0, a1, a2, a3, a4, a5, a6, a7, a8, a9, a10, a11, fa, la⟩ := HA1.out
          obtain ⟨c0, c1, c2, c3, c4, c5, c6, c7, c8, c9, c10, c11, fr, lt⟩ := HR1.out
          have fj := fa 4
          go_wp2_with fail
          refine bodyPost_ret (v := dvV { d with mr := true }) (by simp [results, Tryz.results87, go_sem, c0, c1, c2, c3, c4, c5, c6, c7, c8, c9, c10, c11]) rfl ?_
          exact ⟨by first | (rw [HE.out]; rfl) | rw [HE.out], below_dv (HB1.out.setCell (p := ⟨w.heap.size, 4, none⟩) (Nat.le_refl _) _) (Nat.le_succ _) _ _ _ _ _ _ _ _ _ _ _ _⟩
        by_cases h5 : m = nPX
        · have s0 : ((strB m).toList == [110, 111, 45, 115, 116, 111, 114, 101]) = false := by rw [sw_any]; exact decide_eq_false h0
          have s1 : ((strB m).toList == [110, 111, 45, 99, 97, 99, 104, 101]) = false := by rw [sw_any]; exact decide_eq_false h1
          have s2 : ((strB m).toList == [112, 114, 105, 118, 97, 116, 101]) = false := by rw [sw_any]; exact decide_eq_false h2
          have s3 : ((strB m).toList == [112, 117, 98, 108, 105, 99]) = false := by rw [sw_any]; exact decide_eq_false h3
          have s4 : ((strB m).toList == [109, 117, 115, 116, 45, 114, 101, 118, 97, 108, 105, 100, 97, 116, 101]) = false := by rw [sw_any]; exact decide_eq_false h4
          have s5 : ((strB m).toList == [112, 114, 111, 120, 121, 45, 114, 101, 118, 97, 108, 105, 100, 97, 116, 101]) = true := by rw [sw_any]; exact decide_eq_true h5
          have hE1 : elemD d e = putD d m none := HEL.out
          have hk : kindL m = 4 := by rw [h5]; decide
          have HE := Lib.hid (show elemD d e = { d with mr := true } by rw [hE1]; unfold putD; rw [hk]; rfl)
          clear hE1 hm h0 h1 h2 h3 h4 h5 hk
          obtain ⟨a0, a1, a2, a3, a4, a5, a6, a7, a8, a9, a10, a11, fa, la⟩ := HA1.out
          obtain ⟨c0, c1, c2, c3, c4, c5, c6, c7, c8, c9, c10, c11, fr, lt⟩ := HR1.out
          have fj := fa 4
          go_wp2_with fail
          refine bodyPost_ret (v := dvV { d with mr := true }) (by simp [results, Tryz.results87, go_sem, c0, c1, c2, c3, c4, c5, c6, c7, c8, c9, c10, c11]) rfl ?_
          exact ⟨by first | (rw [HE.out]; rfl) | rw [HE.out], below_dv (HB1.out.setCell (p := ⟨w.heap.size, 4, none⟩) (Nat.le_refl _) _) (Nat.le_succ _) _ _ _ _ _ _ _ _ _ _ _ _⟩
        by_cases h6 : m = nOC
        · have s0 : ((strB m).toList == [110, 111, 45, 115, 116, 111, 114, 101]) = false := by rw [sw_any]; exact decide_eq_false h0
          have s1 : ((strB m).toList == [110, 111, 45, 99, 97, 99, 104, 101]) = false := by rw [sw_any]; exact decide_eq_false h1
          have s2 : ((strB m).toList == [112, 114, 105, 118, 97, 116, 101]) = false := by rw [sw_any]; exact decide_eq_false h2
          have s3 : ((strB m).toList == [112, 117, 98, 108, 105, 99]) = false := by rw [sw_any]; exact decide_eq_false h3
          have s4 : ((strB m).toList == [109, 117, 115, 116, 45, 114, 101, 118, 97, 108, 105, 100, 97, 116, 101]) = false := by rw [sw_any]; exact decide_eq_false h4
          have s5 : ((strB m).toList == [112, 114, 111, 120, 121, 45, 114, 101, 118, 97, 108, 105, 100, 97, 116, 101]) = false := by rw [sw_any]; exact decide_eq_false h5
          have s6 : ((strB m).toList == [111, 110, 108, 121, 45, 105, 102, 45, 99, 97, 99, 104, 101, 100]) = true := by rw [sw_any]; exact decide_eq_true h6
          have hE1 : elemD d e = putD d m none := HEL.out
          have hk : kindL m = 5 := by rw [h6]; decide
          have HE := Lib.hid (show elemD d e = { d with oc := true } by rw [hE1]; unfold putD; rw [hk]; rfl)
          clear hE1 hm h0 h1 h2 h3 h4 h5 h6 hk
          obtain ⟨a0, a1, a2, a3, a4, a5, a6, a7, a8, a9, a10, a11, fa, la⟩ := HA1.out
          obtain ⟨c0, c1, c2, c3, c4, c5, c6, c7, c8, c9, c10, c11, fr, lt⟩ := HR1.out
          have fj := fa 5
          go_wp2_with fail
          refine bodyPost_ret (v := dvV { d with oc := true }) (by simp [results, Tryz.results87, go_sem, c0, c1, c2, c3, c4, c5, c6, c7, c8, c9, c10, c11]) rfl ?_
          exact ⟨by first | (rw [HE.out]; rfl) | rw [HE.out], below_dv (HB1.out.setCell (p := ⟨w.heap.size, 5, none⟩) (Nat.le_refl _) _) (Nat.le_succ _) _ _ _ _ _ _ _ _ _ _ _ _⟩
        by_cases h7 : m = nMA
        · have s0 : ((strB m).toList == [110, 111, 45, 115, 116, 111, 114, 101]) = false := by rw [sw_any]; exact decide_eq_false h0
          have s1 : ((strB m).toList == [110, 111, 45, 99, 97, 99, 104, 101]) = false := by rw [sw_any]; exact decide_eq_false h1
          have s2 : ((strB m).toList == [112, 114, 105, 118, 97, 116, 101]) = false := by rw [sw_any]; exact decide_eq_false h2
          have s3 : ((strB m).toList == [112, 117, 98, 108, 105, 99]) = false := by rw [sw_any]; exact decide_eq_false h3
          have s4 : ((strB m).toList == [109, 117, 115, 116, 45, 114, 101, 118, 97, 108, 105, 100, 97, 116, 101]) = false := by rw [sw_any]; exact decide_eq_false h4
          have s5 : ((strB m).toList == [112, 114, 111, 120, 121, 45, 114, 101, 118, 97, 108, 105, 100, 97, 116, 101]) = false := by rw [sw_any]; exact decide_eq_false h5
          have s6 : ((strB m).toList == [111, 110, 108, 121, 45, 105, 102, 45, 99, 97, 99, 104, 101, 100]) = false := by rw [sw_any]; exact decide_eq_false h6
          have s7 : ((strB m).toList == [109, 97, 120, 45, 97, 103, 101]) = true := by rw [sw_any]; exact decide_eq_true h7
          have hE1 : elemD d e = putD d m none := HEL.out
          have hk : kindL m = 6 := by rw [h7]; decide
          have HE := Lib.hid (show elemD d e = { d with ma := leastD d.ma 0 } by rw [hE1]; unfold putD; rw [hk]; rfl)
          have hNb := HNM.out.ma
          clear hE1 hm h0 h1 h2 h3 h4 h5 h6 h7 hk
          obtain ⟨a0, a1, a2, a3, a4, a5, a6, a7, a8, a9, a10, a11, fa, la⟩ := HA1.out
          obtain ⟨c0, c1, c2, c3, c4, c5, c6, c7, c8, c9, c10, c11, fr, lt⟩ := HR1.out
          have fj := fa 6
          go_wp2_with fail
          refine (refLeast11_any d.ma 0 _ ⟨by omega, by omega⟩ ⟨by omega, by omega⟩).mono ?_
          rintro en w' ⟨rfl, rfl⟩
          go_wp2_with fail
          refine bodyPost_ret (v := dvV { d with ma := leastD d.ma 0 }) (by simp [results, Tryz.results87, go_sem, c0, c1, c2, c3, c4, c5, c6, c7, c8, c9, c10, c11]) rfl ?_
          exact ⟨by first | (rw [HE.out]; rfl) | rw [HE.out], below_dv (HB1.out.setCell (p := ⟨w.heap.size, 6, none⟩) (Nat.le_refl _) _) (Nat.le_succ _) _ _ _ _ _ _ _ _ _ _ _ _⟩
        by_cases h8 : m = nSA
        · have s0 : ((strB m).toList == [110, 111, 45, 115, 116, 111, 114, 101]) = false := by rw [sw_any]; exact decide_eq_false h0
          have s1 : ((strB m).toList == [110, 111, 45, 99, 97, 99, 104, 101]) = false := by rw [sw_any]; exact decide_eq_false h1
          have s2 : ((strB m).toList == [112, 114, 105, 118, 97, 116, 101]) = false := by rw [sw_any]; exact decide_eq_false h2
          have s3 : ((strB m).toList == [112, 117, 98, 108, 105, 99]) = false := by rw [sw_any]; exact decide_eq_false h3
          have s4 : ((strB m).toList == [109, 117, 115, 116, 45, 114, 101, 118, 97, 108, 105, 100, 97, 116, 101]) = false := by rw [sw_any]; exact decide_eq_false h4
          have s5 : ((strB m).toList == [112, 114, 111, 120, 121, 45, 114, 101, 118, 97, 108, 105, 100, 97, 116, 101]) = false := by rw [sw_any]; exact decide_eq_false h5
          have s6 : ((strB m).toList == [111, 110, 108, 121, 45, 105, 102, 45, 99, 97, 99, 104, 101, 100]) = false := by rw [sw_any]; exact decide_eq_false h6
          have s7 : ((strB m).toList == [109, 97, 120, 45, 97, 103, 101]) = false := by rw [sw_any]; exact decide_eq_false h7
          have s8 : ((strB m).toList == [115, 45, 109, 97, 120, 97, 103, 101]) = true := by rw [sw_any]; exact decide_eq_true h8
          have hE1 : elemD d e = putD d m none := HEL.out
          have hk : kindL m = 7 := by rw [h8]; decide
          have HE := Lib.hid (show elemD d e = { d with sa := leastD d.sa 0 } by rw [hE1]; unfold putD; rw [hk]; rfl)
          have hNb := HNM.out.sa
          clear hE1 hm h0 h1 h2 h3 h4 h5 h6 h7 h8 hk
          obtain ⟨a0, a1, a2, a3, a4, a5, a6, a7, a8, a9, a10, a11, fa, la⟩ := HA1.out
          obtain ⟨c0, c1, c2, c3, c4, c5, c6, c7, c8, c9, c10, c11, fr, lt⟩ := HR1.out
          have fj := fa 7
          go_wp2_with fail
          refine (refLeast11_any d.sa 0 _ ⟨by omega, by omega⟩ ⟨by omega, by omega⟩).mono ?_
          rintro en w' ⟨rfl, rfl⟩
          go_wp2_with fail
          refine bodyPost_ret (v := dvV { d with sa := leastD d.sa 0 }) (by simp [results, Tryz.results87, go_sem, c0, c1, c2, c3, c4, c5, c6, c7, c8, c9, c10, c11]) rfl ?_
          exact ⟨by first | (rw [HE.out]; rfl) | rw [HE.out], below_dv (HB1.out.setCell (p := ⟨w.heap.size, 7, none⟩) (Nat.le_refl _) _) (Nat.le_succ _) _ _ _ _ _ _ _ _ _ _ _ _⟩
        by_cases h9 : m = nWS
        · have s0 : ((strB m).toList == [110, 111, 45, 115, 116, 111, 114, 101]) = false := by rw [sw_any]; exact decide_eq_false h0
          have s1 : ((strB m).toList == [110, 111, 45, 99, 97, 99, 104, 101]) = false := by rw [sw_any]; exact decide_eq_false h1
          have s2 : ((strB m).toList == [112, 114, 105, 118, 97, 116, 101]) = false := by rw [sw_any]; exact decide_eq_false h2
          have s3 : ((strB m).toList == [112, 117, 98, 108, 105, 99]) = false := by rw [sw_any]; exact decide_eq_false h3
          have s4 : ((strB m).toList == [109, 117, 115, 116, 45, 114, 101, 118, 97, 108, 105, 100, 97, 116, 101]) = false := by rw [sw_any]; exact decide_eq_false h4
          have s5 : ((strB m).toList == [112, 114, 111, 120, 121, 45, 114, 101, 118, 97, 108, 105, 100, 97, 116, 101]) = false := by rw [sw_any]; exact decide_eq_false h5
          have s6 : ((strB m).toList == [111, 110, 108, 121, 45, 105, 102, 45, 99, 97, 99, 104, 101, 100]) = false := by rw [sw_any]; exact decide_eq_false h6
          have s7 : ((strB m).toList == [109, 97, 120, 45, 97, 103, 101]) = false := by rw [sw_any]; exact decide_eq_false h7
          have s8 : ((strB m).toList == [115, 45, 109, 97, 120, 97, 103, 101]) = false := by rw [sw_any]; exact decide_eq_false h8
          have s9 : ((strB m).toList == [115, 116, 97, 108, 101, 45, 119, 104, 105, 108, 101, 45, 114, 101, 118, 97, 108, 105, 100, 97, 116, 101]) = true := by rw [sw_any]; exact decide_eq_true h9
          have hE1 : elemD d e = putD d m none := HEL.out
          have hk : kindL m = 8 := by rw [h9]; decide
          have HE := Lib.hid (show elemD d e = { d with ws := leastD d.ws 0 } by rw [hE1]; unfold putD; rw [hk]; rfl)
          have hNb := HNM.out.ws
          clear hE1 hm h0 h1 h2 h3 h4 h5 h6 h7 h8 h9 hk
          obtain ⟨a0, a1, a2, a3, a4, a5, a6, a7, a8, a9, a10, a11, fa, la⟩ := HA1.out
          obtain ⟨c0, c1, c2, c3, c4, c5, c6, c7, c8, c9, c10, c11, fr, lt⟩ := HR1.out
          have fj := fa 8
          go_wp2_with fail
          refine (refLeast11_any d.ws 0 _ ⟨by omega, by omega⟩ ⟨by omega, by omega⟩).mono ?_
          rintro en w' ⟨rfl, rfl⟩
          go_wp2_with fail
          refine bodyPost_ret (v := dvV { d with ws := leastD d.ws 0 }) (by simp [results, Tryz.results87, go_sem, c0, c1, c2, c3, c4, c5, c6, c7, c8, c9, c10, c11]) rfl ?_
          exact ⟨by first | (rw [HE.out]; rfl) | rw [HE.out], below_dv (HB1.out.setCell (p := ⟨w.heap.size, 8, none⟩) (Nat.le_refl _) _) (Nat.le_succ _) _ _ _ _ _ _ _ _ _ _ _ _⟩
        by_cases h10 : m = nOE
        · have s0 : ((strB m).toList == [110, 111, 45, 115, 116, 111, 114, 101]) = false := by rw [sw_any]; exact decide_eq_false h0
          have s1 : ((strB m).toList == [110, 111, 45, 99, 97, 99, 104, 101]) = false := by rw [sw_any]; exact decide_eq_false h1
          have s2 : ((strB m).toList == [112, 114, 105, 118, 97, 116, 101]) = false := by rw [sw_any]; exact decide_eq_false h2
          have s3 : ((strB m).toList == [112, 117, 98, 108, 105, 99]) = false := by rw [sw_any]; exact decide_eq_false h3
          have s4 : ((strB m).toList == [109, 117, 115, 116, 45, 114, 101, 118, 97, 108, 105, 100, 97, 116, 101]) = false := by rw [sw_any]; exact decide_eq_false h4
          have s5 : ((strB m).toList == [112, 114, 111, 120, 121, 45, 114, 101, 118, 97, 108, 105, 100, 97, 116, 101]) = false := by rw [sw_any]; exact decide_eq_false h5
          have s6 : ((strB m).toList == [111, 110, 108, 121, 45, 105, 102, 45, 99, 97, 99, 104, 101, 100]) = false := by rw [sw_any]; exact decide_eq_false h6
          have s7 : ((strB m).toList == [109, 97, 120, 45, 97, 103, 101]) = false := by rw [sw_any]; exact decide_eq_false h7
          have s8 : ((strB m).toList == [115, 45, 109, 97, 120, 97, 103, 101]) = false := by rw [sw_any]; exact decide_eq_false h8
          have s9 : ((strB m).toList == [115, 116, 97, 108, 101, 45, 119, 104, 105, 108, 101, 45, 114, 101, 118, 97, 108, 105, 100, 97, 116, 101]) = false := by rw [sw_any]; exact decide_eq_false h9
          have s10 : ((strB m).toList == [115, 116, 97, 108, 101, 45, 105, 102, 45, 101, 114, 114, 111, 114]) = true := by rw [sw_any]; exact decide_eq_true h10
          have hE1 : elemD d e = putD d m none := HEL.out
          have hk : kindL m = 9 := by rw [h10]; decide
          have HE := Lib.hid (show elemD d e = { d with oe := leastD d.oe 0 } by rw [hE1]; unfold putD; rw [hk]; rfl)
          have hNb := HNM.out.oe
          clear hE1 hm h0 h1 h2 h3 h4 h5 h6 h7 h8 h9 h10 hk
          obtain ⟨a0, a1, a2, a3, a4, a5, a6, a7, a8, a9, a10, a11, fa, la⟩ := HA1.out
          obtain ⟨c0, c1, c2, c3, c4, c5, c6, c7, c8, c9, c10, c11, fr, lt⟩ := HR1.out
          have fj := fa 9
          go_wp2_with fail
          refine (refLeast11_any d.oe 0 _ ⟨by omega, by omega⟩ ⟨by omega, by omega⟩).mono ?_
          rintro en w' ⟨rfl, rfl⟩
          go_wp2_with fail
          refine bodyPost_ret (v := dvV { d with oe := leastD d.oe 0 }) (by simp [results, Tryz.results87, go_sem, c0, c1, c2, c3, c4, c5, c6, c7, c8, c9, c10, c11]) rfl ?_
          exact ⟨by first | (rw [HE.out]; rfl) | rw [HE.out], below_dv (HB1.out.setCell (p := ⟨w.heap.size, 9, none⟩) (Nat.le_refl _) _) (Nat.le_succ _) _ _ _ _ _ _ _ _ _ _ _ _⟩
        by_cases h11 : m = nMS
        · have s0 : ((strB m).toList == [110, 111, 45, 115, 116, 111, 114, 101]) = false := by rw [sw_any]; exact decide_eq_false h0
          have s1 : ((strB m).toList == [110, 111, 45, 99, 97, 99, 104, 101]) = false := by rw [sw_any]; exact decide_eq_false h1
          have s2 : ((strB m).toList == [112, 114, 105, 118, 97, 116, 101]) = false := by rw [sw_any]; exact decide_eq_false h2
          have s3 : ((strB m).toList == [112, 117, 98, 108, 105, 99]) = false := by rw [sw_any]; exact decide_eq_false h3
          have s4 : ((strB m).toList == [109, 117, 115, 116, 45, 114, 101, 118, 97, 108, 105, 100, 97, 116, 101]) = false := by rw [sw_any]; exact decide_eq_false h4
          have s5 : ((strB m).toList == [112, 114, 111, 120, 121, 45, 114, 101, 118, 97, 108, 105, 100, 97, 116, 101]) = false := by rw [sw_any]; exact decide_eq_false h5
          have s6 : ((strB m).toList == [111, 110, 108, 121, 45, 105, 102, 45, 99, 97, 99, 104, 101, 100]) = false := by rw [sw_any]; exact decide_eq_false h6
          have s7 : ((strB m).toList == [109, 97, 120, 45, 97, 103, 101]) = false := by rw [sw_any]; exact decide_eq_false h7
          have s8 : ((strB m).toList == [115, 45, 109, 97, 120, 97, 103, 101]) = false := by rw [sw_any]; exact decide_eq_false h8
          have s9 : ((strB m).toList == [115, 116, 97, 108, 101, 45, 119, 104, 105, 108, 101, 45, 114, 101, 118, 97, 108, 105, 100, 97, 116, 101]) = false := by rw [sw_any]; exact decide_eq_false h9
          have s10 : ((strB m).toList == [115, 116, 97, 108, 101, 45, 105, 102, 45, 101, 114, 114, 111, 114]) = false := by rw [sw_any]; exact decide_eq_false h10
          have s11 : ((strB m).toList == [109, 97, 120, 45, 115, 116, 97, 108, 101]) = true := by rw [sw_any]; exact decide_eq_true h11
          have hE1 : elemD d e = putD d m none := HEL.out
          have hk : kindL m = 10 := by rw [h11]; decide
          have HE := Lib.hid (show elemD d e = { d with ms := leastD d.ms 2147483647 } by rw [hE1]; unfold putD; rw [hk]; rfl)
          have hNb := HNM.out.ms
          clear hE1 hm h0 h1 h2 h3 h4 h5 h6 h7 h8 h9 h10 h11 hk
          obtain ⟨a0, a1, a2, a3, a4, a5, a6, a7, a8, a9, a10, a11, fa, la⟩ := HA1.out
          obtain ⟨c0, c1, c2, c3, c4, c5, c6, c7, c8, c9, c10, c11, fr, lt⟩ := HR1.out
          have fj := fa 10
          go_wp2_with fail
          refine (refLeast11_any d.ms 2147483647 _ ⟨by omega, by omega⟩ ⟨by omega, by omega⟩).mono ?_
          rintro en w' ⟨rfl, rfl⟩
          go_wp2_with fail
          refine bodyPost_ret (v := dvV { d with ms := leastD d.ms 2147483647 }) (by simp [results, Tryz.results87, go_sem, c0, c1, c2, c3, c4, c5, c6, c7, c8, c9, c10, c11]) rfl ?_
          exact ⟨by first | (rw [HE.out]; rfl) | rw [HE.out], below_dv (HB1.out.setCell (p := ⟨w.heap.size, 10, none⟩) (Nat.le_refl _) _) (Nat.le_succ _) _ _ _ _ _ _ _ _ _ _ _ _⟩
        by_cases h12 : m = nMF
        · have s0 : ((strB m).toList == [110, 111, 45, 115, 116, 111, 114, 101]) = false := by rw [sw_any]; exact decide_eq_false h0
          have s1 : ((strB m).toList == [110, 111, 45, 99, 97, 99, 104, 101]) = false := by rw [sw_any]; exact decide_eq_false h1
          have s2 : ((strB m).toList == [112, 114, 105, 118, 97, 116, 101]) = false := by rw [sw_any]; exact decide_eq_false h2
          have s3 : ((strB m).toList == [112, 117, 98, 108, 105, 99]) = false := by rw [sw_any]; exact decide_eq_false h3
          have s4 : ((strB m).toList == [109, 117, 115, 116, 45, 114, 101, 118, 97, 108, 105, 100, 97, 116, 101]) = false := by rw [sw_any]; exact decide_eq_false h4
          have s5 : ((strB m).toList == [112, 114, 111, 120, 121, 45, 114, 101, 118, 97, 108, 105, 100, 97, 116, 101]) = false := by rw [sw_any]; exact decide_eq_false h5
          have s6 : ((strB m).toList == [111, 110, 108, 121, 45, 105, 102, 45, 99, 97, 99, 104, 101, 100]) = false := by rw [sw_any]; exact decide_eq_false h6
          have s7 : ((strB m).toList == [109, 97, 120, 45, 97, 103, 101]) = false := by rw [sw_any]; exact decide_eq_false h7
          have s8 : ((strB m).toList == [115, 45, 109, 97, 120, 97, 103, 101]) = false := by rw [sw_any]; exact decide_eq_false h8
          have s9 : ((strB m).toList == [115, 116, 97, 108, 101, 45, 119, 104, 105, 108, 101, 45, 114, 101, 118, 97, 108, 105, 100, 97, 116, 101]) = false := by rw [sw_any]; exact decide_eq_false h9
          have s10 : ((strB m).toList == [115, 116, 97, 108, 101, 45, 105, 102, 45, 101, 114, 114, 111, 114]) = false := by rw [sw_any]; exact decide_eq_false h10
          have s11 : ((strB m).toList == [109, 97, 120, 45, 115, 116, 97, 108, 101]) = false := by rw [sw_any]; exact decide_eq_false h11
          have s12 : ((strB m).toList == [109, 105, 110, 45, 102, 114, 101, 115, 104]) = true := by rw [sw_any]; exact decide_eq_true h12
          have hE1 : elemD d e = putD d m none := HEL.out
          have hk : kindL m = 11 := by rw [h12]; decide
          have HE := Lib.hid (show elemD d e = { d with mf := max d.mf 2147483647 } by rw [hE1]; unfold putD; rw [hk]; rfl)
          have hNb := HNM.out.mf
          clear hE1 hm h0 h1 h2 h3 h4 h5 h6 h7 h8 h9 h10 h11 h12 hk
          obtain ⟨a0, a1, a2, a3, a4, a5, a6, a7, a8, a9, a10, a11, fa, la⟩ := HA1.out
          obtain ⟨c0, c1, c2, c3, c4, c5, c6, c7, c8, c9, c10, c11, fr, lt⟩ := HR1.out
          have fj := fa 11
          go_wp2_with fail
          refine bodyPost_ret (v := dvV { d with mf := max d.mf 2147483647 }) (by simp [results, Tryz.results87, go_sem, c0, c1, c2, c3, c4, c5, c6, c7, c8, c9, c10, c11]) rfl ?_
          exact ⟨by first | (rw [HE.out]; rfl) | rw [HE.out], below_dv (HB1.out.setCell (p := ⟨w.heap.size, 11, none⟩) (Nat.le_refl _) _) (Nat.le_succ _) _ _ _ _ _ _ _ _ _ _ _ _⟩
        have s0 : ((strB m).toList == [110, 111, 45, 115, 116, 111, 114, 101]) = false := by rw [sw_any]; exact decide_eq_false h0
        have s1 : ((strB m).toList == [110, 111, 45, 99, 97, 99, 104, 101]) = false := by rw [sw_any]; exact decide_eq_false h1
        have s2 : ((strB m).toList == [112, 114, 105, 118, 97, 116, 101]) = false := by rw [sw_any]; exact decide_eq_false h2
        have s3 : ((strB m).toList == [112, 117, 98, 108, 105, 99]) = false := by rw [sw_any]; exact decide_eq_false h3
        have s4 : ((strB m).toList == [109, 117, 115, 116, 45, 114, 101, 118, 97, 108, 105, 100, 97, 116, 101]) = false := by rw [sw_any]; exact decide_eq_false h4
        have s5 : ((strB m).toList == [112, 114, 111, 120, 121, 45, 114, 101, 118, 97, 108, 105, 100, 97, 116, 101]) = false := by rw [sw_any]; exact decide_eq_false h5
        have s6 : ((strB m).toList == [111, 110, 108, 121, 45, 105, 102, 45, 99, 97, 99, 104, 101, 100]) = false := by rw [sw_any]; exact decide_eq_false h6
        have s7 : ((strB m).toList == [109, 97, 120, 45, 97, 103, 101]) = false := by rw [sw_any]; exact decide_eq_false h7
        have s8 : ((strB m).toList == [115, 45, 109, 97, 120, 97, 103, 101]) = false := by rw [sw_any]; exact decide_eq_false h8
        have s9 : ((strB m).toList == [115, 116, 97, 108, 101, 45, 119, 104, 105, 108, 101, 45, 114, 101, 118, 97, 108, 105, 100, 97, 116, 101]) = false := by rw [sw_any]; exact decide_eq_false h9
        have s10 : ((strB m).toList == [115, 116, 97, 108, 101, 45, 105, 102, 45, 101, 114, 114, 111, 114]) = false := by rw [sw_any]; exact decide_eq_false h10
        have s11 : ((strB m).toList == [109, 97, 120, 45, 115, 116, 97, 108, 101]) = false := by rw [sw_any]; exact decide_eq_false h11
        have s12 : ((strB m).toList == [109, 105, 110, 45, 102, 114, 101, 115, 104]) = false := by rw [sw_any]; exact decide_eq_false h12
        have hE1 : elemD d e = putD d m none := HEL.out
        have HE := Lib.hid (show elemD d e = d by rw [hE1]; unfold putD; rw [kind_big h0 h1 h2 h3 h4 h5 h6 h7 h8 h9 h10 h11 h12]; rfl)
        clear hE1 hm h0 h1 h2 h3 h4 h5 h6 h7 h8 h9 h10 h11 h12
        obtain ⟨a0, a1, a2, a3, a4, a5, a6, a7, a8, a9, a10, a11, fa, la⟩ := HA1.out
        obtain ⟨c0, c1, c2, c3, c4, c5, c6, c7, c8, c9, c10, c11, fr, lt⟩ := HR1.out
        go_wp2_with fail
        refine bodyPost_ret (v := dvV d) (by simp [results, Tryz.results87, go_sem, c0, c1, c2, c3, c4, c5, c6, c7, c8, c9, c10, c11]) rfl ?_
        exact ⟨by first | (rw [HE.out]; rfl) | rw [HE.out], below_dv HB1.out (Nat.le_succ _) _ _ _ _ _ _ _ _ _ _ _ _⟩
      | true =>
        obtain ⟨h1, h2, h3⟩ := HY.out rfl
        have hg : (strB e)[nm.length]'(by omega) = 61 := by
          rw [List.getElem?_eq_getElem h1, Option.some.injEq] at h2
          exact h2
        have hg2 : (((strB e)[nm.length]'(by omega)).toNat : Int) = 61 := by rw [hg]; rfl
        have HT := Lib.hid (segTo e (nm.length + 1))
        rw [h3] at HT
        clear h2 h3 hg
        cases hfb
    · have hkl : k < nm.length := by omega
      have hke : k < e.length := by omega
      have hg : (strB e)[k]'(by omega) ≠ 61 := by
        intro h
        have h2 : e[k]? = some 61 := by rw [List.getElem?_eq_getElem hke]; exact congrArg some h
        have h3 : nm[k]? = some 61 := by rw [← htk, List.getElem?_take_of_lt hkl]; exact h2
        exact hno (List.mem_of_getElem? h3)
      have hgn : ¬ (((strB e)[k]'(by omega)).toNat : Int) = 61 := fun h => hg (UInt8.toNat_inj.mp (by show _ = 61; omega))
      clear hg
      go_wp2_with fail
      go_roundw
      case rel => exact ⟨⟨k + 1, by go_num, by omega⟩, by first | rfl | trivial⟩
      case measure => simp [intOf]; omega
end Go.Proofs.YtoiampkdmjpljaaGreatDoor

/- What the reference's with returns, continued. -/
namespace Go.Proofs.YtoiampkdmjpljaaGreatDoor
open Go.RowKit

set_option maxHeartbeats 16000000 in
set_option maxRecDepth 100000 in
theorem with_yes (d : Dv) (e nm ar : List UInt8) (fd : Bool) (hfb : fd = true) (hEq : EqAt e nm ar fd) (w : World) (hN : Nor d) (he : e.length ≤ 1000000) :
    Calls Tryz.prog 87 #[dvV d, .string (strB e)] w fun en w' => en = .returned (dvV (elemD d e)) ∧ Below w.heap.size w w' := by
  obtain ⟨hl1, hl2, hel, hfd, htk, hno, hyes, hend⟩ := hEq
  have hez : (strB e).size = e.length := strB_size e
  have HB := Lib.hid ((below_new w (.cells (dvC d) 64)).alloc (by simp) (.cells (dvC zD) 64))
  have HA := Lib.hid ((dvB_new w d 64).below (below_new _ (.cells (dvC zD) 64)))
  have hR := dvB_new (w.alloc (.cells (dvC d) 64)) zD 64
  have e1 : (w.alloc (.cells (dvC d) 64)).heap.size = w.heap.size + 1 := by simp
  rw [e1] at hR
  have HR := Lib.hid hR
  have hWz : ((w.alloc (.cells (dvC d) 64)).alloc (.cells (dvC zD) 64)).heap.size = w.heap.size + 2 := by simp
  have HEL := Lib.hid (hel d)
  have HL := Lib.hid (fun w => refLower_any (strB nm) w (by rw [strB_size]; omega))
  rw [strB_list] at HL
  have HS := Lib.hid (seg0 e nm.length)
  rw [htk] at HS
  have HX := Lib.hid (argX_of hfd)
  have HZ := Lib.hid (argZ_of hfd)
  have HY := Lib.hid hyes
  have HE0 := Lib.hid hend
  have HF := Lib.hid hfd
  have HNM := Lib.hid hN
  clear hR e1 hel hyes hend hfd hN
  go_enter Tryz.func87, Tryz.ntmps87
  go_upto_region 1 with fail
  change Code.wp _ _ _ _ ((w.alloc (.cells (dvC d) 64)).alloc (.cells (dvC zD) 64))
  generalize ((w.alloc (.cells (dvC d) 64)).alloc (.cells (dvC zD) 64)) = W at *
  go_wp2_with fail
  go_loopw [5] (fun i wr => (∃ k : Nat, i = .int .i64 k ∧ k ≤ nm.length) ∧ wr = W) (fun i _ => e.length + 1 - (intOf i).toNat)
  case atStart => exact ⟨⟨0, rfl, Nat.zero_le _⟩, rfl⟩
  case round =>
    obtain ⟨⟨k, rfl, hk⟩, hwr⟩ := hrel
    subst hwr
    by_cases hkn : k = nm.length
    · subst hkn
      cases fd with
      | false =>
        have hke : nm.length = e.length := HE0.out rfl
        have HAR := Lib.hid (HF.out rfl)
        have HKE := Lib.hid hke
        cases hfb
      | true =>
        obtain ⟨h1, h2, h3⟩ := HY.out rfl
        have hg : (strB e)[nm.length]'(by omega) = 61 := by
          rw [List.getElem?_eq_getElem h1, Option.some.injEq] at h2
          exact h2
        have hg2 : (((strB e)[nm.length]'(by omega)).toNat : Int) = 61 := by rw [hg]; rfl
        have HT := Lib.hid (segTo e (nm.length + 1))
        rw [h3] at HT
        clear h2 h3 hg
        go_wp2_with fail
        rw [HS.out]
        refine (HL.out _).mono ?_
        rintro en w1 ⟨rfl, hB1⟩
        have HB1 := Lib.hid (HB.out.trans (hB1.mono HB.out.size))
        have HA1 := Lib.hid (HA.out.below hB1)
        have HR1 := Lib.hid (HR.out.below hB1)
        clear hB1
        obtain ⟨m, hm⟩ : ∃ m, lowS nm = m := ⟨_, rfl⟩
        rw [hm] at HEL
        rw [hm]
        go_wp2_with fail
        rw [HT.out]
        obtain ⟨ok, z0, hnr, hx1, hy1, hz1, hzo, hsx⟩ := num_ex ar
        have HX1 := Lib.hid hx1
        have HY1 := Lib.hid hy1
        have HZM := Lib.hid hz1
        have HZ0 := Lib.hid hzo
        have HNR := Lib.hid hnr
        clear hx1 hy1 hz1 hzo hnr
        refine (refNum11_any ar _ (by omega)).mono ?_
        rintro en w' ⟨hen, rfl⟩
        rw [HNR.out] at hen
        subst hen
        go_upto_if 40 with fail
        go_cut [8] (fun u8 wx => u8 = .int .i64 z0 ∧ wx = w1)
        case first =>
          cases ok with
          | true =>
            try simp only [Bool.not_true]
            go_wp2_with fail
            go_meet
            exact ⟨rfl, rfl⟩
          | false =>
            have hzz : z0 = 0 := HZ0.out rfl
            have HZZ := Lib.hid hzz
            clear hzz
            try simp only [Bool.not_false]
            go_wp2_with fail
            go_meet
            exact ⟨by rw [HZZ.out], rfl⟩
        case rest =>
          obtain ⟨rfl, rfl⟩ := hcut
          by_cases h0 : m = nNS
          · have s0 : ((strB m).toList == [110, 111, 45, 115, 116, 111, 114, 101]) = true := by rw [sw_any]; exact decide_eq_true h0
            have hE1 : elemD d e = putD d m (some ar) := HEL.out
            have hk : kindL m = 0 := by rw [h0]; decide
            have HE := Lib.hid (show elemD d e = { d with ns := true } by rw [hE1]; unfold putD; rw [hk]; rfl)
            clear hE1 hm h0 hk
            obtain ⟨a0, a1, a2, a3, a4, a5, a6, a7, a8, a9, a10, a11, fa, la⟩ := HA1.out
            obtain ⟨c0, c1, c2, c3, c4, c5, c6, c7, c8, c9, c10, c11, fr, lt⟩ := HR1.out
            have fj := fa 0
            go_wp2_with fail
            try simp only [Exit.inBlock, Exit.then]
            refine bodyPost_ret (v := dvV { d with ns := true }) (by simp [results, Tryz.results87, go_sem, c0, c1, c2, c3, c4, c5, c6, c7, c8, c9, c10, c11]) rfl ?_
            exact ⟨by first | (rw [HE.out]; rfl) | rw [HE.out], below_dv (HB1.out.setCell (p := ⟨w.heap.size, 0, none⟩) (Nat.le_refl _) _) (Nat.le_succ _) _ _ _ _ _ _ _ _ _ _ _ _⟩
          by_cases h1 : m = nNC
          · have s0 : ((strB m).toList == [110, 111, 45, 115, 116, 111, 114, 101]) = false := by rw [sw_any]; exact decide_eq_false h0
            have s1 : ((strB m).toList == [110, 111, 45, 99, 97, 99, 104, 101]) = true := by rw [sw_any]; exact decide_eq_true h1
            have hE1 : elemD d e = putD d m (some ar) := HEL.out
            have hk : kindL m = 1 := by rw [h1]; decide
            have HE := Lib.hid (show elemD d e = { d with nc := true } by rw [hE1]; unfold putD; rw [hk]; rfl)
            clear hE1 hm h0 h1 hk
            obtain ⟨a0, a1, a2, a3, a4, a5, a6, a7, a8, a9, a10, a11, fa, la⟩ := HA1.out
            obtain ⟨c0, c1, c2, c3, c4, c5, c6, c7, c8, c9, c10, c11, fr, lt⟩ := HR1.out
            have fj := fa 1
            go_wp2_with fail
            try simp only [Exit.inBlock, Exit.then]
            refine bodyPost_ret (v := dvV { d with nc := true }) (by simp [results, Tryz.results87, go_sem, c0, c1, c2, c3, c4, c5, c6, c7, c8, c9, c10, c11]) rfl ?_
            exact ⟨by first | (rw [HE.out]; rfl) | rw [HE.out], below_dv (HB1.out.setCell (p := ⟨w.heap.size, 1, none⟩) (Nat.le_refl _) _) (Nat.le_succ _) _ _ _ _ _ _ _ _ _ _ _ _⟩
          by_cases h2 : m = nPR
          · have s0 : ((strB m).toList == [110, 111, 45, 115, 116, 111, 114, 101]) = false := by rw [sw_any]; exact decide_eq_false h0
            have s1 : ((strB m).toList == [110, 111, 45, 99, 97, 99, 104, 101]) = false := by rw [sw_any]; exact decide_eq_false h1
            have s2 : ((strB m).toList == [112, 114, 105, 118, 97, 116, 101]) = true := by rw [sw_any]; exact decide_eq_true h2
            have hE1 : elemD d e = putD d m (some ar) := HEL.out
            have hk : kindL m = 2 := by rw [h2]; decide
            have HE := Lib.hid (show elemD d e = { d with pr := true } by rw [hE1]; unfold putD; rw [hk]; rfl)
            clear hE1 hm h0 h1 h2 hk
            obtain ⟨a0, a1, a2, a3, a4, a5, a6, a7, a8, a9, a10, a11, fa, la⟩ := HA1.out
            obtain ⟨c0, c1, c2, c3, c4, c5, c6, c7, c8, c9, c10, c11, fr, lt⟩ := HR1.out
            have fj := fa 2
            go_wp2_with fail
            try simp only [Exit.inBlock, Exit.then]
            refine bodyPost_ret (v := dvV { d with pr := true }) (by simp [results, Tryz.results87, go_sem, c0, c1, c2, c3, c4, c5, c6, c7, c8, c9, c10, c11]) rfl ?_
            exact ⟨by first | (rw [HE.out]; rfl) | rw [HE.out], below_dv (HB1.out.setCell (p := ⟨w.heap.size, 2, none⟩) (Nat.le_refl _) _) (Nat.le_succ _) _ _ _ _ _ _ _ _ _ _ _ _⟩
          by_cases h3 : m = nPU
          · have s0 : ((strB m).toList == [110, 111, 45, 115, 116, 111, 114, 101]) = false := by rw [sw_any]; exact decide_eq_false h0
            have s1 : ((strB m).toList == [110, 111, 45, 99, 97, 99, 104, 101]) = false := by rw [sw_any]; exact decide_eq_false h1
            have s2 : ((strB m).toList == [112, 114, 105, 118, 97, 116, 101]) = false := by rw [sw_any]; exact decide_eq_false h2
            have s3 : ((strB m).toList == [112, 117, 98, 108, 105, 99]) = true := by rw [sw_any]; exact decide_eq_true h3
            have hE1 : elemD d e = putD d m (some ar) := HEL.out
            have hk : kindL m = 3 := by rw [h3]; decide
            have HE := Lib.hid (show elemD d e = { d with pu := true } by rw [hE1]; unfold putD; rw [hk]; rfl)
            clear hE1 hm h0 h1 h2 h3 hk
            obtain ⟨a0, a1, a2, a3, a4, a5, a6, a7, a8, a9, a10, a11, fa, la⟩ := HA1.out
            obtain ⟨c0, c1, c2, c3, c4, c5, c6, c7, c8, c9, c10, c11, fr, lt⟩ := HR1.out
            have fj := fa 3
            go_wp2_with fail
            try simp only [Exit.inBlock, Exit.then]
            refine bodyPost_ret (v := dvV { d with pu := true }) (by simp [results, Tryz.results87, go_sem, c0, c1, c2, c3, c4, c5, c6, c7, c8, c9, c10, c11]) rfl ?_
            exact ⟨by first | (rw [HE.out]; rfl) | rw [HE.out], below_dv (HB1.out.setCell (p := ⟨w.heap.size, 3, none⟩) (Nat.le_refl _) _) (Nat.le_succ _) _ _ _ _ _ _ _ _ _ _ _ _⟩
          by_cases h4 : m = nMR
          · have s0 : ((strB m).toList == [110, 111, 45, 115, 116, 111, 114, 101]) = false := by rw [sw_any]; exact decide_eq_false h0
            have s1 : ((strB m).toList == [110, 111, 45, 99, 97, 99, 104, 101]) = false := by rw [sw_any]; exact decide_eq_false h1
            have s2 : ((strB m).toList == [112, 114, 105, 118, 97, 116, 101]) = false := by rw [sw_any]; exact decide_eq_false h2
            have s3 : ((strB m).toList == [112, 117, 98, 108, 105, 99]) = false := by rw [sw_any]; exact decide_eq_false h3
            have s4 : ((strB m).toList == [109, 117, 115, 116, 45, 114, 101, 118, 97, 108, 105, 100, 97, 116, 101]) = true := by rw [sw_any]; exact decide_eq_true h4
            have hE1 : elemD d e = putD d m (some ar) := HEL.out
            have hk : kindL m = 4 := by rw [h4]; decide
            have HE := Lib.hid (show elemD d e = { d with mr := true } by rw [hE1]; unfold putD; rw [hk]; rfl)
            clear hE1 hm h0 h1 h2 h3 h4 hk
            obtain ⟨a0, a1, a2, a3, a4, a5, a6, a7, a8, a9, a10, a11, fa, la⟩ := HA1.out
            obtain ⟨c0, c1, c2, c3, c4, c5, c6, c7, c8, c9, c10, c11, fr, lt⟩ := HR1.out
            have fj := fa 4
            go_wp2_with fail
            try simp only [Exit.inBlock, Exit.then]
            refine bodyPost_ret (v := dvV { d with mr := true }) (by simp [results, Tryz.results87, go_sem, c0, c1, c2, c3, c4, c5, c6, c7, c8, c9, c10, c11]) rfl ?_
            exact ⟨by first | (rw [HE.out]; rfl) | rw [HE.out], below_dv (HB1.out.setCell (p := ⟨w.heap.size, 4, none⟩) (Nat.le_refl _) _) (Nat.le_succ _) _ _ _ _ _ _ _ _ _ _ _ _⟩
          by_cases h5 : m = nPX
          · have s0 : ((strB m).toList == [110, 111, 45, 115, 116, 111, 114, 101]) = false := by rw [sw_any]; exact decide_eq_false h0
            have s1 : ((strB m).toList == [110, 111, 45, 99, 97, 99, 104, 101]) = false := by rw [sw_any]; exact decide_eq_false h1
            have s2 : ((strB m).toList == [112, 114, 105, 118, 97, 116, 101]) = false := by rw [sw_any]; exact decide_eq_false h2
            have s3 : ((strB m).toList == [112, 117, 98, 108, 105, 99]) = false := by rw [sw_any]; exact decide_eq_false h3
            have s4 : ((strB m).toList == [109, 117, 115, 116, 45, 114, 101, 118, 97, 108, 105, 100, 97, 116, 101]) = false := by rw [sw_any]; exact decide_eq_false h4
            have s5 : ((strB m).toList == [112, 114, 111, 120, 121, 45, 114, 101, 118, 97, 108, 105, 100, 97, 116, 101]) = true := by rw [sw_any]; exact decide_eq_true h5
            have hE1 : elemD d e = putD d m (some ar) := HEL.out
            have hk : kindL m = 4 := by rw [h5]; decide
            have HE := Lib.hid (show elemD d e = { d with mr := true } by rw [hE1]; unfold putD; rw [hk]; rfl)
            clear hE1 hm h0 h1 h2 h3 h4 h5 hk
            obtain ⟨a0, a1, a2, a3, a4, a5, a6, a7, a8, a9, a10, a11, fa, la⟩ := HA1.out
            obtain ⟨c0, c1, c2, c3, c4, c5, c6, c7, c8, c9, c10, c11, fr, lt⟩ := HR1.out
            have fj := fa 4
            go_wp2_with fail
            try simp only [Exit.inBlock, Exit.then]
            refine bodyPost_ret (v := dvV { d with mr := true }) (by simp [results, Tryz.results87, go_sem, c0, c1, c2, c3, c4, c5, c6, c7, c8, c9, c10, c11]) rfl ?_
            exact ⟨by first | (rw [HE.out]; rfl) | rw [HE.out], below_dv (HB1.out.setCell (p := ⟨w.heap.size, 4, none⟩) (Nat.le_refl _) _) (Nat.le_succ _) _ _ _ _ _ _ _ _ _ _ _ _⟩
          by_cases h6 : m = nOC
          · have s0 : ((strB m).toList == [110, 111, 45, 115, 116, 111, 114, 101]) = false := by rw [sw_any]; exact decide_eq_false h0
            have s1 : ((strB m).toList == [110, 111, 45, 99, 97, 99, 104, 101]) = false := by rw [sw_any]; exact decide_eq_false h1
            have s2 : ((strB m).toList == [112, 114, 105, 118, 97, 116, 101]) = false := by rw [sw_any]; exact decide_eq_false h2
            have s3 : ((strB m).toList == [112, 117, 98, 108, 105, 99]) = false := by rw [sw_any]; exact decide_eq_false h3
            have s4 : ((strB m).toList == [109, 117, 115, 116, 45, 114, 101, 118, 97, 108, 105, 100, 97, 116, 101]) = false := by rw [sw_any]; exact decide_eq_false h4
            have s5 : ((strB m).toList == [112, 114, 111, 120, 121, 45, 114, 101, 118, 97, 108, 105, 100, 97, 116, 101]) = false := by rw [sw_any]; exact decide_eq_false h5
            have s6 : ((strB m).toList == [111, 110, 108, 121, 45, 105, 102, 45, 99, 97, 99, 104, 101, 100]) = true := by rw [sw_any]; exact decide_eq_true h6
            have hE1 : elemD d e = putD d m (some ar) := HEL.out
            have hk : kindL m = 5 := by rw [h6]; decide
            have HE := Lib.hid (show elemD d e = { d with oc := true } by rw [hE1]; unfold putD; rw [hk]; rfl)
            clear hE1 hm h0 h1 h2 h3 h4 h5 h6 hk
            obtain ⟨a0, a1, a2, a3, a4, a5, a6, a7, a8, a9, a10, a11, fa, la⟩ := HA1.out
            obtain ⟨c0, c1, c2, c3, c4, c5, c6, c7, c8, c9, c10, c11, fr, lt⟩ := HR1.out
            have fj := fa 5
            go_wp2_with fail
            try simp only [Exit.inBlock, Exit.then]
            refine bodyPost_ret (v := dvV { d with oc := true }) (by simp [results, Tryz.results87, go_sem, c0, c1, c2, c3, c4, c5, c6, c7, c8, c9, c10, c11]) rfl ?_
            exact ⟨by first | (rw [HE.out]; rfl) | rw [HE.out], below_dv (HB1.out.setCell (p := ⟨w.heap.size, 5, none⟩) (Nat.le_refl _) _) (Nat.le_succ _) _ _ _ _ _ _ _ _ _ _ _ _⟩
          by_cases h7 : m = nMA
          · have s0 : ((strB m).toList == [110, 111, 45, 115, 116, 111, 114, 101]) = false := by rw [sw_any]; exact decide_eq_false h0
            have s1 : ((strB m).toList == [110, 111, 45, 99, 97, 99, 104, 101]) = false := by rw [sw_any]; exact decide_eq_false h1
            have s2 : ((strB m).toList == [112, 114, 105, 118, 97, 116, 101]) = false := by rw [sw_any]; exact decide_eq_false h2
            have s3 : ((strB m).toList == [112, 117, 98, 108, 105, 99]) = false := by rw [sw_any]; exact decide_eq_false h3
            have s4 : ((strB m).toList == [109, 117, 115, 116, 45, 114, 101, 118, 97, 108, 105, 100, 97, 116, 101]) = false := by rw [sw_any]; exact decide_eq_false h4
            have s5 : ((strB m).toList == [112, 114, 111, 120, 121, 45, 114, 101, 118, 97, 108, 105, 100, 97, 116, 101]) = false := by rw [sw_any]; exact decide_eq_false h5
            have s6 : ((strB m).toList == [111, 110, 108, 121, 45, 105, 102, 45, 99, 97, 99, 104, 101, 100]) = false := by rw [sw_any]; exact decide_eq_false h6
            have s7 : ((strB m).toList == [109, 97, 120, 45, 97, 103, 101]) = true := by rw [sw_any]; exact decide_eq_true h7
            have hE1 : elemD d e = putD d m (some ar) := HEL.out
            have hk : kindL m = 6 := by rw [h7]; decide
            have HE := Lib.hid (show elemD d e = { d with ma := leastD d.ma z0 } by rw [hE1]; unfold putD; rw [hk]; rw [HX1.out]; rfl)
            have hNb := HNM.out.ma
            clear hE1 hm h0 h1 h2 h3 h4 h5 h6 h7 hk
            obtain ⟨a0, a1, a2, a3, a4, a5, a6, a7, a8, a9, a10, a11, fa, la⟩ := HA1.out
            obtain ⟨c0, c1, c2, c3, c4, c5, c6, c7, c8, c9, c10, c11, fr, lt⟩ := HR1.out
            have fj := fa 6
            go_wp2_with fail
            refine (refLeast11_any d.ma z0 _ ⟨by omega, by omega⟩ ⟨by omega, by omega⟩).mono ?_
            rintro en w' ⟨rfl, rfl⟩
            go_wp2_with fail
            try simp only [Exit.inBlock, Exit.then]
            refine bodyPost_ret (v := dvV { d with ma := leastD d.ma z0 }) (by simp [results, Tryz.results87, go_sem, c0, c1, c2, c3, c4, c5, c6, c7, c8, c9, c10, c11]) rfl ?_
            exact ⟨by first | (rw [HE.out]; rfl) | rw [HE.out], below_dv (HB1.out.setCell (p := ⟨w.heap.size, 6, none⟩) (Nat.le_refl _) _) (Nat.le_succ _) _ _ _ _ _ _ _ _ _ _ _ _⟩
          by_cases h8 : m = nSA
          · have s0 : ((strB m).toList == [110, 111, 45, 115, 116, 111, 114, 101]) = false := by rw [sw_any]; exact decide_eq_false h0
            have s1 : ((strB m).toList == [110, 111, 45, 99, 97, 99, 104, 101]) = false := by rw [sw_any]; exact decide_eq_false h1
            have s2 : ((strB m).toList == [112, 114, 105, 118, 97, 116, 101]) = false := by rw [sw_any]; exact decide_eq_false h2
            have s3 : ((strB m).toList == [112, 117, 98, 108, 105, 99]) = false := by rw [sw_any]; exact decide_eq_false h3
            have s4 : ((strB m).toList == [109, 117, 115, 116, 45, 114, 101, 118, 97, 108, 105, 100, 97, 116, 101]) = false := by rw [sw_any]; exact decide_eq_false h4
            have s5 : ((strB m).toList == [112, 114, 111, 120, 121, 45, 114, 101, 118, 97, 108, 105, 100, 97, 116, 101]) = false := by rw [sw_any]; exact decide_eq_false h5
            have s6 : ((strB m).toList == [111, 110, 108, 121, 45, 105, 102, 45, 99, 97, 99, 104, 101, 100]) = false := by rw [sw_any]; exact decide_eq_false h6
            have s7 : ((strB m).toList == [109, 97, 120, 45, 97, 103, 101]) = false := by rw [sw_any]; exact decide_eq_false h7
            have s8 : ((strB m).toList == [115, 45, 109, 97, 120, 97, 103, 101]) = true := by rw [sw_any]; exact decide_eq_true h8
            have hE1 : elemD d e = putD d m (some ar) := HEL.out
            have hk : kindL m = 7 := by rw [h8]; decide
            have HE := Lib.hid (show elemD d e = { d with sa := leastD d.sa z0 } by rw [hE1]; unfold putD; rw [hk]; rw [HX1.out]; rfl)
            have hNb := HNM.out.sa
            clear hE1 hm h0 h1 h2 h3 h4 h5 h6 h7 h8 hk
            obtain ⟨a0, a1, a2, a3, a4, a5, a6, a7, a8, a9, a10, a11, fa, la⟩ := HA1.out
            obtain ⟨c0, c1, c2, c3, c4, c5, c6, c7, c8, c9, c10, c11, fr, lt⟩ := HR1.out
            have fj := fa 7
            go_wp2_with fail
            refine (refLeast11_any d.sa z0 _ ⟨by omega, by omega⟩ ⟨by omega, by omega⟩).mono ?_
            rintro en w' ⟨rfl, rfl⟩
            go_wp2_with fail
            try simp only [Exit.inBlock, Exit.then]
            refine bodyPost_ret (v := dvV { d with sa := leastD d.sa z0 }) (by simp [results, Tryz.results87, go_sem, c0, c1, c2, c3, c4, c5, c6, c7, c8, c9, c10, c11]) rfl ?_
            exact ⟨by first | (rw [HE.out]; rfl) | rw [HE.out], below_dv (HB1.out.setCell (p := ⟨w.heap.size, 7, none⟩) (Nat.le_refl _) _) (Nat.le_succ _) _ _ _ _ _ _ _ _ _ _ _ _⟩
          by_cases h9 : m = nWS
          · have s0 : ((strB m).toList == [110, 111, 45, 115, 116, 111, 114, 101]) = false := by rw [sw_any]; exact decide_eq_false h0
            have s1 : ((strB m).toList == [110, 111, 45, 99, 97, 99, 104, 101]) = false := by rw [sw_any]; exact decide_eq_false h1
            have s2 : ((strB m).toList == [112, 114, 105, 118, 97, 116, 101]) = false := by rw [sw_any]; exact decide_eq_false h2
            have s3 : ((strB m).toList == [112, 117, 98, 108, 105, 99]) = false := by rw [sw_any]; exact decide_eq_false h3
            have s4 : ((strB m).toList == [109, 117, 115, 116, 45, 114, 101, 118, 97, 108, 105, 100, 97, 116, 101]) = false := by rw [sw_any]; exact decide_eq_false h4
            have s5 : ((strB m).toList == [112, 114, 111, 120, 121, 45, 114, 101, 118, 97, 108, 105, 100, 97, 116, 101]) = false := by rw [sw_any]; exact decide_eq_false h5
            have s6 : ((strB m).toList == [111, 110, 108, 121, 45, 105, 102, 45, 99, 97, 99, 104, 101, 100]) = false := by rw [sw_any]; exact decide_eq_false h6
            have s7 : ((strB m).toList == [109, 97, 120, 45, 97, 103, 101]) = false := by rw [sw_any]; exact decide_eq_false h7
            have s8 : ((strB m).toList == [115, 45, 109, 97, 120, 97, 103, 101]) = false := by rw [sw_any]; exact decide_eq_false h8
            have s9 : ((strB m).toList == [115, 116, 97, 108, 101, 45, 119, 104, 105, 108, 101, 45, 114, 101, 118, 97, 108, 105, 100, 97, 116, 101]) = true := by rw [sw_any]; exact decide_eq_true h9
            have hE1 : elemD d e = putD d m (some ar) := HEL.out
            have hk : kindL m = 8 := by rw [h9]; decide
            have HE := Lib.hid (show elemD d e = { d with ws := leastD d.ws z0 } by rw [hE1]; unfold putD; rw [hk]; rw [HX1.out]; rfl)
            have hNb := HNM.out.ws
            clear hE1 hm h0 h1 h2 h3 h4 h5 h6 h7 h8 h9 hk
            obtain ⟨a0, a1, a2, a3, a4, a5, a6, a7, a8, a9, a10, a11, fa, la⟩ := HA1.out
            obtain ⟨c0, c1, c2, c3, c4, c5, c6, c7, c8, c9, c10, c11, fr, lt⟩ := HR1.out
            have fj := fa 8
            go_wp2_with fail
            refine (refLeast11_any d.ws z0 _ ⟨by omega, by omega⟩ ⟨by omega, by omega⟩).mono ?_
            rintro en w' ⟨rfl, rfl⟩
            go_wp2_with fail
            try simp only [Exit.inBlock, Exit.then]
            refine bodyPost_ret (v := dvV { d with ws := leastD d.ws z0 }) (by simp [results, Tryz.results87, go_sem, c0, c1, c2, c3, c4, c5, c6, c7, c8, c9, c10, c11]) rfl ?_
            exact ⟨by first | (rw [HE.out]; rfl) | rw [HE.out], below_dv (HB1.out.setCell (p := ⟨w.heap.size, 8, none⟩) (Nat.le_refl _) _) (Nat.le_succ _) _ _ _ _ _ _ _ _ _ _ _ _⟩
          by_cases h10 : m = nOE
          · have s0 : ((strB m).toList == [110, 111, 45, 115, 116, 111, 114, 101]) = false := by rw [sw_any]; exact decide_eq_false h0
            have s1 : ((strB m).toList == [110, 111, 45, 99, 97, 99, 104, 101]) = false := by rw [sw_any]; exact decide_eq_false h1
            have s2 : ((strB m).toList == [112, 114, 105, 118, 97, 116, 101]) = false := by rw [sw_any]; exact decide_eq_false h2
            have s3 : ((strB m).toList == [112, 117, 98, 108, 105, 99]) = false := by rw [sw_any]; exact decide_eq_false h3
            have s4 : ((strB m).toList == [109, 117, 115, 116, 45, 114, 101, 118, 97, 108, 105, 100, 97, 116, 101]) = false := by rw [sw_any]; exact decide_eq_false h4
            have s5 : ((strB m).toList == [112, 114, 111, 120, 121, 45, 114, 101, 118, 97, 108, 105, 100, 97, 116, 101]) = false := by rw [sw_any]; exact decide_eq_false h5
            have s6 : ((strB m).toList == [111, 110, 108, 121, 45, 105, 102, 45, 99, 97, 99, 104, 101, 100]) = false := by rw [sw_any]; exact decide_eq_false h6
            have s7 : ((strB m).toList == [109, 97, 120, 45, 97, 103, 101]) = false := by rw [sw_any]; exact decide_eq_false h7
            have s8 : ((strB m).toList == [115, 45, 109, 97, 120, 97, 103, 101]) = false := by rw [sw_any]; exact decide_eq_false h8
            have s9 : ((strB m).toList == [115, 116, 97, 108, 101, 45, 119, 104, 105, 108, 101, 45, 114, 101, 118, 97, 108, 105, 100, 97, 116, 101]) = false := by rw [sw_any]; exact decide_eq_false h9
            have s10 : ((strB m).toList == [115, 116, 97, 108, 101, 45, 105, 102, 45, 101, 114, 114, 111, 114]) = true := by rw [sw_any]; exact decide_eq_true h10
            have hE1 : elemD d e = putD d m (some ar) := HEL.out
            have hk : kindL m = 9 := by rw [h10]; decide
            have HE := Lib.hid (show elemD d e = { d with oe := leastD d.oe z0 } by rw [hE1]; unfold putD; rw [hk]; rw [HX1.out]; rfl)
            have hNb := HNM.out.oe
            clear hE1 hm h0 h1 h2 h3 h4 h5 h6 h7 h8 h9 h10 hk
            obtain ⟨a0, a1, a2, a3, a4, a5, a6, a7, a8, a9, a10, a11, fa, la⟩ := HA1.out
            obtain ⟨c0, c1, c2, c3, c4, c5, c6, c7, c8, c9, c10, c11, fr, lt⟩ := HR1.out
            have fj := fa 9
            go_wp2_with fail
            refine (refLeast11_any d.oe z0 _ ⟨by omega, by omega⟩ ⟨by omega, by omega⟩).mono ?_
            rintro en w' ⟨rfl, rfl⟩
            go_wp2_with fail
            try simp only [Exit.inBlock, Exit.then]
            refine bodyPost_ret (v := dvV { d with oe := leastD d.oe z0 }) (by simp [results, Tryz.results87, go_sem, c0, c1, c2, c3, c4, c5, c6, c7, c8, c9, c10, c11]) rfl ?_
            exact ⟨by first | (rw [HE.out]; rfl) | rw [HE.out], below_dv (HB1.out.setCell (p := ⟨w.heap.size, 9, none⟩) (Nat.le_refl _) _) (Nat.le_succ _) _ _ _ _ _ _ _ _ _ _ _ _⟩
          by_cases h11 : m = nMS
          · have s0 : ((strB m).toList == [110, 111, 45, 115, 116, 111, 114, 101]) = false := by rw [sw_any]; exact decide_eq_false h0
            have s1 : ((strB m).toList == [110, 111, 45, 99, 97, 99, 104, 101]) = false := by rw [sw_any]; exact decide_eq_false h1
            have s2 : ((strB m).toList == [112, 114, 105, 118, 97, 116, 101]) = false := by rw [sw_any]; exact decide_eq_false h2
            have s3 : ((strB m).toList == [112, 117, 98, 108, 105, 99]) = false := by rw [sw_any]; exact decide_eq_false h3
            have s4 : ((strB m).toList == [109, 117, 115, 116, 45, 114, 101, 118, 97, 108, 105, 100, 97, 116, 101]) = false := by rw [sw_any]; exact decide_eq_false h4
            have s5 : ((strB m).toList == [112, 114, 111, 120, 121, 45, 114, 101, 118, 97, 108, 105, 100, 97, 116, 101]) = false := by rw [sw_any]; exact decide_eq_false h5
            have s6 : ((strB m).toList == [111, 110, 108, 121, 45, 105, 102, 45, 99, 97, 99, 104, 101, 100]) = false := by rw [sw_any]; exact decide_eq_false h6
            have s7 : ((strB m).toList == [109, 97, 120, 45, 97, 103, 101]) = false := by rw [sw_any]; exact decide_eq_false h7
            have s8 : ((strB m).toList == [115, 45, 109, 97, 120, 97, 103, 101]) = false := by rw [sw_any]; exact decide_eq_false h8
            have s9 : ((strB m).toList == [115, 116, 97, 108, 101, 45, 119, 104, 105, 108, 101, 45, 114, 101, 118, 97, 108, 105, 100, 97, 116, 101]) = false := by rw [sw_any]; exact decide_eq_false h9
            have s10 : ((strB m).toList == [115, 116, 97, 108, 101, 45, 105, 102, 45, 101, 114, 114, 111, 114]) = false := by rw [sw_any]; exact decide_eq_false h10
            have s11 : ((strB m).toList == [109, 97, 120, 45, 115, 116, 97, 108, 101]) = true := by rw [sw_any]; exact decide_eq_true h11
            have hE1 : elemD d e = putD d m (some ar) := HEL.out
            have hk : kindL m = 10 := by rw [h11]; decide
            have HE := Lib.hid (show elemD d e = { d with ms := leastD d.ms z0 } by rw [hE1]; unfold putD; rw [hk]; rw [HY1.out]; rfl)
            have hNb := HNM.out.ms
            clear hE1 hm h0 h1 h2 h3 h4 h5 h6 h7 h8 h9 h10 h11 hk
            obtain ⟨a0, a1, a2, a3, a4, a5, a6, a7, a8, a9, a10, a11, fa, la⟩ := HA1.out
            obtain ⟨c0, c1, c2, c3, c4, c5, c6, c7, c8, c9, c10, c11, fr, lt⟩ := HR1.out
            have fj := fa 10
            go_wp2_with fail
            refine (refLeast11_any d.ms z0 _ ⟨by omega, by omega⟩ ⟨by omega, by omega⟩).mono ?_
            rintro en w' ⟨rfl, rfl⟩
            go_wp2_with fail
            try simp only [Exit.inBlock, Exit.then]
            refine bodyPost_ret (v := dvV { d with ms := leastD d.ms z0 }) (by simp [results, Tryz.results87, go_sem, c0, c1, c2, c3, c4, c5, c6, c7, c8, c9, c10, c11]) rfl ?_
            exact ⟨by first | (rw [HE.out]; rfl) | rw [HE.out], below_dv (HB1.out.setCell (p := ⟨w.heap.size, 10, none⟩) (Nat.le_refl _) _) (Nat.le_succ _) _ _ _ _ _ _ _ _ _ _ _ _⟩
          by_cases h12 : m = nMF
          · have s0 : ((strB m).toList == [110, 111, 45, 115, 116, 111, 114, 101]) = false := by rw [sw_any]; exact decide_eq_false h0
            have s1 : ((strB m).toList == [110, 111, 45, 99, 97, 99, 104, 101]) = false := by rw [sw_any]; exact decide_eq_false h1
            have s2 : ((strB m).toList == [112, 114, 105, 118, 97, 116, 101]) = false := by rw [sw_any]; exact decide_eq_false h2
            have s3 : ((strB m).toList == [112, 117, 98, 108, 105, 99]) = false := by rw [sw_any]; exact decide_eq_false h3
            have s4 : ((strB m).toList == [109, 117, 115, 116, 45, 114, 101, 118, 97, 108, 105, 100, 97, 116, 101]) = false := by rw [sw_any]; exact decide_eq_false h4
            have s5 : ((strB m).toList == [112, 114, 111, 120, 121, 45, 114, 101, 118, 97, 108, 105, 100, 97, 116, 101]) = false := by rw [sw_any]; exact decide_eq_false h5
            have s6 : ((strB m).toList == [111, 110, 108, 121, 45, 105, 102, 45, 99, 97, 99, 104, 101, 100]) = false := by rw [sw_any]; exact decide_eq_false h6
            have s7 : ((strB m).toList == [109, 97, 120, 45, 97, 103, 101]) = false := by rw [sw_any]; exact decide_eq_false h7
            have s8 : ((strB m).toList == [115, 45, 109, 97, 120, 97, 103, 101]) = false := by rw [sw_any]; exact decide_eq_false h8
            have s9 : ((strB m).toList == [115, 116, 97, 108, 101, 45, 119, 104, 105, 108, 101, 45, 114, 101, 118, 97, 108, 105, 100, 97, 116, 101]) = false := by rw [sw_any]; exact decide_eq_false h9
            have s10 : ((strB m).toList == [115, 116, 97, 108, 101, 45, 105, 102, 45, 101, 114, 114, 111, 114]) = false := by rw [sw_any]; exact decide_eq_false h10
            have s11 : ((strB m).toList == [109, 97, 120, 45, 115, 116, 97, 108, 101]) = false := by rw [sw_any]; exact decide_eq_false h11
            have s12 : ((strB m).toList == [109, 105, 110, 45, 102, 114, 101, 115, 104]) = true := by rw [sw_any]; exact decide_eq_true h12
            have hE1 : elemD d e = putD d m (some ar) := HEL.out
            have hk : kindL m = 11 := by rw [h12]; decide
            have HE := Lib.hid (show elemD d e = { d with mf := max d.mf (if ok = true then z0 else 2147483647) } by rw [hE1]; unfold putD; rw [hk]; rw [HZM.out]; rfl)
            have hNb := HNM.out.mf
            clear hE1 hm h0 h1 h2 h3 h4 h5 h6 h7 h8 h9 h10 h11 h12 hk
            cases ok
            · obtain ⟨a0, a1, a2, a3, a4, a5, a6, a7, a8, a9, a10, a11, fa, la⟩ := HA1.out
              obtain ⟨c0, c1, c2, c3, c4, c5, c6, c7, c8, c9, c10, c11, fr, lt⟩ := HR1.out
              have fj := fa 11
              go_wp2_with fail
              try simp only [Exit.inBlock, Exit.then]
              refine bodyPost_ret (v := dvV { d with mf := max d.mf 2147483647 }) (by simp [results, Tryz.results87, go_sem, c0, c1, c2, c3, c4, c5, c6, c7, c8, c9, c10, c11]) rfl ?_
              exact ⟨by first | (rw [HE.out]; rfl) | rw [HE.out], below_dv (HB1.out.setCell (p := ⟨w.heap.size, 11, none⟩) (Nat.le_refl _) _) (Nat.le_succ _) _ _ _ _ _ _ _ _ _ _ _ _⟩
            · obtain ⟨a0, a1, a2, a3, a4, a5, a6, a7, a8, a9, a10, a11, fa, la⟩ := HA1.out
              obtain ⟨c0, c1, c2, c3, c4, c5, c6, c7, c8, c9, c10, c11, fr, lt⟩ := HR1.out
              have fj := fa 11
              go_wp2_with fail
              try simp only [Exit.inBlock, Exit.then]
              refine bodyPost_ret (v := dvV { d with mf := max d.mf z0 }) (by simp [results, Tryz.results87, go_sem, c0, c1, c2, c3, c4, c5, c6, c7, c8, c9, c10, c11]) rfl ?_
              exact ⟨by first | (rw [HE.out]; rfl) | rw [HE.out], below_dv (HB1.out.setCell (p := ⟨w.heap.size, 11, none⟩) (Nat.le_refl _) _) (Nat.le_succ _) _ _ _ _ _ _ _ _ _ _ _ _⟩
          have s0 : ((strB m).toList == [110, 111, 45, 115, 116, 111, 114, 101]) = false := by rw [sw_any]; exact decide_eq_false h0
          have s1 : ((strB m).toList == [110, 111, 45, 99, 97, 99, 104, 101]) = false := by rw [sw_any]; exact decide_eq_false h1
          have s2 : ((strB m).toList == [112, 114, 105, 118, 97, 116, 101]) = false := by rw [sw_any]; exact decide_eq_false h2
          have s3 : ((strB m).toList == [112, 117, 98, 108, 105, 99]) = false := by rw [sw_any]; exact decide_eq_false h3
          have s4 : ((strB m).toList == [109, 117, 115, 116, 45, 114, 101, 118, 97, 108, 105, 100, 97, 116, 101]) = false := by rw [sw_any]; exact decide_eq_false h4
          have s5 : ((strB m).toList == [112, 114, 111, 120, 121, 45, 114, 101, 118, 97, 108, 105, 100, 97, 116, 101]) = false := by rw [sw_any]; exact decide_eq_false h5
          have s6 : ((strB m).toList == [111, 110, 108, 121, 45, 105, 102, 45, 99, 97, 99, 104, 101, 100]) = false := by rw [sw_any]; exact decide_eq_false h6
          have s7 : ((strB m).toList == [109, 97, 120, 45, 97, 103, 101]) = false := by rw [sw_any]; exact decide_eq_false h7
          have s8 : ((strB m).toList == [115, 45, 109, 97, 120, 97, 103, 101]) = false := by rw [sw_any]; exact decide_eq_false h8
          have s9 : ((strB m).toList == [115, 116, 97, 108, 101, 45, 119, 104, 105, 108, 101, 45, 114, 101, 118, 97, 108, 105, 100, 97, 116, 101]) = false := by rw [sw_any]; exact decide_eq_false h9
          have s10 : ((strB m).toList == [115, 116, 97, 108, 101, 45, 105, 102, 45, 101, 114, 114, 111, 114]) = false := by rw [sw_any]; exact decide_eq_false h10
          have s11 : ((strB m).toList == [109, 97, 120, 45, 115, 116, 97, 108, 101]) = false := by rw [sw_any]; exact decide_eq_false h11
          have s12 : ((strB m).toList == [109, 105, 110, 45, 102, 114, 101, 115, 104]) = false := by rw [sw_any]; exact decide_eq_false h12
          have hE1 : elemD d e = putD d m (some ar) := HEL.out
          have HE := Lib.hid (show elemD d e = d by rw [hE1]; unfold putD; rw [kind_big h0 h1 h2 h3 h4 h5 h6 h7 h8 h9 h10 h11 h12]; rfl)
          clear hE1 hm h0 h1 h2 h3 h4 h5 h6 h7 h8 h9 h10 h11 h12
          obtain ⟨a0, a1, a2, a3, a4, a5, a6, a7, a8, a9, a10, a11, fa, la⟩ := HA1.out
          obtain ⟨c0, c1, c2, c3, c4, c5, c6, c7, c8, c9, c10, c11, fr, lt⟩ := HR1.out
          go_wp2_with fail
          try simp only [Exit.inBlock, Exit.then]
          refine bodyPost_ret (v := dvV d) (by simp [results, Tryz.results87, go_sem, c0, c1, c2, c3, c4, c5, c6, c7, c8, c9, c10, c11]) rfl ?_
          exact ⟨by first | (rw [HE.out]; rfl) | rw [HE.out], below_dv HB1.out (Nat.le_succ _) _ _ _ _ _ _ _ _ _ _ _ _⟩
    · have hkl : k < nm.length := by omega
      have hke : k < e.length := by omega
      have hg : (strB e)[k]'(by omega) ≠ 61 := by
        intro h
        have h2 : e[k]? = some 61 := by rw [List.getElem?_eq_getElem hke]; exact congrArg some h
        have h3 : nm[k]? = some 61 := by rw [← htk, List.getElem?_take_of_lt hkl]; exact h2
        exact hno (List.mem_of_getElem? h3)
      have hgn : ¬ (((strB e)[k]'(by omega)).toNat : Int) = 61 := fun h => hg (UInt8.toNat_inj.mp (by show _ = 61; omega))
      clear hg
      go_wp2_with fail
      go_roundw
      case rel => exact ⟨⟨k + 1, by go_num, by omega⟩, by first | rfl | trivial⟩
      case measure => simp [intOf]; omega
end Go.Proofs.YtoiampkdmjpljaaGreatDoor

/- What the reference's with returns, for every element. -/
namespace Go.Proofs.YtoiampkdmjpljaaGreatDoor
open Go.RowKit

theorem with_any (d : Dv) (e : List UInt8) (w : World) (hN : Nor d) (he : e.length ≤ 1000000) :
    Calls Tryz.prog 87 #[dvV d, .string (strB e)] w fun en w' => en = .returned (dvV (elemD d e)) ∧ Below w.heap.size w w' := by
  obtain ⟨nm, ar, fd, h⟩ := eqAt_ex e
  cases hf : fd with
  | false => exact with_no d e nm ar fd hf h w hN he
  | true => exact with_yes d e nm ar fd hf h w hN he
end Go.Proofs.YtoiampkdmjpljaaGreatDoor
