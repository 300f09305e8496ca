/- AgeChains: for every input the statement's function returns true: the walk. -/
import Derived.Test.YtnbjkgkkefjaoaaZSeen
namespace Go.Proofs.Ytnbjkgkkefjaoaa
open Go.RowKit Go.Sort

/-- What the loop keeps: nothing yet, or the time of the last cache, the time at which the response was made, and a sound statement of its age. -/
def ChI (k : Nat) (S A T M : Int) : Prop := (k = 0 ∧ S = 1000000 ∧ A = 0 ∧ T = -1 ∧ M = 0) ∨ (0 < k ∧ 1000000 ≤ M ∧ M ≤ A ∧ A ≤ 1000000 + k * 200000 ∧ A - M ≤ addA T)
/-- The times of the next cache: when it asked, when the answer came, when it sends it on. -/
theorem chI_next {k : Nat} {S A T M : Int} {h : Hp} (I : ChI k S A T M) (ok : h.Ok) (hk : k < 6) :
    ∃ sent arr now made : Int, sent = (if k = 0 then S else A - h.to) ∧ made = (if k = 0 then S + h.to else M) ∧ arr = (if k = 0 then S + h.to + h.back else A + h.back) ∧ now = arr + h.kept ∧
      0 ≤ sent ∧ sent ≤ arr ∧ arr ≤ now ∧ now ≤ 1000000 + (k + 1) * 200000 ∧ made ≤ arr ∧ sent - addA T ≤ made ∧ 1000000 ≤ made := by
  obtain ⟨_, ⟨h1, h2⟩, ⟨h3, h4⟩, ⟨h5, h6⟩⟩ := ok
  rcases I with ⟨rfl, rfl, rfl, rfl, rfl⟩ | ⟨i0, i1, i2, i3, i4⟩
  · refine ⟨_, _, _, _, rfl, rfl, rfl, rfl, ?_⟩
    have : addA (-1) = 0 := rfl
    simp only [if_true, this]
    omega
  · refine ⟨_, _, _, _, rfl, rfl, rfl, rfl, ?_⟩
    simp only [if_neg (show ¬ k = 0 by omega)]
    omega
namespace agchains
set_option maxHeartbeats 8000000 in
set_option maxRecDepth 100000 in
theorem walk (v : Value) (hs : List Hp) (q l : Int) (w : World) (hR : ReadsH w v hs) (hok : ∀ h ∈ hs, h.Ok) :
    Calls Try.prog 12 #[v, .int .i64 q, .int .i64 l] w fun e w' => e = .returned (.bool true) ∧ Below w.heap.size w w' := by
  obtain ⟨ao, cap, rfl, hc⟩ := hR
  by_cases h6 : 6 < hs.length
  · clear hc hok
    go_enter Try.func12, Try.ntmps12
    go_wp2_with fail
    go_ret
    exact ⟨ret_bool (by simp), Below.refl _ _⟩
  · have HC := Lib.hid hc
    have HO := Lib.hid hok
    clear hc hok
    go_enter Try.func12, Try.ntmps12
    go_wp2_with fail
    refine (awake13_any _).mono ?_
    rintro e w1 ⟨rfl, hG⟩
    have HB := Lib.hid hG.below
    clear hG
    go_wp2_with fail
    go_loopw [7, 8, 9, 10, 38] (fun x7 x8 x9 x10 x38 wr => ∃ (k : Nat) (S A T M : Int), x7 = .int .i64 S ∧ x8 = .int .i64 A ∧ x9 = .int .i64 T ∧ x10 = .int .i64 M ∧ x38 = .int .i64 k ∧ k ≤ hs.length ∧ Hid (ChI k S A T M) ∧ Hid (Below w.heap.size w wr)) (fun _ _ _ _ x38 _ => hs.length - (intOf x38).toNat)
    case atStart => exact ⟨0, 1000000, 0, -1, 0, rfl, rfl, rfl, rfl, rfl, Nat.zero_le _, Lib.hid (.inl ⟨rfl, rfl, rfl, rfl, rfl⟩), HB⟩
    case round =>
      obtain ⟨k, S, A, T, M, rfl, rfl, rfl, rfl, rfl, hk, I, B⟩ := hrel
      by_cases hlt : k < hs.length
      · obtain ⟨h, hh⟩ : ∃ h, hs[k]? = some h := ⟨hs[k], by simp [hlt]⟩
        obtain ⟨g, off, rfl, hg, d0, d1, d2, d3, d4⟩ := HC.out k h hh
        have ok := HO.out h (List.mem_of_getElem? hh)
        have e0 : wr.cell? ⟨g, off + k * 5, none⟩ = some (.int .u8 h.part) := (B.out.cell (p := ⟨g, off + k * 5, none⟩) hg).trans d0
        have e1 : wr.cell? ⟨g, off + k * 5 + 1, none⟩ = some (.bool h.slow) := (B.out.cell (p := ⟨g, off + k * 5 + 1, none⟩) hg).trans d1
        have e2 : wr.cell? ⟨g, off + k * 5 + 2, none⟩ = some (.int .u16 h.to) := (B.out.cell (p := ⟨g, off + k * 5 + 2, none⟩) hg).trans d2
        have e3 : wr.cell? ⟨g, off + k * 5 + 3, none⟩ = some (.int .u16 h.back) := (B.out.cell (p := ⟨g, off + k * 5 + 3, none⟩) hg).trans d3
        have e4 : wr.cell? ⟨g, off + k * 5 + 4, none⟩ = some (.int .u16 h.kept) := (B.out.cell (p := ⟨g, off + k * 5 + 4, none⟩) hg).trans d4
        obtain ⟨sent, arr, now, made, n1, n2, n3, n4, b1, b2, b3, b4, b5, b6, b7⟩ := chI_next I.out ok (by omega)
        obtain ⟨ok0, okA', lA, uA⟩ : ∃ x : True, okA (seenV h q sent) (seenV h q arr) (seenV h q now) = true ∧ lowA (seenV h q arr) (seenV h q now) q ≤ now - made ∧ now - made ≤ topA (seenV h q sent) T (seenV h q now) q := ⟨trivial, chain_step ok q sent arr now made T b1 b2 b3 (by omega) b5 b6⟩
        have HS1 := Lib.hid (fun W => seen_any ok q sent b1 (by omega) W)
        have HS2 := Lib.hid (fun W => seen_any ok q arr (by omega) (by omega) W)
        have HS3 := Lib.hid (fun W => seen_any ok q now (by omega) (by omega) W)
        obtain ⟨V1, hV1⟩ : ∃ V, seenV h q sent = V := ⟨_, rfl⟩
        obtain ⟨V2, hV2⟩ : ∃ V, seenV h q arr = V := ⟨_, rfl⟩
        obtain ⟨V3, hV3⟩ : ∃ V, seenV h q now = V := ⟨_, rfl⟩
        rw [hV1] at HS1 okA' uA
        rw [hV2] at HS2 okA' lA
        rw [hV3] at HS3 okA' lA uA
        have HA := Lib.hid (fun W => at_any V1 V2 T V3 q W)
        have HF := Lib.hid (fun W => fresh_any V1 V2 T V3 q l W)
        have HT := Lib.hid (fun W => stale_any V1 V2 T V3 q l W)
        have HD := Lib.hid (fun W => field_any V1 V2 T V3 q W)
        rw [atV_yes okA'] at HA
        rw [fldV_yes okA'] at HD
        have tb := (top_bd (a := T) (p := q) okA').2.2
        have eF : frA V1 V2 T V3 q l = decide (topA V1 T V3 q < l) := by unfold frA; rw [okA']; rfl
        have eT : stA V1 V2 V3 q l = decide (l ≤ lowA V2 V3 q) := by unfold stA; rw [okA']; rfl
        rw [eF] at HF
        rw [eT] at HT
        obtain ⟨L, hL⟩ : ∃ L, lowA V2 V3 q = L := ⟨_, rfl⟩
        obtain ⟨U, hU⟩ : ∃ U, topA V1 T V3 q = U := ⟨_, rfl⟩
        rw [hL] at HA lA HT
        rw [hU] at HA uA HF HD tb
        have HI := Lib.hid (show ChI (k + 1) sent now (U / 1000) made from .inr ⟨by omega, b7, by omega, by omega, told uA tb.1 (by omega)⟩)
        clear d0 d1 d2 d3 d4 hh hV1 hV2 hV3 okA' eF eT hL hU ok0
        obtain ⟨_, ⟨o1, o2⟩, ⟨o3, o4⟩, ⟨o5, o6⟩⟩ := ok
        have T0 := Lib.hid (hpB_new wr h 70)
        have BB := Lib.hid (B.out.alloc B.out.size (.cells #[.int .u8 h.part, .bool h.slow, .int .u16 h.to, .int .u16 h.back, .int .u16 h.kept] 70))
        rcases (show U < l ∧ ¬ l ≤ L ∨ ¬ U < l ∧ l ≤ L ∨ ¬ U < l ∧ ¬ l ≤ L by omega) with ⟨z1, z2⟩ | ⟨z1, z2⟩ | ⟨z1, z2⟩
        all_goals
          first | rw [decide_eq_true z1] at HF | rw [decide_eq_false z1] at HF
          first | rw [decide_eq_true z2] at HT | rw [decide_eq_false z2] at HT
          have y1 : ¬ now - made < L := by omega
          have y2 : ¬ U < now - made := by omega
          have y3 : (U < l → ¬ l ≤ now - made) ∧ (l ≤ L → ¬ now - made < l) := by omega
          by_cases k0 : k = 0
          · obtain ⟨R, hR⟩ : ∃ R, now - made = R := ⟨_, rfl⟩
            rw [hR] at y1 y2 y3
            first | have x1 := y3.1 z1 | have x2 := y3.2 z2 | skip
            clear y3
            subst k0
            rw [if_pos rfl] at n1 n2 n3
            subst n1 n2 n3 n4
            simp only [Nat.zero_mul, Nat.add_zero] at e0 e1 e2 e3 e4
            go_wp2_with fail
            have T0' := T0.out
            clear e0 e1 e2 e3 e4
            generalize wr.alloc (.cells #[.int .u8 h.part, .bool h.slow, .int .u16 h.to, .int .u16 h.back, .int .u16 h.kept] 70) = w2 at *
            clear T0
            refine (HS1.out _).mono ?_
            rintro e w3 ⟨rfl, hB⟩
            have T1 := T0'.below hB
            have BB1 := BB.out.trans (hB.mono BB.out.size)
            clear hB T0' BB
            have HT1 := Lib.hid T1
            have HBB1 := Lib.hid BB1
            clear BB1
            obtain ⟨c0, c1, c2, c3, c4, c5⟩ := T1
            go_wp2_with fail
            have T1 := HT1.out
            have BB1 := HBB1.out
            clear HT1 HBB1
            refine (HS2.out _).mono ?_
            rintro e w4 ⟨rfl, hB⟩
            have T2 := T1.below hB
            have BB2 := BB1.trans (hB.mono BB1.size)
            clear hB T1 BB1 c0 c1 c2 c3 c4 c5
            have HT2 := Lib.hid T2
            have HBB2 := Lib.hid BB2
            clear BB2
            obtain ⟨c0, c1, c2, c3, c4, c5⟩ := T2
            go_wp2_with fail
            have T2 := HT2.out
            have BB2 := HBB2.out
            clear HT2 HBB2
            refine (HS3.out _).mono ?_
            rintro e w5 ⟨rfl, hB⟩
            have T3 := T2.below hB
            have BB3 := BB2.trans (hB.mono BB2.size)
            clear hB T2 BB2 c0 c1 c2 c3 c4 c5
            have HT3 := Lib.hid T3
            have HBB3 := Lib.hid BB3
            clear BB3
            obtain ⟨c0, c1, c2, c3, c4, c5⟩ := T3
            go_wp2_with fail
            have T3 := HT3.out
            have BB3 := HBB3.out
            clear HT3 HBB3
            refine (HA.out _).mono ?_
            rintro e w6 ⟨rfl, hG⟩
            have TT := Lib.hid ((threeI_new w5 V1 V2 T 57).below hG.below)
            have BB6 := Lib.hid ((BB3.alloc BB3.size (.cells #[.int .i64 V1, .int .i64 V2, .int .i64 T] 57)).trans (hG.below.mono (by have := BB3.size; simp; omega)))
            clear hG BB3 T3 c0 c1 c2 c3 c4 c5
            generalize w5.heap.size = Y at *
            obtain ⟨t0, t1, t2, t3⟩ := TT.out
            go_wp2_with fail
            refine (HF.out _).mono ?_
            rintro e w7 ⟨rfl, hG⟩
            have TN := Lib.hid (TT.out.below hG.below)
            have BB7 := Lib.hid (BB6.out.trans (hG.below.mono BB6.out.size))
            clear hG BB6 TT t0 t1 t2 t3
            have TT := TN
            clear TN
            obtain ⟨t0, t1, t2, t3⟩ := TT.out
            go_wp2_with fail
            refine (HT.out _).mono ?_
            rintro e w8 ⟨rfl, hG⟩
            have TN := Lib.hid (TT.out.below hG.below)
            have BB8 := Lib.hid (BB7.out.trans (hG.below.mono BB7.out.size))
            clear hG BB7 TT t0 t1 t2 t3
            have TT := TN
            clear TN
            obtain ⟨t0, t1, t2, t3⟩ := TT.out
            go_wp2_with fail
            refine (HD.out _).mono ?_
            rintro e w9 ⟨rfl, hG⟩
            have TN := Lib.hid (TT.out.below hG.below)
            have BB9 := Lib.hid (BB8.out.trans (hG.below.mono BB8.out.size))
            clear hG BB8 TT t0 t1 t2 t3
            have TT := TN
            clear TN
            obtain ⟨t0, t1, t2, t3⟩ := TT.out
            go_wp2_with fail
            go_roundw
            case measure => simp [intOf]; omega
            case rel => exact ⟨1, _, _, _, _, rfl, rfl, rfl, rfl, by go_num, by omega, HI, BB9⟩
          · obtain ⟨R, hR⟩ : ∃ R, now - made = R := ⟨_, rfl⟩
            rw [hR] at y1 y2 y3
            first | have x1 := y3.1 z1 | have x2 := y3.2 z2 | skip
            clear y3
            rw [if_neg k0] at n1 n2 n3
            have kz : ((k : Int) == 0) = false := by simpa using k0
            subst n1 n2 n3 n4
            go_wp2_with fail
            have T0' := T0.out
            clear e0 e1 e2 e3 e4
            generalize wr.alloc (.cells #[.int .u8 h.part, .bool h.slow, .int .u16 h.to, .int .u16 h.back, .int .u16 h.kept] 70) = w2 at *
            clear T0
            refine (HS1.out _).mono ?_
            rintro e w3 ⟨rfl, hB⟩
            have T1 := T0'.below hB
            have BB1 := BB.out.trans (hB.mono BB.out.size)
            clear hB T0' BB
            have HT1 := Lib.hid T1
            have HBB1 := Lib.hid BB1
            clear BB1
            obtain ⟨c0, c1, c2, c3, c4, c5⟩ := T1
            go_wp2_with fail
            have T1 := HT1.out
            have BB1 := HBB1.out
            clear HT1 HBB1
            refine (HS2.out _).mono ?_
            rintro e w4 ⟨rfl, hB⟩
            have T2 := T1.below hB
            have BB2 := BB1.trans (hB.mono BB1.size)
            clear hB T1 BB1 c0 c1 c2 c3 c4 c5
            have HT2 := Lib.hid T2
            have HBB2 := Lib.hid BB2
            clear BB2
            obtain ⟨c0, c1, c2, c3, c4, c5⟩ := T2
            go_wp2_with fail
            have T2 := HT2.out
            have BB2 := HBB2.out
            clear HT2 HBB2
            refine (HS3.out _).mono ?_
            rintro e w5 ⟨rfl, hB⟩
            have T3 := T2.below hB
            have BB3 := BB2.trans (hB.mono BB2.size)
            clear hB T2 BB2 c0 c1 c2 c3 c4 c5
            have HT3 := Lib.hid T3
            have HBB3 := Lib.hid BB3
            clear BB3
            obtain ⟨c0, c1, c2, c3, c4, c5⟩ := T3
            go_wp2_with fail
            have T3 := HT3.out
            have BB3 := HBB3.out
            clear HT3 HBB3
            refine (HA.out _).mono ?_
            rintro e w6 ⟨rfl, hG⟩
            have TT := Lib.hid ((threeI_new w5 V1 V2 T 57).below hG.below)
            have BB6 := Lib.hid ((BB3.alloc BB3.size (.cells #[.int .i64 V1, .int .i64 V2, .int .i64 T] 57)).trans (hG.below.mono (by have := BB3.size; simp; omega)))
            clear hG BB3 T3 c0 c1 c2 c3 c4 c5
            generalize w5.heap.size = Y at *
            obtain ⟨t0, t1, t2, t3⟩ := TT.out
            go_wp2_with fail
            refine (HF.out _).mono ?_
            rintro e w7 ⟨rfl, hG⟩
            have TN := Lib.hid (TT.out.below hG.below)
            have BB7 := Lib.hid (BB6.out.trans (hG.below.mono BB6.out.size))
            clear hG BB6 TT t0 t1 t2 t3
            have TT := TN
            clear TN
            obtain ⟨t0, t1, t2, t3⟩ := TT.out
            go_wp2_with fail
            refine (HT.out _).mono ?_
            rintro e w8 ⟨rfl, hG⟩
            have TN := Lib.hid (TT.out.below hG.below)
            have BB8 := Lib.hid (BB7.out.trans (hG.below.mono BB7.out.size))
            clear hG BB7 TT t0 t1 t2 t3
            have TT := TN
            clear TN
            obtain ⟨t0, t1, t2, t3⟩ := TT.out
            go_wp2_with fail
            refine (HD.out _).mono ?_
            rintro e w9 ⟨rfl, hG⟩
            have TN := Lib.hid (TT.out.below hG.below)
            have BB9 := Lib.hid (BB8.out.trans (hG.below.mono BB8.out.size))
            clear hG BB8 TT t0 t1 t2 t3
            have TT := TN
            clear TN
            obtain ⟨t0, t1, t2, t3⟩ := TT.out
            go_wp2_with fail
            go_roundw
            case measure => simp [intOf]; omega
            case rel => exact ⟨k + 1, _, _, _, _, rfl, rfl, rfl, rfl, by go_num, by omega, HI, BB9⟩
      · obtain rfl : k = hs.length := by omega
        go_wp2_with fail
        go_ret
        exact ⟨rfl, B.out⟩
end agchains
end Go.Proofs.Ytnbjkgkkefjaoaa
