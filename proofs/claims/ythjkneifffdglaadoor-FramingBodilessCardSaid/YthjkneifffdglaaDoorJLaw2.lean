/- FramingResponses, FramingBodiless and FramingAgrees: the statements' functions return true: the walks. -/
import Derived.Test.YthjkneifffdglaaDoorJLaw1
import Derived.Test.YthjkneifffdglaaDoorJLen
namespace Go.Proofs.YthjkneifffdglaaDoor
open Go.RowKit

set_option maxHeartbeats 8000000 in
set_option maxRecDepth 100000 in
theorem fr_responses_walk (s : ByteArray) (z : Int) (v : Value) (ps : List (List UInt8 × List UInt8)) (w : World)
    (hg : ReadsQ w v ps ∧ ps.length ≤ maxLen ∧ (∀ q ∈ ps, q.1.length ≤ 140737488355328 ∧ q.2.length ≤ 140737488355328)) :
    Calls Tryd.prog 4 #[.string s, .agg #[.int .i64 z, v]] w fun e w' => e = .returned (.bool true) ∧ Below w.heap.size w w' := by
  obtain ⟨m, rfl⟩ : ∃ m, s = strB m := ⟨s.data.toList, (strB_of s).symm⟩
  obtain ⟨hr, hpl, hpb⟩ := hg
  have HR := Lib.hid hr
  have F := Lib.hid (fun W (hr : ReadsQ W v ps) => fits6_any v ps W hr (by unfold maxLen at hpl; omega) hpb)
  obtain ⟨ao, cap, rfl, hc⟩ := hr
  have hB0 : Below w.heap.size w (w.alloc (.cells #[.int .i64 z, .slice ao ps.length cap] 45)) := below_new _ _
  clear hc hpl hpb
  go_enter Tryd.func4, Tryd.ntmps4
  go_wp2_with fail
  refine (awake6_any _).mono ?_
  rintro e w1 ⟨rfl, hB1⟩
  obtain ⟨b0, b1, _, _, bz⟩ := box_kept w hB1
  have hBx := hB0.trans (hB1.mono hB0.size)
  go_wp2_with fail
  refine (F.out _ (HR.out.below hBx)).mono ?_
  rintro e w2 ⟨rfl, hB2⟩
  have hB12 := hB1.trans (hB2.mono hB1.size)
  have hBy := hB0.trans (hB12.mono hB0.size)
  clear b0 b1 bz hB1 hB2 hBx
  obtain ⟨b0, b1, _, _, bz⟩ := box_kept w hB12
  cases hfit : fits6B ps with
  | false =>
    go_wp2_with fail
    refine (awake6_any _).mono ?_
    rintro e w3 ⟨rfl, hB3⟩
    go_wp2_with fail
    go_ret
    exact ⟨rfl, hBy.trans (hB3.mono hBy.size)⟩
  | true =>
    have hf := fits6_Fits hfit
    have hfe := hf.each
    have hf1 := hf.1
    have Q := Lib.hid (fun W (hr : ReadsQ W (.slice ao ps.length cap) ps) => response_any z (.slice ao ps.length cap) ps W hr (by omega) hfe)
    have P := Lib.hid (fun v W (hr : ReadsQ W v ps) => ofResponse_any m z v ps W hr hf)
    have R := Lib.hid (fun W (hr : ReadsQ W (.slice ao ps.length cap) ps) => refOfResponse_any m z (.slice ao ps.length cap) ps W hr hf)
    unfold OfRes at P
    unfold RefOfRes at R
    generalize ofR (decide (m = headL) || bodB z) (lsF ps) (csF ps) = r at *
    obtain ⟨c, k, n⟩ := r
    clear hf hfe hf1 hfit
    go_wp2_with fail
    refine (Q.out _ (HR.out.below hBy)).mono ?_
    rintro e w3 ⟨a3, n3, c3, rfl, hO3, hB3⟩
    have P := P.out _ _ hO3.q
    have hB13 := hB12.trans (hB3.mono hB12.size)
    have hBz := hB0.trans (hB13.mono hB0.size)
    clear b0 b1 bz hB12 hB3 hBy hO3
    go_wp2_with fail
    refine P.mono ?_
    rintro e w4 ⟨rfl, hB4⟩
    have hB14 := hB13.trans (hB4.mono hB13.size)
    have hBw := hB0.trans (hB14.mono hB0.size)
    clear P hB13 hB4 hBz
    have hB14 := hB14.alloc hB14.size (.cells #[.int .i64 (k : Int), .int .i64 (n : Int)] 28)
    have hBw := hBw.alloc hBw.size (.cells #[.int .i64 (k : Int), .int .i64 (n : Int)] 28)
    obtain ⟨b0, b1, _, _, bz⟩ := box_kept w hB14
    have hx4 := frame_new w4 28 (k : Int) (n : Int)
    obtain ⟨x0, x1, _⟩ := hx4
    have R := R.out _ (HR.out.below hBw)
    go_wp2_with fail
    refine R.mono ?_
    rintro e w5 ⟨rfl, hB5⟩
    have y0 := (hB5.cell (p := ⟨w4.heap.size, 0, none⟩) (by simp)).trans x0
    have y1 := (hB5.cell (p := ⟨w4.heap.size, 1, none⟩) (by simp)).trans x1
    have yz : w4.heap.size < w5.heap.size := Nat.lt_of_lt_of_le (by simp) hB5.size
    have hBv := hBw.trans (hB5.mono hBw.size)
    clear R hB14 hBw b0 b1 bz x0 x1 hB5
    go_wp2_with fail
    refine (num6_any c _).mono ?_
    rintro e w' ⟨rfl, rfl⟩
    go_wp2_with fail
    refine (is_same k n _).mono ?_
    rintro e w6 ⟨rfl, hB6⟩
    go_wp2_with fail
    go_ret
    exact ⟨rfl, (hBv.alloc hBv.size _).trans (hB6.mono (hBv.alloc hBv.size _).size)⟩
theorem ofR_kinds {hd : Bool} {ls cs : List (List UInt8)} : ((ofR hd ls cs).1 ≠ 0 → (ofR hd ls cs).2 = (0, 0)) ∧ ((ofR hd ls cs).1 = 0 → (hd = true → (ofR hd ls cs).2 = (1, 0)) ∧ (hd = false → (ofR hd ls cs).2.1 ≠ 1 ∧ ((ofR hd ls cs).2.1 = 2 ∨ (ofR hd ls cs).2.2 = 0))) := by
  have hk : ∀ cs, (codS cs).1 = 0 → (codS cs).2 = (3, 0) := by
    intro cs h
    unfold codS at h ⊢
    repeat' split at h
    all_goals first | (exfalso; simp at h; done) | (split <;> simp_all)
  have hl : ∀ ls, (lensS ls).1 = 0 → (lensS ls).2.1 = 2 := by
    intro ls h
    unfold lensS at h ⊢
    repeat' split at h
    all_goals first | (exfalso; simp at h; done) | skip
    all_goals simp_all
    rename_i a b
    rw [if_pos a, if_neg (by omega)]
  by_cases h0 : (ofO 4 ls cs).1 = 0
  · cases hd with
    | true => rw [ofR_hd h0]; simp
    | false =>
      rw [ofR_body]
      refine ⟨fun h => absurd h0 h, fun _ => ⟨fun h => (by cases h), fun _ => ?_⟩⟩
      by_cases h1 : ls = []
      · by_cases h2 : cs = []
        · rw [ofO_none h1 h2]; simp
        · rw [ofO_cod h1 h2] at h0 ⊢; rw [hk cs h0]; simp
      · by_cases h2 : cs = []
        · rw [ofO_len h1 h2] at h0 ⊢; rw [hl ls h0]; simp
        · rw [ofO_both h1 h2] at h0; simp at h0
  · rw [ofR_err h0]; exact ⟨fun _ => rfl, fun h => absurd h h0⟩
theorem quo_one (z : Int) : z.tdiv 100 = 1 ↔ 100 ≤ z ∧ z ≤ 199 := by
  by_cases h : 0 ≤ z
  · rw [Int.tdiv_eq_ediv_of_nonneg h]; omega
  · have e : z.tdiv 100 = -((-z).tdiv 100) := by rw [Int.neg_tdiv]; omega
    rw [e, Int.tdiv_eq_ediv_of_nonneg (by omega)]; omega
def InI (z : Int) : Prop := -9223372036854775808 ≤ z ∧ z ≤ 9223372036854775807
theorem quo_in {z : Int} (h : InI z) : wrap64 (z.tdiv 100) = z.tdiv 100 := by
  obtain ⟨h1, h2⟩ := h
  apply IntWalk.wrap64_in
  by_cases h : 0 ≤ z
  · rw [Int.tdiv_eq_ediv_of_nonneg h]; omega
  · have e : z.tdiv 100 = -((-z).tdiv 100) := by rw [Int.neg_tdiv]; omega
    rw [e, Int.tdiv_eq_ediv_of_nonneg (by omega)]; omega
theorem quo_yes {z : Int} (hi : InI z) (h : 100 ≤ z ∧ z ≤ 199) : (wrap64 (z.tdiv 100) == 1) = true := by rw [beq_iff_eq, quo_in hi]; exact (quo_one z).2 h
theorem quo_no {z : Int} (hi : InI z) (h : z < 100 ∨ 199 < z) : (wrap64 (z.tdiv 100) == 1) = false := by rw [beq_eq_false_iff_ne, quo_in hi]; intro e; have := (quo_one z).1 e; omega
set_option maxHeartbeats 8000000 in
set_option maxRecDepth 100000 in
theorem fr_bodiless_walk (s : ByteArray) (z : Int) (v : Value) (ps : List (List UInt8 × List UInt8)) (w : World) (hzi : InI z)
    (hg : ReadsQ w v ps ∧ ps.length ≤ maxLen ∧ (∀ q ∈ ps, q.1.length ≤ 140737488355328 ∧ q.2.length ≤ 140737488355328)) :
    Calls Tryd.prog 7 #[.string s, .agg #[.int .i64 z, v]] w fun e w' => e = .returned (.bool true) ∧ Below w.heap.size w w' := by
  obtain ⟨m, rfl⟩ : ∃ m, s = strB m := ⟨s.data.toList, (strB_of s).symm⟩
  obtain ⟨hr, hpl, hpb⟩ := hg
  have HR := Lib.hid hr
  have F := Lib.hid (fun W (hr : ReadsQ W v ps) => fits6_any v ps W hr (by unfold maxLen at hpl; omega) hpb)
  obtain ⟨ao, cap, rfl, hc⟩ := hr
  have hB0 : Below w.heap.size w (w.alloc (.cells #[.int .i64 z, .slice ao ps.length cap] 45)) := below_new _ _
  clear hc hpl hpb
  go_enter Tryd.func7, Tryd.ntmps7
  go_wp2_with fail
  refine (awake6_any _).mono ?_
  rintro e w1 ⟨rfl, hB1⟩
  obtain ⟨b0, b1, _, _, bz⟩ := box_kept w hB1
  have hBx := hB0.trans (hB1.mono hB0.size)
  go_wp2_with fail
  refine (F.out _ (HR.out.below hBx)).mono ?_
  rintro e w2 ⟨rfl, hB2⟩
  have hB12 := hB1.trans (hB2.mono hB1.size)
  have hBy := hB0.trans (hB12.mono hB0.size)
  clear b0 b1 bz hB1 hB2 hBx
  obtain ⟨b0, b1, _, _, bz⟩ := box_kept w hB12
  cases hfit : fits6B ps with
  | false =>
    go_wp2_with fail
    refine (awake6_any _).mono ?_
    rintro e w3 ⟨rfl, hB3⟩
    go_wp2_with fail
    go_ret
    exact ⟨rfl, hBy.trans (hB3.mono hBy.size)⟩
  | true =>
    have hf := fits6_Fits hfit
    have hfe := hf.each
    have hf1 := hf.1
    have Q := Lib.hid (fun W (hr : ReadsQ W (.slice ao ps.length cap) ps) => response_any z (.slice ao ps.length cap) ps W hr (by omega) hfe)
    have P := Lib.hid (fun v W (hr : ReadsQ W v ps) => ofResponse_any m z v ps W hr hf)
    unfold OfRes at P
    have K := Lib.hid (@ofR_kinds (decide (m = headL) || bodB z) (lsF ps) (csF ps))
    generalize ofR (decide (m = headL) || bodB z) (lsF ps) (csF ps) = r at *
    obtain ⟨c, k, n⟩ := r
    clear hf hfe hf1 hfit
    go_wp2_with fail
    refine (Q.out _ (HR.out.below hBy)).mono ?_
    rintro e w3 ⟨a3, n3, c3, rfl, hO3, hB3⟩
    have hB13 := hB12.trans (hB3.mono hB12.size)
    have hBz := hB0.trans (hB13.mono hB0.size)
    have P := P.out _ _ (hO3.q.below (below_new _ (.cells #[.int .i64 z, .slice a3 n3 c3] 48)))
    have hB13 := hB13.alloc hB13.size (.cells #[.int .i64 z, .slice a3 n3 c3] 48)
    have hBz := hBz.alloc hBz.size (.cells #[.int .i64 z, .slice a3 n3 c3] 48)
    clear b0 b1 bz hB12 hB3 hBy hO3
    go_wp2_with fail
    refine P.mono ?_
    rintro e w4 ⟨rfl, hB4⟩
    have hB14 := hB13.trans (hB4.mono hB13.size)
    have hBw := hBz.trans (hB4.mono hBz.size)
    have hB14 := hB14.alloc hB14.size (.cells #[.int .i64 (k : Int), .int .i64 (n : Int)] 28)
    have HBF := Lib.hid (hBw.alloc hBw.size (.cells #[.int .i64 (k : Int), .int .i64 (n : Int)] 28))
    obtain ⟨b0, b1, _, _, bz⟩ := box_kept w hB14
    clear P hB13 hB4 hBz hBw hB14
    by_cases hc0 : c = 0
    · subst hc0
      rw [show errV 0 = .nilIface from rfl]
      obtain ⟨K1, K2⟩ := K.out.2 rfl
      by_cases hm : m = headL
      · have heq := head_eq hm
        have K := K1 (by rw [decide_eq_true hm, Bool.true_or])
        simp only [Prod.mk.injEq] at K
        have e1 : ((k : Int) == 1) = true := by rw [K.1]; rfl
        have e2 : ((k : Int) == 2) = false := by rw [K.1]; rfl
        have e3 : ((n : Int) == 0) = true := by rw [K.2]; rfl
        clear hm K1 K2 K
        go_wp2_with fail
        go_ret
        exact ⟨rfl, HBF.out⟩
      · have heq := head_ne hm
        have HD := Lib.hid (decide_eq_false hm)
        clear hm
        cases hb : bodB z with
        | true =>
          have K := K1 (by rw [hb, Bool.or_true])
          simp only [Prod.mk.injEq] at K
          have e1 : ((k : Int) == 1) = true := by rw [K.1]; rfl
          have e2 : ((k : Int) == 2) = false := by rw [K.1]; rfl
          have e3 : ((n : Int) == 0) = true := by rw [K.2]; rfl
          rcases bod_yes hb with hz | hz | hz
          · have hq := quo_yes hzi hz
            clear hb K1 K2 K hz hzi
            go_wp2_with fail
            go_ret
            exact ⟨rfl, HBF.out⟩
          · have hq := quo_no hzi (by omega)
            have q2 : (z == 204) = true := by rw [hz]; rfl
            clear hb K1 K2 K hz hzi
            go_wp2_with fail
            go_ret
            exact ⟨rfl, HBF.out⟩
          · have hq := quo_no hzi (by omega)
            have q2 : (z == 204) = false := by rw [hz]; rfl
            have q3 : (z == 304) = true := by rw [hz]; rfl
            clear hb K1 K2 K hz hzi
            go_wp2_with fail
            go_ret
            exact ⟨rfl, HBF.out⟩
        | false =>
          obtain ⟨K3, K4⟩ := K2 (by rw [hb, HD.out]; rfl)
          have e1 : ((k : Int) == 1) = false := by rw [beq_eq_false_iff_ne]; intro h; exact K3 (by show k = 1; omega)
          obtain ⟨hz1, hz2, hz3⟩ := bod_no hb
          have hq := quo_no hzi hz1
          have q2 : (z == 204) = false := by rw [beq_eq_false_iff_ne]; exact hz2
          have q3 : (z == 304) = false := by rw [beq_eq_false_iff_ne]; exact hz3
          by_cases h2 : k = 2
          · have e2 : ((k : Int) == 2) = true := by rw [h2]; rfl
            clear hb K1 K2 K3 K4 hz1 hz2 hz3 h2 hzi
            go_wp2_with fail
            go_ret
            exact ⟨rfl, HBF.out⟩
          · have e2 : ((k : Int) == 2) = false := by rw [beq_eq_false_iff_ne]; omega
            have e3 : ((n : Int) == 0) = true := by
              rcases K4 with h | h
              · exact absurd h h2
              · have h : n = 0 := h
                rw [h]; rfl
            clear hb K1 K2 K3 K4 hz1 hz2 hz3 h2 hzi
            go_wp2_with fail
            go_ret
            exact ⟨rfl, HBF.out⟩
    · rw [errV_no' hc0]
      have K := K.out.1 hc0
      simp only [Prod.mk.injEq] at K
      have e1 : ((k : Int) == 0) = true := by rw [K.1]; rfl
      have e3 : ((n : Int) == 0) = true := by rw [K.2]; rfl
      clear K
      go_wp2_with fail
      go_ret
      exact ⟨rfl, HBF.out⟩
/-- A request and its frame lie in their variables, and the request's fields are read. -/
def AgS (M N : Nat) (m t : List UInt8) (v : Value) (ps : Flds) (k n : Nat) (w w' : World) : Prop :=
  w'.cell? ⟨M, 0, none⟩ = some (.string (strB m)) ∧ w'.cell? ⟨M, 1, none⟩ = some (.string (strB t)) ∧ w'.cell? ⟨M, 2, none⟩ = some v ∧ w'.cell? ⟨N, 0, none⟩ = some (.int .i64 (k : Int)) ∧ w'.cell? ⟨N, 1, none⟩ = some (.int .i64 (n : Int)) ∧
    M < w'.heap.size ∧ N < w'.heap.size ∧ ReadsQ w' v ps ∧ HasMax w' ∧ Below w.heap.size w w'
theorem AgS.below {M N : Nat} {m t : List UInt8} {v : Value} {ps : Flds} {k n : Nat} {w w1 w2 : World} (h : AgS M N m t v ps k n w w1) (hb : Below w1.heap.size w1 w2) : AgS M N m t v ps k n w w2 := by
  obtain ⟨a0, a1, a2, b0, b1, hM, hN, r, hx, hB⟩ := h
  exact ⟨(hb.cell (p := ⟨M, 0, none⟩) hM).trans a0, (hb.cell (p := ⟨M, 1, none⟩) hM).trans a1, (hb.cell (p := ⟨M, 2, none⟩) hM).trans a2, (hb.cell (p := ⟨N, 0, none⟩) hN).trans b0, (hb.cell (p := ⟨N, 1, none⟩) hN).trans b1,
    Nat.lt_of_lt_of_le hM hb.size, Nat.lt_of_lt_of_le hN hb.size, r.below hb, hx.below hb, hB.trans (hb.mono hB.size)⟩
theorem lenient_A {M N : Nat} {m t : List UInt8} {v : Value} {ps : Flds} {k n : Nat} {w w1 : World} (f : Bool) (h : AgS M N m t v ps k n w w1) (hf : Fits ps) (he : ∀ b, lenP ps b = (k, n)) :
    Calls Tryd.prog 21 #[.agg #[.string (strB m), .string (strB t), v], .bool f] w1 (fun e w' => e = .returned (frV k n) ∧ AgS M N m t v ps k n w w') := by
  have := lenient_any m t v ps f w1 h.2.2.2.2.2.2.2.1 hf h.2.2.2.2.2.2.2.2.1
  rw [he f] at this
  exact this.mono fun _ _ ⟨he, hb⟩ => ⟨he, h.below hb⟩
theorem ambiguous_A {M N : Nat} {m t : List UInt8} {v : Value} {ps : Flds} {k n : Nat} {w w1 : World} (h : AgS M N m t v ps k n w w1) (hf : Fits ps) (he : ∀ b, lenP ps b = (k, n)) :
    Calls Tryd.prog 20 #[.agg #[.string (strB m), .string (strB t), v]] w1 (fun e w' => e = .returned (.bool false) ∧ AgS M N m t v ps k n w w') := by
  have := ambiguous_any m t v ps w1 h.2.2.2.2.2.2.2.1 hf h.2.2.2.2.2.2.2.2.1
  rw [he true, he false] at this
  exact this.mono fun _ _ ⟨he, hb⟩ => ⟨by rw [he]; simp, h.below hb⟩
set_option maxHeartbeats 16000000 in
set_option maxRecDepth 100000 in
theorem fr_agrees_walk (m t : List UInt8) (v : Value) (ps : List (List UInt8 × List UInt8)) (w : World) (hM : HasMax w)
    (hg : m.length ≤ 140737488355328 ∧ t.length ≤ 140737488355328 ∧ ReadsQ w v ps ∧ ps.length ≤ maxLen ∧ (∀ q ∈ ps, q.1.length ≤ 140737488355328 ∧ q.2.length ≤ 140737488355328)) :
    Calls Tryd.prog 5 #[.agg #[.string (strB m), .string (strB t), v]] w fun e w' => e = .returned (.bool true) ∧ Below w.heap.size w w' := by
  obtain ⟨hm, ht, hr, hpl, hpb⟩ := hg
  have HR := Lib.hid hr
  have HM := Lib.hid hM
  have F := Lib.hid (fun W (hr : ReadsQ W v ps) => fits6_any v ps W hr (by unfold maxLen at hpl; omega) hpb)
  obtain ⟨ao, cap, rfl, hc⟩ := hr
  have hB0 : Below w.heap.size w (w.alloc (.cells #[.string (strB m), .string (strB t), .slice ao ps.length cap] 24)) := below_new _ _
  clear hc hpl hpb hM
  go_enter Tryd.func5, Tryd.ntmps5
  go_wp2_with fail
  refine (awake6_any _).mono ?_
  rintro e w1 ⟨rfl, hB1⟩
  obtain ⟨b0, b1, b2, bz⟩ := trio_kept w hB1
  have hBx := hB0.trans (hB1.mono hB0.size)
  go_wp2_with fail
  refine (F.out _ (HR.out.below hBx)).mono ?_
  rintro e w2 ⟨rfl, hB2⟩
  have hB12 := hB1.trans (hB2.mono hB1.size)
  have hBy := hB0.trans (hB12.mono hB0.size)
  clear b0 b1 b2 bz hB1 hB2 hBx
  obtain ⟨b0, b1, b2, bz⟩ := trio_kept w hB12
  cases hfit : fits6B ps with
  | false =>
    go_wp2_with fail
    refine (awake6_any _).mono ?_
    rintro e w3 ⟨rfl, hB3⟩
    go_wp2_with fail
    go_ret
    exact ⟨rfl, hBy.trans (hB3.mono hBy.size)⟩
  | true =>
    have hf := fits6_Fits hfit
    have hfe := hf.each
    have hf1 := hf.1
    have Q := Lib.hid (fun W (hr : ReadsQ W (.slice ao ps.length cap) ps) => request_any m t (.slice ao ps.length cap) ps W hr (by omega) hfe)
    have P := Lib.hid (fun v W (hr : ReadsQ W v ps) => ofRequest_any m t v ps W hr hf)
    unfold OfRes at P
    have HF := Lib.hid hf
    have AG := Lib.hid (fun k n (h : ofO 1 (lsF ps) (csF ps) = (0, k, n)) => ofS_agrees h)
    have ER := Lib.hid (@ofO_err 1 (lsF ps) (csF ps))
    generalize hr0 : ofO 1 (lsF ps) (csF ps) = r at *
    obtain ⟨c, k, n⟩ := r
    clear hf hfe hf1 hfit hr0
    go_wp2_with fail
    refine (Q.out _ (HR.out.below hBy)).mono ?_
    rintro e w3 ⟨a3, n3, c3, rfl, hO3, hB3⟩
    have hB13 := hB12.trans (hB3.mono hB12.size)
    have hBz := hBy.trans (hB3.mono hBy.size)
    have hbn := below_new w3 (.cells #[.string (strB m), .string (strB t), .slice a3 n3 c3] 36)
    have hx : ∀ j, (w3.alloc (.cells #[.string (strB m), .string (strB t), .slice a3 n3 c3] 36)).cell? ⟨w3.heap.size, j, none⟩ = (#[.string (strB m), .string (strB t), .slice a3 n3 c3] : Array Value)[j]? := fun j => by rw [World.cell?_alloc_at _ _ _ _ rfl]
    have x0 := hx 0
    have x1 := hx 1
    have x2 := hx 2
    have xz : w3.heap.size < (w3.alloc (.cells #[.string (strB m), .string (strB t), .slice a3 n3 c3] 36)).heap.size := by simp
    have hR3 := hO3.q.below hbn
    have P := P.out _ _ hR3
    have HR3 := Lib.hid hR3
    have HB := Lib.hid (hBz.trans (hbn.mono hBz.size))
    clear b0 b1 b2 bz hB12 hB3 hBy hO3 hB13 hBz hx hR3 hbn
    go_wp2_with fail
    refine P.mono ?_
    rintro e w4 ⟨rfl, hB4⟩
    have y0 := (hB4.cell (p := ⟨w3.heap.size, 0, none⟩) xz).trans x0
    have y1 := (hB4.cell (p := ⟨w3.heap.size, 1, none⟩) xz).trans x1
    have y2 := (hB4.cell (p := ⟨w3.heap.size, 2, none⟩) xz).trans x2
    have yz := Nat.lt_of_lt_of_le xz hB4.size
    have HB4 := Lib.hid (HB.out.trans (hB4.mono HB.out.size))
    by_cases hc0 : c = 0
    · subst hc0
      rw [show errV 0 = .nilIface from rfl]
      obtain ⟨he, hk1, hk3, hn⟩ := AG.out k n rfl
      have HE := Lib.hid (show ∀ b, lenP ps b = (k, n) from he)
      have hR4 := HR3.out.below hB4
      clear he P x0 x1 x2 xz hB4 AG ER
      go_upto_region 7 with fail
      have hbn := below_new w4 (.cells #[.int .i64 (k : Int), .int .i64 (n : Int)] 28)
      obtain ⟨z0, z1, _⟩ := frame_new w4 28 (k : Int) (n : Int)
      have hS0 : AgS w3.heap.size w4.heap.size m t (.slice a3 n3 c3) ps k n w (w4.alloc (.cells #[.int .i64 (k : Int), .int .i64 (n : Int)] 28)) :=
        ⟨(hbn.cell (p := ⟨w3.heap.size, 0, none⟩) yz).trans y0, (hbn.cell (p := ⟨w3.heap.size, 1, none⟩) yz).trans y1, (hbn.cell (p := ⟨w3.heap.size, 2, none⟩) yz).trans y2, z0, z1, by simp; omega, by simp, hR4.below hbn, (HM.out.below HB4.out).below hbn, HB4.out.trans (hbn.mono HB4.out.size)⟩
      clear y0 y1 y2 z0 z1 hbn hR4
      generalize (w4.alloc (.cells #[.int .i64 (k : Int), .int .i64 (n : Int)] 28)) = W at *
      generalize w4.heap.size = N at *
      generalize w3.heap.size = M at *
      have hSd := hS0.below (Below.refl _ _).drew
      have i1 : (1 : Int) ≤ (k : Int) := by omega
      have i2 : (k : Int) ≤ 3 := by omega
      have i3 : (0 : Int) ≤ (n : Int) := by omega
      have i4 : (n : Int) ≤ 65536 := by omega
      clear hk1 hk3 hn yz
      go_region_held3 (fun w' => w'.cell? ⟨M, 0, none⟩ = some (.string (strB m)) ∧ w'.cell? ⟨M, 1, none⟩ = some (.string (strB t)) ∧ w'.cell? ⟨M, 2, none⟩ = some (.slice a3 n3 c3) ∧ w'.cell? ⟨N, 0, none⟩ = some (.int .i64 (k : Int)) ∧ w'.cell? ⟨N, 1, none⟩ = some (.int .i64 (n : Int)) ∧ M < w'.heap.size ∧ N < w'.heap.size ∧ ReadsQ w' (.slice a3 n3 c3) ps ∧ HasMax w' ∧ Below w.heap.size w w')
        (first | exact hK | exact hSd)
        (first
          | (go_at_call 21; refine (lenient_A _ (by first | exact hSd | assumption) HF.out HE.out).mono ?_; rintro e w10 ⟨rfl, hK⟩)
          | (go_at_call 20; refine (ambiguous_A (by first | exact hSd | assumption) HF.out HE.out).mono ?_; rintro e w10 ⟨rfl, hK⟩))
      have hBf := hK.2.2.2.2.2.2.2.2.2
      go_wp2_with fail
      go_ret
      exact ⟨rfl, hBf⟩
    · rw [errV_no' hc0]
      have K := ER.out hc0
      simp only [Prod.mk.injEq] at K
      have e1 : ((k : Int) == 0) = true := by rw [K.2.1]; rfl
      have e3 : ((n : Int) == 0) = true := by rw [K.2.2]; rfl
      clear K P
      go_wp2_with fail
      go_ret
      exact ⟨rfl, HB4.out.alloc HB4.out.size _⟩
end Go.Proofs.YthjkneifffdglaaDoor
