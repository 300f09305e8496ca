/- What the reference's lowest, highest, At and Left return. -/
import Derived.Test.YtnbjkgkkefjaoaaZLeft
namespace Go.Proofs.Ytnbjkgkkefjaoaa
open Go.RowKit Go.Sort

theorem up_eq (a b : Int) (hb : 0 < b) : (a + b - 1) / b = if a / b * b < a then a / b + 1 else a / b := by
  have h1 := div_lo a b hb
  have h2 := div_hi a b hb
  have g1 := div_lo (a + b - 1) b hb
  have g2 := div_hi (a + b - 1) b hb
  obtain ⟨q, hq⟩ : ∃ q, a / b = q := ⟨_, rfl⟩
  obtain ⟨z, hz⟩ : ∃ z, (a + b - 1) / b = z := ⟨_, rfl⟩
  rw [hq] at h1 h2 ⊢
  rw [hz] at g1 g2 ⊢
  split
  · next h =>
    have u1 : q < z := lt_of_prod (c := b) (by omega) (by omega)
    have u2 : (z - 1) * b < (q + 1) * b := by rw [Int.sub_mul, Int.add_mul]; omega
    have u3 : z - 1 < q + 1 := lt_of_prod u2 (by omega)
    omega
  · next h =>
    have e : q * b = a := by omega
    have u1 : q ≤ z := by
      have : q * b < (z + 1) * b := by rw [Int.add_mul]; omega
      have := lt_of_prod this (by omega); omega
    have u2 : z * b < (q + 1) * b := by rw [Int.add_mul]; omega
    have u3 : z < q + 1 := lt_of_prod u2 (by omega)
    omega
set_option maxHeartbeats 1000000 in
theorem up_any (a b : Int) (ha : 0 ≤ a ∧ a < 4611686018427387904) (hb : 0 < b ∧ b < 4611686018427387904) (w : World) :
    Calls Try.prog 50 #[.int .i64 a, .int .i64 b] w fun e w' => e = .returned (.int .i64 ((a + b - 1) / b)) ∧ w = w' := by
  have e := Lib.hid (up_eq a b hb.1)
  have q1 := Int.ediv_nonneg (a := a) (b := b) ha.1 (by omega)
  have q2 := Int.ediv_le_self (a := a) b ha.1
  have q3 := div_lo a b hb.1
  have q4 : 0 ≤ a / b * b := Int.mul_nonneg q1 (by omega)
  have hw : wrap64 (a.tdiv b) = a / b := by rw [Int.tdiv_eq_ediv_of_nonneg ha.1]; exact wrap_in (by omega) (by omega)
  have hw2 : wrap64 (a / b) = a / b := wrap_in (by omega) (by omega)
  have hw3 : wrap64 (a / b * b) = a / b * b := wrap_in (by omega) (by omega)
  obtain ⟨q, hq⟩ : ∃ q, a / b = q := ⟨_, rfl⟩
  rw [hq] at e q1 q2 q3 q4 hw hw2 hw3
  obtain ⟨z, hz⟩ : ∃ z, q * b = z := ⟨_, rfl⟩
  rw [hz] at e q3 q4 hw3
  have hb0 : (b == 0) = false := by simp; omega
  by_cases h : z < a
  · rw [if_pos h] at e
    go_enter Try.func50, Try.ntmps50
    go_wp2
    go_ret
    exact ⟨ret_i e.out.symm, rfl⟩
  · rw [if_neg h] at e
    go_enter Try.func50, Try.ntmps50
    go_wp2
    go_ret
    exact ⟨ret_i e.out.symm, rfl⟩
set_option maxHeartbeats 1000000 in
theorem down_any (a b : Int) (ha : 0 ≤ a ∧ a < 4611686018427387904) (hb : 0 < b ∧ b < 4611686018427387904) (w : World) :
    Calls Try.prog 51 #[.int .i64 a, .int .i64 b] w fun e w' => e = .returned (.int .i64 (a / b)) ∧ w = w' := by
  have q1 := Int.ediv_nonneg (a := a) (b := b) ha.1 (by omega)
  have q2 := Int.ediv_le_self (a := a) b ha.1
  have q3 := div_lo a b hb.1
  have q4 : 0 ≤ a / b * b := Int.mul_nonneg q1 (by omega)
  have hw : wrap64 (a.tdiv b) = a / b := by rw [Int.tdiv_eq_ediv_of_nonneg ha.1]; exact wrap_in (by omega) (by omega)
  have hw2 : wrap64 (a / b) = a / b := wrap_in (by omega) (by omega)
  have hw3 : wrap64 (a / b * b) = a / b * b := wrap_in (by omega) (by omega)
  obtain ⟨q, hq⟩ : ∃ q, a / b = q := ⟨_, rfl⟩
  rw [hq] at q1 q2 q3 q4 hw hw2 hw3 ⊢
  obtain ⟨z, hz⟩ : ∃ z, q * b = z := ⟨_, rfl⟩
  rw [hz] at q3 q4 hw3
  have hb0 : (b == 0) = false := by simp; omega
  go_enter Try.func51, Try.ntmps51
  go_wp2
  go_ret
  exact ⟨ret_i hq, rfl⟩
set_option maxHeartbeats 1000000 in
theorem lowest_any (n p : Int) (hn : 0 ≤ n ∧ n ≤ 1099511627776) (w : World) :
    Calls Try.prog 46 #[.int .i64 n, .int .i64 p] w fun e w' => e = .returned (.int .i64 (loE n (pm p))) ∧ w = w' := by
  have b := pm_bd p
  by_cases h : n = 0
  · subst h
    go_enter Try.func46, Try.ntmps46
    go_wp2
    go_ret
    exact ⟨ret_i (lo_zero _).symm, rfl⟩
  · have h0 : (n == 0) = false := by simpa using h
    have HP := Lib.hid (fun W => refPpm_any p W)
    have E := Lib.hid (show loE n (pm p) = (n - 1) * 1000000 / (1000000 + pm p) + 1 from if_neg h)
    have HD := Lib.hid (fun W => down_any ((n - 1) * 1000000) (1000000 + pm p) (by omega) (by omega) W)
    have lb := lo_bd n (pm p) hn.1 b.1 b.2
    obtain ⟨P, hP⟩ : ∃ P, pm p = P := ⟨_, rfl⟩
    obtain ⟨X, hX⟩ : ∃ X, (n - 1) * 1000000 / (1000000 + pm p) = X := ⟨_, rfl⟩
    rw [E.out] at lb
    rw [hX] at HD lb E
    rw [hP] at b HP HD E ⊢
    clear hP hX h
    go_enter Try.func46, Try.ntmps46
    go_wp2_with fail
    refine (HP.out _).mono ?_
    rintro e w' ⟨rfl, rfl⟩
    go_wp2_with fail
    refine (HD.out _).mono ?_
    rintro e w' ⟨rfl, rfl⟩
    go_wp2_with fail
    go_ret
    exact ⟨ret_i E.out.symm, rfl⟩
set_option maxHeartbeats 1000000 in
theorem highest_any (n p : Int) (hn : 0 ≤ n ∧ n ≤ 1099511627776) (w : World) :
    Calls Try.prog 45 #[.int .i64 n, .int .i64 p] w fun e w' => e = .returned (.int .i64 (hiE n (pm p))) ∧ w = w' := by
  have b := pm_bd p
  have HP := Lib.hid (fun W => refPpm_any p W)
  have E := Lib.hid (show hiE n (pm p) = ((n + 1) * 1000000 + (1000000 - pm p) - 1) / (1000000 - pm p) - 1 from rfl)
  have HD := Lib.hid (fun W => up_any ((n + 1) * 1000000) (1000000 - pm p) (by omega) (by omega) W)
  have lb := hi_bd n (pm p) hn.1 b.1 b.2
  obtain ⟨P, hP⟩ : ∃ P, pm p = P := ⟨_, rfl⟩
  obtain ⟨X, hX⟩ : ∃ X, ((n + 1) * 1000000 + (1000000 - pm p) - 1) / (1000000 - pm p) = X := ⟨_, rfl⟩
  rw [E.out] at lb
  rw [hX] at HD lb E
  rw [hP] at b HP HD E ⊢
  clear hP hX
  go_enter Try.func45, Try.ntmps45
  go_wp2_with fail
  refine (HP.out _).mono ?_
  rintro e w' ⟨rfl, rfl⟩
  go_wp2_with fail
  refine (HD.out _).mono ?_
  rintro e w' ⟨rfl, rfl⟩
  go_wp2_with fail
  go_ret
  exact ⟨ret_i E.out.symm, rfl⟩
def atR (s r a n p : Int) : Value := if okA s r n = true then .tuple #[.int .i64 (lowA r n p), .int .i64 (topA s a n p), .int .i64 0] else .tuple #[.int .i64 0, .int .i64 0, .int .i64 7]
theorem atR_yes {s r a n p : Int} (h : okA s r n = true) : atR s r a n p = .tuple #[.int .i64 (lowA r n p), .int .i64 (topA s a n p), .int .i64 0] := if_pos h
theorem atR_no {s r a n p : Int} (h : okA s r n = false) : atR s r a n p = .tuple #[.int .i64 0, .int .i64 0, .int .i64 7] := if_neg (by rw [h]; simp)
set_option maxHeartbeats 4000000 in
theorem refAt_any (s r a n p : Int) (w : World) :
    Calls Try.prog 29 #[tmV s r a, .int .i64 n, .int .i64 p] w fun e w' => e = .returned (atR s r a n p) ∧ Gr w w' := by
  have H0 := Lib.hid (fun W => refTime_any n W)
  have H1 := Lib.hid (fun W => refTime_any s W)
  have H2 := Lib.hid (fun W => refTime_any r W)
  have b1 := tk_bd s
  have b2 := tk_bd r
  have b3 := tk_bd n
  have b4 := pm_bd p
  have b5 := addA_bd a
  have eok := Lib.hid (show okA s r n = decide (tk s ≤ tk r ∧ tk r ≤ tk n) from rfl)
  have eV := Lib.hid (show atR s r a n p = if okA s r n = true then .tuple #[.int .i64 (loE (tk n - tk r) (pm p)), .int .i64 (hiE (tk n - tk s) (pm p) + addA a), .int .i64 0] else .tuple #[.int .i64 0, .int .i64 0, .int .i64 7] from rfl)
  rw [eok.out] at eV
  clear eok
  obtain ⟨S, hS⟩ : ∃ S, tk s = S := ⟨_, rfl⟩
  obtain ⟨R, hR⟩ : ∃ R, tk r = R := ⟨_, rfl⟩
  obtain ⟨M, hM⟩ : ∃ M, tk n = M := ⟨_, rfl⟩
  have HA := Lib.hid (show addA a = if a < 0 then 0 else (min a 2147483647 + 1) * 1000 from rfl)
  rw [hS] at H1 eV b1
  rw [hR] at H2 eV b2
  rw [hM] at H0 eV b3
  clear hS hR hM
  by_cases h1 : R < S
  · rw [decide_eq_false (by omega), if_neg (by simp)] at eV
    go_enter Try.func29, Try.ntmps29
    go_wp2_with fail
    go_quiet (first | with_reducible exact Calls.quietC H0.out _ _ | with_reducible exact Calls.quietC H1.out _ _ | with_reducible exact Calls.quietC H2.out _ _)
    go_wp2_with fail
    go_ret3
    exact ⟨by rw [eV.out]; rfl, (gr_new _ _).drewN _⟩
  · by_cases h2 : M < R
    · rw [decide_eq_false (by omega), if_neg (by simp)] at eV
      go_enter Try.func29, Try.ntmps29
      go_wp2_with fail
      go_quiet (first | with_reducible exact Calls.quietC H0.out _ _ | with_reducible exact Calls.quietC H1.out _ _ | with_reducible exact Calls.quietC H2.out _ _)
      go_wp2_with fail
      go_ret3
      exact ⟨by rw [eV.out]; rfl, (gr_new _ _).drewN _⟩
    · rw [decide_eq_true (by omega), if_pos rfl] at eV
      have E1 := Lib.hid (fun W => lowest_any (M - R) p (by omega) W)
      have E2 := Lib.hid (fun W => highest_any (M - S) p (by omega) W)
      have u := hi_bd (M - S) (pm p) (by omega) b4.1 b4.2
      obtain ⟨L, hL⟩ : ∃ L, loE (M - R) (pm p) = L := ⟨_, rfl⟩
      obtain ⟨U, hU⟩ : ∃ U, hiE (M - S) (pm p) = U := ⟨_, rfl⟩
      rw [hL] at E1 eV
      rw [hU] at E2 eV u
      clear hL hU
      have u2 : 0 ≤ U ∧ U ≤ 2199023255552 := by omega
      clear u
      by_cases ha : a < 0
      · rw [HA.out, if_pos ha] at eV
        clear b5
        go_enter Try.func29, Try.ntmps29
        go_wp2_with fail
        go_quiet (first | with_reducible exact Calls.quietC H0.out _ _ | with_reducible exact Calls.quietC H1.out _ _ | with_reducible exact Calls.quietC H2.out _ _)
        go_wp2_with fail
        refine (E2.out _).mono ?_
        rintro e w' ⟨rfl, rfl⟩
        go_wp2_with fail
        refine (E1.out _).mono ?_
        rintro e w' ⟨rfl, rfl⟩
        go_wp2_with fail
        go_ret3
        exact ⟨by rw [eV.out]; simp, (gr_new _ _).drewN _⟩
      · rw [HA.out, if_neg ha] at eV
        clear b5
        obtain ⟨mA, hmA⟩ : ∃ mA, min a 2147483647 = mA := ⟨_, rfl⟩
        have mb : 0 ≤ mA ∧ mA ≤ 2147483647 := by omega
        rw [hmA] at eV
        rcases (show a ≤ 2147483647 ∧ mA = a ∨ 2147483647 < a ∧ mA = 2147483647 by omega) with ⟨q1, rfl⟩ | ⟨q1, rfl⟩
        all_goals
          clear hmA
          go_enter Try.func29, Try.ntmps29
          go_wp2_with fail
          go_quiet (first | with_reducible exact Calls.quietC H0.out _ _ | with_reducible exact Calls.quietC H1.out _ _ | with_reducible exact Calls.quietC H2.out _ _)
          go_wp2_with fail
          refine (E2.out _).mono ?_
          rintro e w' ⟨rfl, rfl⟩
          go_wp2_with fail
          all_goals
            refine (E1.out _).mono ?_
            rintro e w' ⟨rfl, rfl⟩
            go_wp2_with fail
            go_ret3
            exact ⟨by rw [eV.out]; rfl, (gr_new _ _).drewN _⟩
/-- What At says of a later reading, step by step, as Left's reference asks it. -/
theorem fr_val {s r a n p l : Int} : frA s r a n p l = (okA s r n && decide (topA s a n p < l)) := rfl
theorem ok_later {s r n : Int} {j : Nat} (ok : okA s r n = true) (hj : (j : Int) < 1099511627777 - tk n) : okA s r (tk n + (j : Nat)) = true := by
  have ok := of_decide_eq_true ok
  exact decide_eq_true (by rw [tk_add hj]; omega)
set_option maxHeartbeats 8000000 in
theorem refLeft_any (s r a n p l : Int) (w : World) :
    Calls Try.prog 35 #[tmV s r a, .int .i64 n, .int .i64 p, .int .i64 l] w fun e w' => ∃ N : Nat, e = .returned (.int .i64 N) ∧ LeftOf s r a n p l N ∧ Gr w w' := by
  have H0 := Lib.hid (fun W => refTime_any n W)
  have b3 := tk_bd n
  have H1 := Lib.hid (fun W => refAt_any s r a (tk n) p W)
  have HF := fr_tk s r a n p l
  cases h : frA s r a n p l with
  | false =>
    have E := Lib.hid (show LeftOf s r a n p l 0 by unfold LeftOf; rw [if_neg (by rw [h]; simp)])
    rw [h] at HF
    clear h
    obtain ⟨m, hm⟩ : ∃ m, tk n = m := ⟨_, rfl⟩
    rw [hm] at H0 H1 HF
    clear b3 hm
    cases ok : okA s r m with
    | false =>
      rw [atR_no ok] at H1
      clear ok HF
      go_enter Try.func35, Try.ntmps35
      go_wp2_with fail
      refine (H0.out _).mono ?_
      rintro e w1 ⟨rfl, rfl⟩
      go_wp2_with fail
      refine (H1.out _).mono ?_
      rintro e w1 ⟨rfl, hG⟩
      have HG := Lib.hid ((gr_new w (.cells #[.int .i64 s, .int .i64 r, .int .i64 a] 52)).trans hG)
      clear hG
      go_wp2_with fail
      go_ret
      exact ⟨0, rfl, E.out, HG.out⟩
    | true =>
      rw [atR_yes ok] at H1
      have hU : ¬ topA s a m p < l := by unfold frA at HF; rw [ok] at HF; simpa using HF
      clear ok HF
      obtain ⟨L, hL⟩ : ∃ L, lowA r m p = L := ⟨_, rfl⟩
      obtain ⟨U, hU2⟩ : ∃ U, topA s a m p = U := ⟨_, rfl⟩
      rw [hL] at H1
      rw [hU2] at H1 hU
      clear hL hU2
      go_enter Try.func35, Try.ntmps35
      go_wp2_with fail
      refine (H0.out _).mono ?_
      rintro e w1 ⟨rfl, rfl⟩
      go_wp2_with fail
      refine (H1.out _).mono ?_
      rintro e w1 ⟨rfl, hG⟩
      have HG := Lib.hid ((gr_new w (.cells #[.int .i64 s, .int .i64 r, .int .i64 a] 52)).trans hG)
      clear hG
      go_wp2_with fail
      go_ret
      exact ⟨0, rfl, E.out, HG.out⟩
  | true =>
    have E := Lib.hid (show ∀ N, LeftIs s r a n p l N → LeftOf s r a n p l N from fun N hN => by unfold LeftOf; rw [if_pos h]; exact hN)
    have HA := Lib.hid (show ∀ i j : Nat, i ≤ j → j < (1099511627777 - tk n).toNat → frA s r a (tk n + (j : Nat)) p l = true → frA s r a (tk n + (i : Nat)) p l = true from fun i j hij hj => fr_anti (fr_ok h) hij (by omega))
    have HO := Lib.hid (show ∀ j : Nat, j < (1099511627777 - tk n).toNat → okA s r (tk n + (j : Nat)) = true from fun j hj => ok_later (fr_ok h) (by omega))
    rw [h] at HF
    have ok0 := fr_ok HF
    clear h
    obtain ⟨m, hm⟩ : ∃ m, tk n = m := ⟨_, rfl⟩
    unfold LeftIs at E
    rw [hm] at E HA HO H0 H1 HF ok0 b3
    clear hm
    obtain ⟨M, hM⟩ : ∃ M, (1099511627777 - m).toNat = M := ⟨_, rfl⟩
    rw [hM] at E HA HO
    have eM : (1099511627776 - m : Int) = (M : Int) - 1 := by omega
    rw [atR_yes ok0] at H1
    have hU : topA s a m p < l := by unfold frA at HF; rw [ok0] at HF; simpa using HF
    clear ok0 HF hM
    obtain ⟨L, hL⟩ : ∃ L, lowA r m p = L := ⟨_, rfl⟩
    obtain ⟨U, hU2⟩ : ∃ U, topA s a m p = U := ⟨_, rfl⟩
    rw [hL] at H1
    rw [hU2] at H1 hU
    clear hL hU2
    go_enter Try.func35, Try.ntmps35
    go_wp2_with fail
    have T0 := threeI_new w s r a 52
    have G0 := gr_new w (.cells #[.int .i64 s, .int .i64 r, .int .i64 a] 52)
    generalize w.alloc (.cells #[.int .i64 s, .int .i64 r, .int .i64 a] 52) = w0 at *
    refine (H0.out _).mono ?_
    rintro e w1 ⟨rfl, rfl⟩
    have T1 := T0
    obtain ⟨t0, t1, t2, t3⟩ := T1
    go_wp2_with fail
    refine (H1.out _).mono ?_
    rintro e w1 ⟨rfl, hG⟩
    have T2 := Lib.hid (T0.below hG.below)
    have HG := Lib.hid (G0.trans hG)
    clear hG T0 G0 t0 t1 t2 t3
    go_wp2_with fail
    go_loopw [12, 13] (fun x y wr => ∃ lo hi : Nat, x = .int .i64 lo ∧ y = .int .i64 hi ∧ lo < hi ∧ hi ≤ M + 1 ∧ Hid ((∀ t, t < lo → frA s r a (m + (t : Nat)) p l = true) ∧ (∀ t, hi ≤ t + 1 → t < M → frA s r a (m + (t : Nat)) p l = false)) ∧ Hid (Gr w wr) ∧ Hid (ThreeI w.heap.size wr s r a)) (fun x y _ => (intOf y).toNat - (intOf x).toNat)
    case atStart => exact ⟨0, M + 1, rfl, by go_num, by omega, Nat.le_refl _, Lib.hid ⟨fun t ht => absurd ht (Nat.not_lt_zero _), fun t h1 h2 => by omega⟩, HG, T2⟩
    case round =>
      obtain ⟨lo, hi, rfl, rfl, hlh, hiM, I, G, T⟩ := hrel
      by_cases hlt : lo + 1 < hi
      · obtain ⟨k, hk⟩ : ∃ k, (lo + hi) / 2 = k + 1 := ⟨(lo + hi) / 2 - 1, by omega⟩
        have hk1 : lo ≤ k ∧ k + 1 < hi := by omega
        have HK := Lib.hid (fun W => refAt_any s r a (m + (k : Nat)) p W)
        have okk := HO.out k (by omega)
        rw [atR_yes okk] at HK
        have ek : ((lo : Int) + (hi : Int)) / 2 = (k : Int) + 1 := by omega
        have hfr : frA s r a (m + (k : Nat)) p l = decide (topA s a (m + (k : Nat)) p < l) := by unfold frA; rw [okk]; rfl
        have HFR := Lib.hid hfr
        clear hfr okk
        obtain ⟨L2, hL2⟩ : ∃ L, lowA r (m + (k : Nat)) p = L := ⟨_, rfl⟩
        obtain ⟨U2, hU3⟩ : ∃ U, topA s a (m + (k : Nat)) p = U := ⟨_, rfl⟩
        rw [hL2] at HK
        rw [hU3] at HK HFR
        clear hL2 hU3
        obtain ⟨t0, t1, t2, t3⟩ := T.out
        have e1 : m + ((k : Int) + 1) - 1 = m + (k : Int) := by omega
        by_cases q : U2 < l
        · have HQ := Lib.hid (show frA s r a (m + (k : Nat)) p l = true by rw [HFR.out]; exact decide_eq_true q)
          go_wp2_with fail
          refine (HK.out _).mono ?_
          rintro e w2 ⟨rfl, hG⟩
          have HG2 := Lib.hid (G.out.trans hG)
          have HT := Lib.hid (T.out.below hG.below)
          clear hG
          go_wp2_with fail
          go_roundw
          case measure => simp [intOf]; omega
          case rel => exact ⟨k + 1, hi, by go_num, rfl, by omega, hiM, Lib.hid ⟨fun t ht => HA.out t k (by omega) (by omega) HQ.out, I.out.2⟩, HG2, HT⟩
        · have HQ := Lib.hid (show frA s r a (m + (k : Nat)) p l = false by rw [HFR.out]; exact decide_eq_false q)
          go_wp2_with fail
          refine (HK.out _).mono ?_
          rintro e w2 ⟨rfl, hG⟩
          have HG2 := Lib.hid (G.out.trans hG)
          have HT := Lib.hid (T.out.below hG.below)
          clear hG
          go_wp2_with fail
          go_roundw
          case measure => simp [intOf]; omega
          case rel =>
            refine ⟨lo, k + 1, rfl, by go_num, by omega, by omega, Lib.hid ⟨I.out.1, fun t h1 h2 => ?_⟩, HG2, HT⟩
            cases g : frA s r a (m + (t : Nat)) p l with
            | false => rfl
            | true => have := HA.out k t (by omega) h2 g; rw [HQ.out] at this; cases this
      · obtain rfl : hi = lo + 1 := by omega
        have HN := Lib.hid (E.out lo ⟨by omega, I.out.1, fun t h1 h2 => I.out.2 t (by omega) h2⟩)
        go_wp2_with fail
        go_ret
        exact ⟨lo, rfl, HN.out, G.out⟩
end Go.Proofs.Ytnbjkgkkefjaoaa
