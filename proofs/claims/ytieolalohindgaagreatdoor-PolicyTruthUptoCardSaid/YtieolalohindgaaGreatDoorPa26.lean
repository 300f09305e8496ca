import Derived.Test.YtieolalohindgaaGreatDoorPa25
import Derived.Test.YtieolalohindgaaGreatDoorPa0
/- What the reference's lowest, highest, At and Left return. -/
namespace Go.Proofs.YtieolalohindgaaGreatDoor
open Go.RowKit Go.Sort

theorem up_eq (a b : Int) (hb : 0 < b) : (a + b - 1) / b = if a / b * b < a then a / b + 1 else a / b := by
  have h1 := div_lo a b hb
  have h2 := div_hi a b hb
  have g1 := div_lo (a + b - 1) b hb
  have g2 := div_hi (a + b - 1) b hb
  obtain ⟨q, hq⟩ : ∃ q, a / b = q := ⟨_, rfl⟩
  obtain ⟨z, hz⟩ : ∃ z, (a + b - 1) / b = z := ⟨_, rfl⟩
  rw [hq] at h1 h2 ⊢
  rw [hz] at g1 g2 ⊢
  split
  · next h =>
    have u1 : q < z := lt_of_prod (c := b) (by omega) (by omega)
    have u2 : (z - 1) * b < (q + 1) * b := by rw [Int.sub_mul, Int.add_mul]; omega
    have u3 : z - 1 < q + 1 := lt_of_prod u2 (by omega)
    omega
  · next h =>
    have e : q * b = a := by omega
    have u1 : q ≤ z := by
      have : q * b < (z + 1) * b := by rw [Int.add_mul]; omega
      have := lt_of_prod this (by omega); omega
    have u2 : z * b < (q + 1) * b := by rw [Int.add_mul]; omega
    have u3 : z < q + 1 := lt_of_prod u2 (by omega)
    omega
set_option maxHeartbeats 1000000 in
theorem up_any (a b : Int) (ha : 0 ≤ a ∧ a < 4611686018427387904) (hb : 0 < b ∧ b < 4611686018427387904) (w : World) :
    Calls Tryz.prog 87 #[.int .i64 a, .int .i64 b] w fun e w' => e = .returned (.int .i64 ((a + b - 1) / b)) ∧ w = w' := by
  have e := Lib.hid (up_eq a b hb.1)
  have q1 := Int.ediv_nonneg (a := a) (b := b) ha.1 (by omega)
  have q2 := Int.ediv_le_self (a := a) b ha.1
  have q3 := div_lo a b hb.1
  have q4 : 0 ≤ a / b * b := Int.mul_nonneg q1 (by omega)
  have hw : wrap64 (a.tdiv b) = a / b := by rw [Int.tdiv_eq_ediv_of_nonneg ha.1]; exact wrap_in (by omega) (by omega)
  have hw2 : wrap64 (a / b) = a / b := wrap_in (by omega) (by omega)
  have hw3 : wrap64 (a / b * b) = a / b * b := wrap_in (by omega) (by omega)
  obtain ⟨q, hq⟩ : ∃ q, a / b = q := ⟨_, rfl⟩
  rw [hq] at e q1 q2 q3 q4 hw hw2 hw3
  obtain ⟨z, hz⟩ : ∃ z, q * b = z := ⟨_, rfl⟩
  rw [hz] at e q3 q4 hw3
  have hb0 : (b == 0) = false := by simp; omega
  by_cases h : z < a
  · rw [if_pos h] at e
    go_enter Tryz.func87, Tryz.ntmps87
    go_wp2
    go_ret
    exact ⟨ret_i e.out.symm, rfl⟩
  · rw [if_neg h] at e
    go_enter Tryz.func87, Tryz.ntmps87
    go_wp2
    go_ret
    exact ⟨ret_i e.out.symm, rfl⟩
set_option maxHeartbeats 1000000 in
theorem down_any (a b : Int) (ha : 0 ≤ a ∧ a < 4611686018427387904) (hb : 0 < b ∧ b < 4611686018427387904) (w : World) :
    Calls Tryz.prog 88 #[.int .i64 a, .int .i64 b] w fun e w' => e = .returned (.int .i64 (a / b)) ∧ w = w' := by
  have q1 := Int.ediv_nonneg (a := a) (b := b) ha.1 (by omega)
  have q2 := Int.ediv_le_self (a := a) b ha.1
  have q3 := div_lo a b hb.1
  have q4 : 0 ≤ a / b * b := Int.mul_nonneg q1 (by omega)
  have hw : wrap64 (a.tdiv b) = a / b := by rw [Int.tdiv_eq_ediv_of_nonneg ha.1]; exact wrap_in (by omega) (by omega)
  have hw2 : wrap64 (a / b) = a / b := wrap_in (by omega) (by omega)
  have hw3 : wrap64 (a / b * b) = a / b * b := wrap_in (by omega) (by omega)
  obtain ⟨q, hq⟩ : ∃ q, a / b = q := ⟨_, rfl⟩
  rw [hq] at q1 q2 q3 q4 hw hw2 hw3 ⊢
  obtain ⟨z, hz⟩ : ∃ z, q * b = z := ⟨_, rfl⟩
  rw [hz] at q3 q4 hw3
  have hb0 : (b == 0) = false := by simp; omega
  go_enter Tryz.func88, Tryz.ntmps88
  go_wp2
  go_ret
  exact ⟨ret_i hq, rfl⟩
set_option maxHeartbeats 1000000 in
theorem lowest_any (n p : Int) (hn : 0 ≤ n ∧ n ≤ 1099511627776) (w : World) :
    Calls Tryz.prog 66 #[.int .i64 n, .int .i64 p] w fun e w' => e = .returned (.int .i64 (loE n (pm p))) ∧ w = w' := by
  have b := pm_bd p
  by_cases h : n = 0
  · subst h
    go_enter Tryz.func66, Tryz.ntmps66
    go_wp2
    go_ret
    exact ⟨ret_i (lo_zero _).symm, rfl⟩
  · have h0 : (n == 0) = false := by simpa using h
    have HP := Lib.hid (fun W => refPpm_any p W)
    have E := Lib.hid (show loE n (pm p) = (n - 1) * 1000000 / (1000000 + pm p) + 1 from if_neg h)
    have HD := Lib.hid (fun W => down_any ((n - 1) * 1000000) (1000000 + pm p) (by omega) (by omega) W)
    have lb := lo_bd n (pm p) hn.1 b.1 b.2
    obtain ⟨P, hP⟩ : ∃ P, pm p = P := ⟨_, rfl⟩
    obtain ⟨X, hX⟩ : ∃ X, (n - 1) * 1000000 / (1000000 + pm p) = X := ⟨_, rfl⟩
    rw [E.out] at lb
    rw [hX] at HD lb E
    rw [hP] at b HP HD E ⊢
    clear hP hX h
    go_enter Tryz.func66, Tryz.ntmps66
    go_wp2_with fail
    refine (HP.out _).mono ?_
    rintro e w' ⟨rfl, rfl⟩
    go_wp2_with fail
    refine (HD.out _).mono ?_
    rintro e w' ⟨rfl, rfl⟩
    go_wp2_with fail
    go_ret
    exact ⟨ret_i E.out.symm, rfl⟩
set_option maxHeartbeats 1000000 in
theorem highest_any (n p : Int) (hn : 0 ≤ n ∧ n ≤ 1099511627776) (w : World) :
    Calls Tryz.prog 65 #[.int .i64 n, .int .i64 p] w fun e w' => e = .returned (.int .i64 (hiE n (pm p))) ∧ w = w' := by
  have b := pm_bd p
  have HP := Lib.hid (fun W => refPpm_any p W)
  have E := Lib.hid (show hiE n (pm p) = ((n + 1) * 1000000 + (1000000 - pm p) - 1) / (1000000 - pm p) - 1 from rfl)
  have HD := Lib.hid (fun W => up_any ((n + 1) * 1000000) (1000000 - pm p) (by omega) (by omega) W)
  have lb := hi_bd n (pm p) hn.1 b.1 b.2
  obtain ⟨P, hP⟩ : ∃ P, pm p = P := ⟨_, rfl⟩
  obtain ⟨X, hX⟩ : ∃ X, ((n + 1) * 1000000 + (1000000 - pm p) - 1) / (1000000 - pm p) = X := ⟨_, rfl⟩
  rw [E.out] at lb
  rw [hX] at HD lb E
  rw [hP] at b HP HD E ⊢
  clear hP hX
  go_enter Tryz.func65, Tryz.ntmps65
  go_wp2_with fail
  refine (HP.out _).mono ?_
  rintro e w' ⟨rfl, rfl⟩
  go_wp2_with fail
  refine (HD.out _).mono ?_
  rintro e w' ⟨rfl, rfl⟩
  go_wp2_with fail
  go_ret
  exact ⟨ret_i E.out.symm, rfl⟩
def atR (s r a n p : Int) : Value := if okA s r n = true then .tuple #[.int .i64 (lowA r n p), .int .i64 (topA s a n p), .int .i64 0] else .tuple #[.int .i64 0, .int .i64 0, .int .i64 7]
theorem atR_yes {s r a n p : Int} (h : okA s r n = true) : atR s r a n p = .tuple #[.int .i64 (lowA r n p), .int .i64 (topA s a n p), .int .i64 0] := if_pos h
theorem atR_no {s r a n p : Int} (h : okA s r n = false) : atR s r a n p = .tuple #[.int .i64 0, .int .i64 0, .int .i64 7] := if_neg (by rw [h]; simp)
theorem ret3_mid {u v : Value} {x y : Int} (h : x = y) : Ending.returned (.tuple #[u, .int .i64 x, v]) = .returned (.tuple #[u, .int .i64 y, v]) := by rw [h]
set_option maxHeartbeats 4000000 in
theorem refAt_any (s r a n p : Int) (w : World) :
    Calls Tryz.prog 39 #[tmV s r a, .int .i64 n, .int .i64 p] w fun e w' => e = .returned (atR s r a n p) ∧ Gr w w' := by
  have H0 := Lib.hid (fun W => refTime_any n W)
  have H1 := Lib.hid (fun W => refTime_any s W)
  have H2 := Lib.hid (fun W => refTime_any r W)
  have b1 := tk_bd s
  have b2 := tk_bd r
  have b3 := tk_bd n
  have b4 := pm_bd p
  have b5 := addA_bd a
  have eok := Lib.hid (show okA s r n = decide (tk s ≤ tk r ∧ tk r ≤ tk n) from rfl)
  have eV := Lib.hid (show atR s r a n p = if okA s r n = true then .tuple #[.int .i64 (loE (tk n - tk r) (pm p)), .int .i64 (hiE (tk n - tk s) (pm p) + addA a), .int .i64 0] else .tuple #[.int .i64 0, .int .i64 0, .int .i64 7] from rfl)
  rw [eok.out] at eV
  clear eok
  obtain ⟨S, hS⟩ : ∃ S, tk s = S := ⟨_, rfl⟩
  obtain ⟨R, hR⟩ : ∃ R, tk r = R := ⟨_, rfl⟩
  obtain ⟨M, hM⟩ : ∃ M, tk n = M := ⟨_, rfl⟩
  have HA := Lib.hid (show addA a = if a < 0 then 0 else (min a 2147483647 + 1) * 1000 from rfl)
  rw [hS] at H1 eV b1
  rw [hR] at H2 eV b2
  rw [hM] at H0 eV b3
  clear hS hR hM
  by_cases h1 : R < S
  · rw [decide_eq_false (by omega), if_neg (by simp)] at eV
    go_enter Tryz.func39, Tryz.ntmps39
    go_wp2_with fail
    go_quiet (first | with_reducible exact Calls.quietC H0.out _ _ | with_reducible exact Calls.quietC H1.out _ _ | with_reducible exact Calls.quietC H2.out _ _)
    go_wp2_with fail
    go_ret3
    exact ⟨by rw [eV.out]; rfl, (gr_new _ _).drewN _⟩
  · by_cases h2 : M < R
    · rw [decide_eq_false (by omega), if_neg (by simp)] at eV
      go_enter Tryz.func39, Tryz.ntmps39
      go_wp2_with fail
      go_quiet (first | with_reducible exact Calls.quietC H0.out _ _ | with_reducible exact Calls.quietC H1.out _ _ | with_reducible exact Calls.quietC H2.out _ _)
      go_wp2_with fail
      go_ret3
      exact ⟨by rw [eV.out]; rfl, (gr_new _ _).drewN _⟩
    · rw [decide_eq_true (by omega), if_pos rfl] at eV
      have E1 := Lib.hid (fun W => lowest_any (M - R) p (by omega) W)
      have E2 := Lib.hid (fun W => highest_any (M - S) p (by omega) W)
      have u := hi_bd (M - S) (pm p) (by omega) b4.1 b4.2
      obtain ⟨L, hL⟩ : ∃ L, loE (M - R) (pm p) = L := ⟨_, rfl⟩
      obtain ⟨U, hU⟩ : ∃ U, hiE (M - S) (pm p) = U := ⟨_, rfl⟩
      rw [hL] at E1 eV
      rw [hU] at E2 eV u
      clear hL hU
      have u2 : 0 ≤ U ∧ U ≤ 2199023255552 := by omega
      clear u
      by_cases ha : a < 0
      · rw [HA.out, if_pos ha] at eV
        clear b5
        go_enter Tryz.func39, Tryz.ntmps39
        go_wp2_with fail
        go_quiet (first | with_reducible exact Calls.quietC H0.out _ _ | with_reducible exact Calls.quietC H1.out _ _ | with_reducible exact Calls.quietC H2.out _ _)
        go_wp2_with fail
        refine (E2.out _).mono ?_
        rintro e w' ⟨rfl, rfl⟩
        go_wp2_with fail
        refine (E1.out _).mono ?_
        rintro e w' ⟨rfl, rfl⟩
        go_wp2_with fail
        go_ret3
        exact ⟨by rw [eV.out]; simp, (gr_new _ _).drewN _⟩
      · rw [HA.out, if_neg ha] at eV
        clear b5
        obtain ⟨mA, hmA⟩ : ∃ mA, min a 2147483647 = mA := ⟨_, rfl⟩
        have mb : 0 ≤ mA ∧ mA ≤ 2147483647 := by omega
        rw [hmA] at eV
        rcases (show a ≤ 2147483647 ∧ mA = a ∨ 2147483647 < a ∧ mA = 2147483647 by omega) with ⟨q1, rfl⟩ | ⟨q1, rfl⟩
        all_goals
          clear hmA
          go_enter Tryz.func39, Tryz.ntmps39
          go_wp2_with fail
          go_quiet (first | with_reducible exact Calls.quietC H0.out _ _ | with_reducible exact Calls.quietC H1.out _ _ | with_reducible exact Calls.quietC H2.out _ _)
          go_wp2_with fail
          refine (E2.out _).mono ?_
          rintro e w' ⟨rfl, rfl⟩
          go_wp2_with fail
          all_goals
            refine (E1.out _).mono ?_
            rintro e w' ⟨rfl, rfl⟩
            go_wp2_with fail
            go_ret3
            exact ⟨by rw [eV.out]; first | rfl | exact ret3_mid (by omega), (gr_new _ _).drewN _⟩
/-- What At says of a later reading, step by step, as Left's reference asks it. -/
theorem fr_val {s r a n p l : Int} : frA s r a n p l = (okA s r n && decide (topA s a n p < l)) := rfl
theorem ok_later {s r n : Int} {j : Nat} (ok : okA s r n = true) (hj : (j : Int) < 1099511627777 - tk n) : okA s r (tk n + (j : Nat)) = true := by
  have ok := of_decide_eq_true ok
  exact decide_eq_true (by rw [tk_add hj]; omega)
end Go.Proofs.YtieolalohindgaaGreatDoor

/- What Num returns where the statements call it. -/
namespace Go.Proofs.YtieolalohindgaaGreatDoor
open Go.RowKit

end Go.Proofs.YtieolalohindgaaGreatDoor

/- AgeBounds, AgeFields and AgeJudges: for every input the statement's function returns true: the walks. -/
namespace Go.Proofs.YtieolalohindgaaGreatDoor
open Go.RowKit Go.Sort

abbrev moV (n p : Int) : Value := .agg #[.int .i64 n, .int .i64 p]
/-- What a region that draws holds of the two boxes: the times, the reading and the drift. -/
abbrev SB (N : Nat) (w : World) (s r a n p : Int) (w' : World) : Prop :=
  w'.cell? ⟨N, 0, none⟩ = some (.int .i64 s) ∧ w'.cell? ⟨N, 1, none⟩ = some (.int .i64 r) ∧ w'.cell? ⟨N, 2, none⟩ = some (.int .i64 a) ∧ w'.cell? ⟨N + 1, 0, none⟩ = some (.int .i64 n) ∧ w'.cell? ⟨N + 1, 1, none⟩ = some (.int .i64 p) ∧ N + 1 < w'.heap.size ∧ Gr w w'
theorem sb_keep {N : Nat} {w w1 w2 : World} {s r a n p : Int} (h : SB N w s r a n p w1) (hG : Gr w1 w2) : SB N w s r a n p w2 := by
  obtain ⟨h1, h2, h3, h4, h5, h6, h7⟩ := h
  have hb := hG.below
  exact ⟨(hb.cell (p := ⟨N, 0, none⟩) (show N < _ by omega)).trans h1, (hb.cell (p := ⟨N, 1, none⟩) (show N < _ by omega)).trans h2, (hb.cell (p := ⟨N, 2, none⟩) (show N < _ by omega)).trans h3, (hb.cell (p := ⟨N + 1, 0, none⟩) h6).trans h4, (hb.cell (p := ⟨N + 1, 1, none⟩) h6).trans h5, Nat.lt_of_lt_of_le h6 hb.size, h7.trans hG⟩
theorem cell_two (w : World) (x y : Int) (T : TypeId) (B : Nat) (h : B = w.heap.size) : (w.alloc (.cells #[.int .i64 x, .int .i64 y] T)).cell? ⟨B, 0, none⟩ = some (.int .i64 x) ∧ (w.alloc (.cells #[.int .i64 x, .int .i64 y] T)).cell? ⟨B, 1, none⟩ = some (.int .i64 y) := by
  subst h; constructor <;> (rw [World.cell?_alloc_at _ _ _ _ rfl]; rfl)
theorem sb_new (w : World) (s r a n p : Int) (T1 T2 : TypeId) : SB w.heap.size w s r a n p ((w.alloc (.cells #[.int .i64 s, .int .i64 r, .int .i64 a] T1)).alloc (.cells #[.int .i64 n, .int .i64 p] T2)) := by
  obtain ⟨t1, t2, t3, t4⟩ := threeI_new w s r a T1
  obtain ⟨c1, c2⟩ := cell_two (w.alloc (.cells #[.int .i64 s, .int .i64 r, .int .i64 a] T1)) n p T2 (w.heap.size + 1) (by simp)
  exact ⟨(cell_old _ _ _ _ t4).trans t1, (cell_old _ _ _ _ t4).trans t2, (cell_old _ _ _ _ t4).trans t3, c1, c2, by simp, (gr_new _ _).alloc _⟩
theorem gr_drew (w : World) : Gr w w.drew := (Gr.refl w).drewN 1
section
variable {N : Nat} {w w1 : World} {s r a n p l : Int}
theorem times_in (h : SB N w s r a n p w1) : Calls Tryz.prog 35 #[tmV s r a] w1 fun e w2 => e = .returned (tmV s r a) ∧ SB N w s r a n p w2 := by
  refine (times_any s r a w1).mono ?_
  rintro e w2 ⟨rfl, hG⟩
  exact ⟨rfl, sb_keep h hG⟩
theorem at_in {v : Value} (hv : atV s r a n p = v) (h : SB N w s r a n p w1) : Calls Tryz.prog 26 #[tmV s r a, .int .i64 n, .int .i64 p] w1 fun e w2 => e = .returned v ∧ SB N w s r a n p w2 := by
  refine (at_any s r a n p w1).mono ?_
  rintro e w2 ⟨rfl, hG⟩
  exact ⟨by rw [hv], sb_keep h hG⟩
theorem refAt_in {v : Value} (hv : atR s r a n p = v) (h : SB N w s r a n p w1) : Calls Tryz.prog 39 #[tmV s r a, .int .i64 n, .int .i64 p] w1 fun e w2 => e = .returned v ∧ SB N w s r a n p w2 := by
  refine (refAt_any s r a n p w1).mono ?_
  rintro e w2 ⟨rfl, hG⟩
  exact ⟨by rw [hv], sb_keep h hG⟩
theorem fresh_in {b : Bool} (hv : frA s r a n p l = b) (h : SB N w s r a n p w1) : Calls Tryz.prog 29 #[tmV s r a, .int .i64 n, .int .i64 p, .int .i64 l] w1 fun e w2 => e = .returned (.bool b) ∧ SB N w s r a n p w2 := by
  refine (fresh_any s r a n p l w1).mono ?_
  rintro e w2 ⟨rfl, hG⟩
  exact ⟨by rw [hv], sb_keep h hG⟩
end
namespace agbounds
end agbounds
namespace agfields
end agfields
namespace agjudges
end agjudges
end Go.Proofs.YtieolalohindgaaGreatDoor
