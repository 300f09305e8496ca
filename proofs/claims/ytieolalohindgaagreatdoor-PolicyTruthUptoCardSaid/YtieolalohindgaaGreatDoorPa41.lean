import Derived.Test.YtieolalohindgaaGreatDoorPa8
import Derived.Test.YtieolalohindgaaGreatDoorPa4
import Derived.Sort.Grow
/- What At, Field, Fresh and Stale return; the worlds that grow and draw. -/
namespace Go.Proofs.YtieolalohindgaaGreatDoor
open Go.RowKit Go.Sort

/-- The world w' is w with draws and new blocks behind it. -/
def Gr (w w' : World) : Prop := ∃ q os, w' = grow (w.drewN q) os
theorem Gr.refl (w : World) : Gr w w := ⟨0, #[], by rw [grow_empty]; rfl⟩
theorem Gr.drewN {a w : World} (h : Gr a w) (n : Nat) : Gr a (w.drewN n) := by
  obtain ⟨q, os, rfl⟩ := h
  exact ⟨q + n, os, by unfold grow World.drewN; simp [Nat.add_assoc]⟩
theorem Gr.alloc {a w : World} (h : Gr a w) (o : Obj) : Gr a (w.alloc o) := by
  obtain ⟨q, os, rfl⟩ := h
  exact ⟨q, os ++ #[o], by rw [alloc_eq_grow, grow_grow]⟩
theorem Gr.trans {a b c : World} (h : Gr a b) (k : Gr b c) : Gr a c := by
  obtain ⟨q, os, rfl⟩ := h
  obtain ⟨q', os', rfl⟩ := k
  exact ⟨q + q', os ++ os', by unfold grow World.drewN; simp [Nat.add_assoc, Array.append_assoc]⟩
theorem Gr.below {a b : World} (h : Gr a b) : Below a.heap.size a b := by
  obtain ⟨q, os, rfl⟩ := h
  exact ⟨rfl, rfl, rfl, by simp [grow, World.drewN], fun i hi => by
    show (a.heap ++ os)[i]? = _
    rw [Array.getElem?_append_left hi]⟩
theorem gr_new (w : World) (o : Obj) : Gr w (w.alloc o) := (Gr.refl w).alloc o
abbrev tmV (s r a : Int) : Value := .agg #[.int .i64 s, .int .i64 r, .int .i64 a]
def atV (s r a n p : Int) : Value := if okA s r n = true then .tuple #[.int .i64 (lowA r n p), .int .i64 (topA s a n p), .nilIface] else .tuple #[.int .i64 0, .int .i64 0, .iface 92 (.int .i64 7)]
theorem atV_yes {s r a n p : Int} (h : okA s r n = true) : atV s r a n p = .tuple #[.int .i64 (lowA r n p), .int .i64 (topA s a n p), .nilIface] := if_pos h
theorem atV_no {s r a n p : Int} (h : okA s r n = false) : atV s r a n p = .tuple #[.int .i64 0, .int .i64 0, .iface 92 (.int .i64 7)] := if_neg (by rw [h]; simp)
set_option maxHeartbeats 400000 in
theorem ageSent_any (a : Int) (w : World) : Calls Tryz.prog 50 #[.int .i64 a] w fun e w' => e = .returned (.int .i64 (addA a)) ∧ w = w' := by
  by_cases h : a < 0
  · go_enter Tryz.func50, Tryz.ntmps50
    go_wp2
    go_ret
    exact ⟨ret_i (by unfold addA; rw [if_pos h]), rfl⟩
  · go_enter Tryz.func50, Tryz.ntmps50
    go_wp2
    all_goals
      go_ret
      exact ⟨ret_i (by unfold addA; rw [if_neg (show ¬ a < 0 by omega)]; try omega), rfl⟩
set_option maxHeartbeats 4000000 in
theorem at_any (s r a n p : Int) (w : World) :
    Calls Tryz.prog 26 #[tmV s r a, .int .i64 n, .int .i64 p] w fun e w' => e = .returned (atV s r a n p) ∧ Gr w w' := by
  have H0 := Lib.hid (fun W => clipTime_any n W)
  have H1 := Lib.hid (fun W => clipTime_any s W)
  have H2 := Lib.hid (fun W => clipTime_any r W)
  have H3 := Lib.hid (fun W => ageSent_any a W)
  have b1 := tk_bd s
  have b2 := tk_bd r
  have b3 := tk_bd n
  have b4 := pm_bd p
  have b5 := addA_bd a
  have eok := Lib.hid (show okA s r n = decide (tk s ≤ tk r ∧ tk r ≤ tk n) from rfl)
  have eV := Lib.hid (show atV s r a n p = if okA s r n = true then .tuple #[.int .i64 (loE (tk n - tk r) (pm p)), .int .i64 (hiE (tk n - tk s) (pm p) + addA a), .nilIface] else .tuple #[.int .i64 0, .int .i64 0, .iface 92 (.int .i64 7)] from rfl)
  rw [eok.out] at eV
  clear eok
  obtain ⟨S, hS⟩ : ∃ S, tk s = S := ⟨_, rfl⟩
  obtain ⟨R, hR⟩ : ∃ R, tk r = R := ⟨_, rfl⟩
  obtain ⟨M, hM⟩ : ∃ M, tk n = M := ⟨_, rfl⟩
  obtain ⟨A, hA⟩ : ∃ A, addA a = A := ⟨_, rfl⟩
  rw [hS] at H1 eV b1
  rw [hR] at H2 eV b2
  rw [hM] at H0 eV b3
  rw [hA] at H3 eV b5
  clear hS hR hM hA
  by_cases h1 : R < S
  · rw [decide_eq_false (by omega), if_neg (by simp)] at eV
    go_enter Tryz.func26, Tryz.ntmps26
    go_wp2_with fail
    refine (H0.out _).mono ?_
    rintro e w' ⟨rfl, rfl⟩
    go_wp2_with fail
    go_quiet (first | with_reducible exact Calls.quietC H1.out _ _ | with_reducible exact Calls.quietC H2.out _ _)
    go_wp2_with fail
    go_ret3
    exact ⟨by rw [eV.out]; rfl, (gr_new _ _).drewN _⟩
  · by_cases h2 : M < R
    · rw [decide_eq_false (by omega), if_neg (by simp)] at eV
      go_enter Tryz.func26, Tryz.ntmps26
      go_wp2_with fail
      refine (H0.out _).mono ?_
      rintro e w' ⟨rfl, rfl⟩
      go_wp2_with fail
      go_quiet (first | with_reducible exact Calls.quietC H1.out _ _ | with_reducible exact Calls.quietC H2.out _ _)
      go_wp2_with fail
      go_ret3
      exact ⟨by rw [eV.out]; rfl, (gr_new _ _).drewN _⟩
    · rw [decide_eq_true (by omega), if_pos rfl] at eV
      have E1 := Lib.hid (fun W => elapsed_any (M - R) p W)
      have E2 := Lib.hid (fun W => elapsed_any (M - S) p W)
      rw [show tk (M - R) = M - R by unfold tk; omega] at E1
      rw [show tk (M - S) = M - S by unfold tk; omega] at E2
      have u := hi_bd (M - S) (pm p) (by omega) b4.1 b4.2
      obtain ⟨L, hL⟩ : ∃ L, loE (M - R) (pm p) = L := ⟨_, rfl⟩
      obtain ⟨U, hU⟩ : ∃ U, hiE (M - S) (pm p) = U := ⟨_, rfl⟩
      obtain ⟨x1, hx1⟩ : ∃ x1, hiE (M - R) (pm p) = x1 := ⟨_, rfl⟩
      obtain ⟨x2, hx2⟩ : ∃ x2, loE (M - S) (pm p) = x2 := ⟨_, rfl⟩
      rw [hL] at E1 eV
      rw [hx1] at E1
      rw [hU] at E2 eV u
      rw [hx2] at E2
      clear hL hU hx1 hx2
      have u2 : 0 ≤ U ∧ U ≤ 2199023255552 := by omega
      clear u
      go_enter Tryz.func26, Tryz.ntmps26
      go_wp2_with fail
      refine (H0.out _).mono ?_
      rintro e w' ⟨rfl, rfl⟩
      go_wp2_with fail
      go_quiet (first | with_reducible exact Calls.quietC H1.out _ _ | with_reducible exact Calls.quietC H2.out _ _)
      go_wp2_with fail
      refine (E1.out _).mono ?_
      rintro e w' ⟨rfl, rfl⟩
      go_wp2_with fail
      refine (E2.out _).mono ?_
      rintro e w' ⟨rfl, rfl⟩
      go_wp2_with fail
      refine (H3.out _).mono ?_
      rintro e w' ⟨rfl, rfl⟩
      go_wp2_with fail
      go_ret3
      exact ⟨by rw [eV.out]; rfl, (gr_new _ _).drewN _⟩
end Go.Proofs.YtieolalohindgaaGreatDoor
