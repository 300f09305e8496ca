/- AgeGrows: for every input the statement's function returns true: the walk. -/
import Derived.Test.YtnbjkgkkefjaoaaZLaw3
namespace Go.Proofs.Ytnbjkgkkefjaoaa
open Go.RowKit Go.Sort

/-- The three boxes of AgeGrows. -/
def G3 (N : Nat) (s r a n p x y : Int) (w : World) : Prop :=
  (w.cell? ⟨N, 0, none⟩ = some (.int .i64 s) ∧ w.cell? ⟨N, 1, none⟩ = some (.int .i64 r) ∧ w.cell? ⟨N, 2, none⟩ = some (.int .i64 a)) ∧
  (w.cell? ⟨N + 1, 0, none⟩ = some (.int .i64 n) ∧ w.cell? ⟨N + 1, 1, none⟩ = some (.int .i64 p)) ∧
  (w.cell? ⟨N + 1 + 1, 0, none⟩ = some (.int .u16 x) ∧ w.cell? ⟨N + 1 + 1, 1, none⟩ = some (.int .u16 y)) ∧ N + 1 + 1 < w.heap.size
theorem G3.below {N : Nat} {s r a n p x y : Int} {w w' : World} (h : G3 N s r a n p x y w) (hb : Below w.heap.size w w') : G3 N s r a n p x y w' := by
  obtain ⟨⟨h1, h2, h3⟩, ⟨h4, h5⟩, ⟨h6, h7⟩, h8⟩ := h
  exact ⟨⟨(hb.cell (p := ⟨N, 0, none⟩) (show N < _ by omega)).trans h1, (hb.cell (p := ⟨N, 1, none⟩) (show N < _ by omega)).trans h2, (hb.cell (p := ⟨N, 2, none⟩) (show N < _ by omega)).trans h3⟩, ⟨(hb.cell (p := ⟨N + 1, 0, none⟩) (show N + 1 < _ by omega)).trans h4, (hb.cell (p := ⟨N + 1, 1, none⟩) (show N + 1 < _ by omega)).trans h5⟩, ⟨(hb.cell (p := ⟨N + 1 + 1, 0, none⟩) h8).trans h6, (hb.cell (p := ⟨N + 1 + 1, 1, none⟩) h8).trans h7⟩, Nat.lt_of_lt_of_le h8 hb.size⟩
theorem cell_twoU (w : World) (x y : Int) (T : TypeId) (B : Nat) (h : B = w.heap.size) : (w.alloc (.cells #[.int .u16 x, .int .u16 y] T)).cell? ⟨B, 0, none⟩ = some (.int .u16 x) ∧ (w.alloc (.cells #[.int .u16 x, .int .u16 y] T)).cell? ⟨B, 1, none⟩ = some (.int .u16 y) := by
  subst h; constructor <;> (rw [World.cell?_alloc_at _ _ _ _ rfl]; rfl)
theorem g3_new (w : World) (s r a n p x y : Int) (T1 T2 T3 : TypeId) : G3 w.heap.size s r a n p x y (((w.alloc (.cells #[.int .i64 s, .int .i64 r, .int .i64 a] T1)).alloc (.cells #[.int .i64 n, .int .i64 p] T2)).alloc (.cells #[.int .u16 x, .int .u16 y] T3)) := by
  obtain ⟨t1, t2, t3, t4⟩ := threeI_new w s r a T1
  obtain ⟨c1, c2⟩ := cell_two (w.alloc (.cells #[.int .i64 s, .int .i64 r, .int .i64 a] T1)) n p T2 (w.heap.size + 1) (by simp)
  obtain ⟨u1, u2⟩ := cell_twoU ((w.alloc (.cells #[.int .i64 s, .int .i64 r, .int .i64 a] T1)).alloc (.cells #[.int .i64 n, .int .i64 p] T2)) x y T3 (w.heap.size + 1 + 1) (by simp)
  refine ⟨⟨?_, ?_, ?_⟩, ⟨?_, ?_⟩, ⟨u1, u2⟩, by simp⟩
  · rw [cell_old _ _ _ _ (by simp; omega), cell_old _ _ _ _ t4]; exact t1
  · rw [cell_old _ _ _ _ (by simp; omega), cell_old _ _ _ _ t4]; exact t2
  · rw [cell_old _ _ _ _ (by simp; omega), cell_old _ _ _ _ t4]; exact t3
  · rw [cell_old _ _ _ _ (by simp)]; exact c1
  · rw [cell_old _ _ _ _ (by simp)]; exact c2
/-- What grows with the reading and with the drift. -/
theorem at_grows {s r a n p x y : Int} (hn : 0 ≤ n ∧ n ≤ 1099511562240) (hp : 0 ≤ p ∧ p ≤ 34464) (hx : 0 ≤ x ∧ x ≤ 65535) (hy : 0 ≤ y ∧ y ≤ 65535) (ok : okA s r n = true) :
    okA s r (n + x) = true ∧ lowA r n p ≤ lowA r (n + x) p ∧ topA s a n p ≤ topA s a (n + x) p ∧ lowA r n (p + y) ≤ lowA r n p ∧ topA s a n p ≤ topA s a n (p + y) := by
  have ok := of_decide_eq_true ok
  have b1 := tk_bd s
  have b2 := tk_bd r
  have e1 : tk n = n := by unfold tk; omega
  have e2 : tk (n + x) = n + x := by unfold tk; omega
  have e3 : pm p = p := by unfold pm; omega
  have e4 : pm (p + y) = p + y := by unfold pm; omega
  unfold okA lowA topA
  rw [e1] at ok ⊢
  rw [e2, e3, e4]
  have l1 := lo_n (n - tk r) (n + x - tk r) p (by omega) (by omega) (by omega) (by omega)
  have l2 := hi_n (n - tk s) (n + x - tk s) p (by omega) (by omega)
  have l3 := lo_p (n - tk r) p (p + y) (by omega) (by omega) (by omega) (by omega)
  have l4 := hi_p (n - tk s) p (p + y) (by omega) (by omega) (by omega) (by omega)
  exact ⟨decide_eq_true (by omega), by omega, by omega, by omega, by omega⟩
theorem top_none (s a n p : Int) : topA s (-1) n p + addA a = topA s a n p := by unfold topA; rw [show addA (-1) = 0 from rfl]; omega
/-- A block of three ints that may be written. -/
def FreeI (N : Nat) (w : World) (x y z : Int) : Prop :=
  (w.cell? ⟨N, 0, none⟩ = some (.int .i64 x) ∧ w.cell? ⟨N, 1, none⟩ = some (.int .i64 y) ∧ w.cell? ⟨N, 2, none⟩ = some (.int .i64 z) ∧ N < w.heap.size) ∧ w.frozen? ⟨N, 2, none⟩ = false
theorem FreeI.below {N : Nat} {w w' : World} {x y z : Int} (h : FreeI N w x y z) (hb : Below w.heap.size w w') : FreeI N w' x y z :=
  ⟨ThreeI.below h.1 hb, (hb.frozen (p := ⟨N, 2, none⟩) h.1.2.2.2).trans h.2⟩
theorem freeI_new (w : World) (x y z : Int) (T : TypeId) : FreeI w.heap.size (w.alloc (.cells #[.int .i64 x, .int .i64 y, .int .i64 z] T)) x y z := ⟨threeI_new w x y z T, World.frozen?_alloc_new _ _ _ _⟩
namespace aggrows
set_option maxHeartbeats 8000000 in
theorem walk (s r a n p x y : Int) (hx : 0 ≤ x ∧ x ≤ 65535) (hy : 0 ≤ y ∧ y ≤ 65535) (w : World) :
    Calls Try.prog 13 #[tmV s r a, moV n p, .agg #[.int .u16 x, .int .u16 y]] w fun e w' => e = .returned (.bool true) ∧ Below w.heap.size w w' := by
  have HC1 := Lib.hid (fun W => clip_any n 0 1099511562240 W)
  have HC2 := Lib.hid (fun W => clip_any p 0 34464 W)
  obtain ⟨N, hN⟩ : ∃ N, max 0 (min n 1099511562240) = N := ⟨_, rfl⟩
  obtain ⟨P, hP⟩ : ∃ P, max 0 (min p 34464) = P := ⟨_, rfl⟩
  have bN : 0 ≤ N ∧ N ≤ 1099511562240 := by omega
  have bP : 0 ≤ P ∧ P ≤ 34464 := by omega
  rw [hN] at HC1
  rw [hP] at HC2
  clear hN hP
  have HA := Lib.hid (fun W => at_any s r a N P W)
  cases ok : okA s r N with
  | false =>
    rw [atV_no ok] at HA
    clear ok
    go_enter Try.func13, Try.ntmps13
    go_wp2_with fail
    have F0 := Lib.hid (g3_new w s r a n p x y 52 54 49)
    have B0 := Lib.hid ((((gr_new w (.cells #[.int .i64 s, .int .i64 r, .int .i64 a] 52)).alloc (.cells #[.int .i64 n, .int .i64 p] 54)).alloc (.cells #[.int .u16 x, .int .u16 y] 49)))
    generalize ((w.alloc (.cells #[.int .i64 s, .int .i64 r, .int .i64 a] 52)).alloc (.cells #[.int .i64 n, .int .i64 p] 54)).alloc (.cells #[.int .u16 x, .int .u16 y] 49) = w0 at *
    refine (awake13_any _).mono ?_
    rintro e w1 ⟨rfl, hG⟩
    have F1 := Lib.hid (F0.out.below hG.below)
    have B1 := Lib.hid (B0.out.trans hG)
    clear F0 B0 hG
    obtain ⟨⟨c0, c1, c2⟩, ⟨c3, c4⟩, ⟨c5, c6⟩, c7⟩ := F1.out
    go_wp2_with fail
    go_quiet (first | with_reducible exact Calls.quietC HC1.out _ _ | with_reducible exact Calls.quietC HC2.out _ _)
    rename Nat => nq
    have F2 := Lib.hid (F1.out.below ((Gr.refl w1).drewN nq).below)
    have B2 := Lib.hid (B1.out.drewN nq)
    clear F1 B1 c0 c1 c2 c3 c4 c5 c6 c7
    generalize w1.drewN nq = w2 at *
    obtain ⟨⟨c0, c1, c2⟩, ⟨c3, c4⟩, ⟨c5, c6⟩, c7⟩ := F2.out
    go_wp2_with fail
    refine (times_any s r a _).mono ?_
    rintro e w3 ⟨rfl, hG⟩
    have F3 := Lib.hid (F2.out.below hG.below)
    have B3 := Lib.hid (B2.out.trans hG)
    clear F2 B2 hG c0 c1 c2 c3 c4 c5 c6 c7
    obtain ⟨⟨c0, c1, c2⟩, ⟨c3, c4⟩, ⟨c5, c6⟩, c7⟩ := F3.out
    go_wp2_with fail
    refine (HA.out _).mono ?_
    rintro e w4 ⟨rfl, hG⟩
    have F4 := Lib.hid ((F3.out.below (below_new w3 (.cells #[.int .i64 s, .int .i64 r, .int .i64 a] 57))).below hG.below)
    have T4 := Lib.hid ((freeI_new w3 s r a 57).below hG.below)
    have B4 := Lib.hid ((B3.out.alloc (.cells #[.int .i64 s, .int .i64 r, .int .i64 a] 57)).trans hG)
    have L4 : w.heap.size < w3.heap.size := by have := F3.out.2.2.2; omega
    clear F3 B3 hG c0 c1 c2 c3 c4 c5 c6 c7
    obtain ⟨⟨c0, c1, c2⟩, ⟨c3, c4⟩, ⟨c5, c6⟩, c7⟩ := F4.out
    obtain ⟨⟨t0, t1, t2, t3⟩, t4⟩ := T4.out
    generalize w3.heap.size = Y at *
    go_wp2_with fail
    go_ret
    exact ⟨rfl, B4.out.below⟩
  | true =>
    have g := at_grows (p := P) (x := x) (y := y) (a := a) bN bP hx hy ok
    obtain ⟨g0, g1, g2, g3, g4⟩ := g
    have HA1 := Lib.hid (fun W => at_any s r a (N + x) P W)
    have HA2 := Lib.hid (fun W => at_any s r a N (P + y) W)
    have HA3 := Lib.hid (fun W => at_any s r (-1) N P W)
    have g5 := top_none s a N P
    have tb := top_bd (a := -1) (p := P) ok
    have hA := addA_bd a
    have eA := Lib.hid (show addA a = if a < 0 then 0 else (min a 2147483647 + 1) * 1000 from rfl)
    rw [atV_yes ok] at HA HA2 HA3
    rw [atV_yes g0] at HA1
    clear ok g0
    obtain ⟨l0, hl0⟩ : ∃ v, lowA r N P = v := ⟨_, rfl⟩
    obtain ⟨l1, hl1⟩ : ∃ v, lowA r (N + x) P = v := ⟨_, rfl⟩
    obtain ⟨l2, hl2⟩ : ∃ v, lowA r N (P + y) = v := ⟨_, rfl⟩
    obtain ⟨h0, hh0⟩ : ∃ v, topA s a N P = v := ⟨_, rfl⟩
    obtain ⟨h1, hh1⟩ : ∃ v, topA s a (N + x) P = v := ⟨_, rfl⟩
    obtain ⟨h2, hh2⟩ : ∃ v, topA s a N (P + y) = v := ⟨_, rfl⟩
    obtain ⟨h3, hh3⟩ : ∃ v, topA s (-1) N P = v := ⟨_, rfl⟩
    obtain ⟨A, hAa⟩ : ∃ v, addA a = v := ⟨_, rfl⟩
    rw [hl0, hh0] at HA
    rw [hl1, hh1] at HA1
    rw [hl2, hh2] at HA2
    rw [hl0, hh3] at HA3
    rw [hl0, hl1] at g1
    rw [hh0, hh1] at g2
    rw [hl2, hl0] at g3
    rw [hh0, hh2] at g4
    rw [hh3, hAa, hh0] at g5
    rw [hh3] at tb
    rw [hAa] at hA eA
    clear hl0 hl1 hl2 hh0 hh1 hh2 hh3 hAa
    have q1 : ¬ l1 < l0 := by omega
    have q2 : ¬ h1 < h0 := by omega
    have q3 : ¬ l0 < l2 := by omega
    have q4 : ¬ h2 < h0 := by omega
    have tb2 := tb.2.2
    clear g1 g2 g3 g4 tb
    go_enter Try.func13, Try.ntmps13
    go_wp2_with fail
    have F0 := Lib.hid (g3_new w s r a n p x y 52 54 49)
    have B0 := Lib.hid ((((gr_new w (.cells #[.int .i64 s, .int .i64 r, .int .i64 a] 52)).alloc (.cells #[.int .i64 n, .int .i64 p] 54)).alloc (.cells #[.int .u16 x, .int .u16 y] 49)))
    generalize ((w.alloc (.cells #[.int .i64 s, .int .i64 r, .int .i64 a] 52)).alloc (.cells #[.int .i64 n, .int .i64 p] 54)).alloc (.cells #[.int .u16 x, .int .u16 y] 49) = w0 at *
    refine (awake13_any _).mono ?_
    rintro e w1 ⟨rfl, hG⟩
    have F1 := Lib.hid (F0.out.below hG.below)
    have B1 := Lib.hid (B0.out.trans hG)
    clear F0 B0 hG
    obtain ⟨⟨c0, c1, c2⟩, ⟨c3, c4⟩, ⟨c5, c6⟩, c7⟩ := F1.out
    go_wp2_with fail
    go_quiet (first | with_reducible exact Calls.quietC HC1.out _ _ | with_reducible exact Calls.quietC HC2.out _ _)
    rename Nat => nq
    have F2 := Lib.hid (F1.out.below ((Gr.refl w1).drewN nq).below)
    have B2 := Lib.hid (B1.out.drewN nq)
    clear F1 B1 c0 c1 c2 c3 c4 c5 c6 c7
    generalize w1.drewN nq = w2 at *
    obtain ⟨⟨c0, c1, c2⟩, ⟨c3, c4⟩, ⟨c5, c6⟩, c7⟩ := F2.out
    go_wp2_with fail
    refine (times_any s r a _).mono ?_
    rintro e w3 ⟨rfl, hG⟩
    have F3 := Lib.hid (F2.out.below hG.below)
    have B3 := Lib.hid (B2.out.trans hG)
    clear F2 B2 hG c0 c1 c2 c3 c4 c5 c6 c7
    obtain ⟨⟨c0, c1, c2⟩, ⟨c3, c4⟩, ⟨c5, c6⟩, c7⟩ := F3.out
    go_wp2_with fail
    refine (HA.out _).mono ?_
    rintro e w4 ⟨rfl, hG⟩
    have F4 := Lib.hid ((F3.out.below (below_new w3 (.cells #[.int .i64 s, .int .i64 r, .int .i64 a] 57))).below hG.below)
    have T4 := Lib.hid ((freeI_new w3 s r a 57).below hG.below)
    have B4 := Lib.hid ((B3.out.alloc (.cells #[.int .i64 s, .int .i64 r, .int .i64 a] 57)).trans hG)
    have L4 : w.heap.size < w3.heap.size := by have := F3.out.2.2.2; omega
    clear F3 B3 hG c0 c1 c2 c3 c4 c5 c6 c7
    obtain ⟨⟨c0, c1, c2⟩, ⟨c3, c4⟩, ⟨c5, c6⟩, c7⟩ := F4.out
    obtain ⟨⟨t0, t1, t2, t3⟩, t4⟩ := T4.out
    generalize w3.heap.size = Y at *
    go_wp2_with fail
    refine (HA1.out _).mono ?_
    rintro e w5 ⟨rfl, hG⟩
    have F5 := Lib.hid (F4.out.below hG.below)
    have T5 := Lib.hid (T4.out.below hG.below)
    have B5 := Lib.hid (B4.out.trans hG)
    clear F4 T4 B4 hG c0 c1 c2 c3 c4 c5 c6 c7 t0 t1 t2 t3 t4
    obtain ⟨⟨c0, c1, c2⟩, ⟨c3, c4⟩, ⟨c5, c6⟩, c7⟩ := F5.out
    obtain ⟨⟨t0, t1, t2, t3⟩, t4⟩ := T5.out
    go_wp2_with fail
    refine (HA2.out _).mono ?_
    rintro e w6 ⟨rfl, hG⟩
    have F6 := Lib.hid (F5.out.below hG.below)
    have T6 := Lib.hid (T5.out.below hG.below)
    have B6 := Lib.hid (B5.out.trans hG)
    clear F5 T5 B5 hG c0 c1 c2 c3 c4 c5 c6 c7 t0 t1 t2 t3 t4
    obtain ⟨⟨c0, c1, c2⟩, ⟨c3, c4⟩, ⟨c5, c6⟩, c7⟩ := F6.out
    obtain ⟨⟨t0, t1, t2, t3⟩, t4⟩ := T6.out
    go_wp2_with fail
    refine (HA3.out _).mono ?_
    rintro e w7 ⟨rfl, hG⟩
    have c2' : w7.cell? ⟨w.heap.size, 2, none⟩ = some (.int .i64 a) := (hG.below.cell (p := ⟨w.heap.size, 2, none⟩) (by simp; omega)).trans ((World.cell?_setCell_other _ _ _ _ (by intro e; have := congrArg Addr.block e; simp at this; omega)).trans c2)
    have B7 := Lib.hid ((B6.out.below.setCell (p := ⟨Y, 2, none⟩) (by show w.heap.size ≤ Y; omega) (.int .i64 (-1))).trans (hG.below.mono (by simp; omega)))
    clear F6 T6 B6 hG c0 c1 c2 c3 c4 c5 c6 c7 t0 t1 t2 t3 t4
    by_cases ha : a < 0
    · rw [if_pos ha] at eA
      have q5 : h3 = h0 := by have := eA.out; omega
      have q6 : ((h3 : Int) == h0) = true := by simpa using q5
      clear g5 q5 hA tb2
      go_wp2_with fail
      go_ret
      exact ⟨rfl, B7.out⟩
    · rw [if_neg ha] at eA
      rcases (show a ≤ 2147483647 ∧ A = (a + 1) * 1000 ∨ 2147483647 < a ∧ A = 2147483648000 by have := eA.out; omega) with ⟨q5, q6⟩ | ⟨q5, q6⟩
      · have q7 : h3 + (a + 1) * 1000 = h0 := by omega
        have q8 : ((h3 + (a + 1) * 1000 : Int) == h0) = true := by simpa using q7
        clear g5 q6 q7 hA eA
        go_wp2_with fail
        go_ret
        exact ⟨rfl, B7.out⟩
      · have q7 : h3 + 2147483648000 = h0 := by omega
        have q8 : ((h3 + 2147483648000 : Int) == h0) = true := by simpa using q7
        clear g5 q6 q7 hA eA
        go_wp2_with fail
        go_ret
        exact ⟨rfl, B7.out⟩
end aggrows
end Go.Proofs.Ytnbjkgkkefjaoaa
