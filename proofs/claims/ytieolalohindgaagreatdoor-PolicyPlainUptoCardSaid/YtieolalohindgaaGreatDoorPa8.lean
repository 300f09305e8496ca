import Derived.Test.YtieolalohindgaaGreatDoorPa7
import Derived.Deep.RegionHeld3
import Derived.Deep.QuietTactic
import Derived.BigQuiet
import Derived.Deep.RegionWith
import Derived.IntWalk
/- What the functions that take a clock return: a struct of three ints, which each of them puts into a box of its own. -/
namespace Go.Proofs.YtieolalohindgaaGreatDoor
open Go.RowKit

theorem Calls.quietC {P : Program} {f : FuncId} {args : Array Value} {v : Value} (h : ∀ w : World, Calls P f args w fun e w' => e = .returned v ∧ w = w') (w : World) (n : Nat) :
    Calls P f args (w.drewN n) fun e w'' => e = .returned v ∧ ∃ m, w'' = w.drewN m :=
  Calls.quiet_of_same ((h (w.drewN n)).mono fun _ _ ⟨he, hw⟩ => ⟨he, hw.symm⟩)
abbrev ckV (o n d : Int) : Value := .agg #[.int .i64 o, .int .i64 n, .int .i64 d]
/-- The block N holds three ints. -/
def ThreeI (N : Nat) (w : World) (x y z : Int) : Prop :=
  w.cell? ⟨N, 0, none⟩ = some (.int .i64 x) ∧ w.cell? ⟨N, 1, none⟩ = some (.int .i64 y) ∧ w.cell? ⟨N, 2, none⟩ = some (.int .i64 z) ∧ N < w.heap.size
theorem ThreeI.below {N : Nat} {w w' : World} {x y z : Int} (h : ThreeI N w x y z) (hb : Below w.heap.size w w') : ThreeI N w' x y z := by
  obtain ⟨h1, h2, h3, h5⟩ := h
  exact ⟨(hb.cell (p := ⟨N, 0, none⟩) h5).trans h1, (hb.cell (p := ⟨N, 1, none⟩) h5).trans h2, (hb.cell (p := ⟨N, 2, none⟩) h5).trans h3, Nat.lt_of_lt_of_le h5 hb.size⟩
theorem threeI_new (w : World) (x y z : Int) (T : TypeId) : ThreeI w.heap.size (w.alloc (.cells #[.int .i64 x, .int .i64 y, .int .i64 z] T)) x y z :=
  ⟨by rw [World.cell?_alloc_at _ _ _ _ rfl]; rfl, by rw [World.cell?_alloc_at _ _ _ _ rfl]; rfl, by rw [World.cell?_alloc_at _ _ _ _ rfl]; rfl, by simp⟩
theorem below_two2 (w : World) (o p : Obj) : Below w.heap.size w ((w.alloc o).alloc p) := (below_new w o).alloc (by simp) p
/-- A rate whose terms are from 1 to 2^20. -/
def rateB (n d : Int) : Bool := decide (1 ≤ n ∧ n ≤ 1048576) && decide (1 ≤ d ∧ d ≤ 1048576)
set_option maxHeartbeats 1000000 in
theorem hasRate_any (o n d : Int) (w : World) :
    Calls Tryz.prog 68 #[ckV o n d] w fun e w' => e = .returned (.bool (rateB n d)) ∧ Below w.heap.size w w' := by
  unfold rateB
  have H1 := Lib.hid (fun W => isTerm_any n W)
  have H2 := Lib.hid (fun W => isTerm_any d W)
  obtain ⟨x, hx⟩ : ∃ x, decide (1 ≤ n ∧ n ≤ 1048576) = x := ⟨_, rfl⟩
  obtain ⟨y, hy⟩ : ∃ y, decide (1 ≤ d ∧ d ≤ 1048576) = y := ⟨_, rfl⟩
  rw [hx] at H1 ⊢
  rw [hy] at H2 ⊢
  clear hx hy
  cases x with
  | false =>
    go_enter Tryz.func68, Tryz.ntmps68
    go_wp2_with fail
    refine (H1.out _).mono ?_
    rintro e w' ⟨rfl, rfl⟩
    go_wp2_with fail
    go_ret
    exact ⟨rfl, below_new _ _⟩
  | true =>
    go_enter Tryz.func68, Tryz.ntmps68
    go_wp2_with fail
    refine (H1.out _).mono ?_
    rintro e w' ⟨rfl, rfl⟩
    go_wp2_with fail
    refine (H2.out _).mono ?_
    rintro e w' ⟨rfl, rfl⟩
    go_wp2_with fail
    go_ret
    exact ⟨rfl, below_new _ _⟩
/-- Within: the rate is there, and its distance from 1 is at most p parts per million. -/
def withinB (n d p : Int) : Bool := rateB n d && decide ((max n d - min n d) * 1000000 ≤ p * d)
theorem rate_bd {n d : Int} (h : rateB n d = true) : 1 ≤ n ∧ n ≤ 1048576 ∧ 1 ≤ d ∧ d ≤ 1048576 := by
  unfold rateB at h; simp at h; omega
theorem pd_bd (p d : Int) (h0 : 0 ≤ p) (h1 : p ≤ 100000) (d0 : 1 ≤ d) (d1 : d ≤ 1048576) : 0 ≤ p * d ∧ p * d ≤ 104857600000 := by
  have a := Int.mul_nonneg h0 (show 0 ≤ d by omega)
  have b := mono_r h1 (show 0 ≤ d by omega)
  omega
/-- What a region that draws holds of a clock's box. -/
theorem box_keep {N : Nat} {w w1 w2 : World} {o n d : Int} (h : w1.cell? ⟨N, 0, none⟩ = some (.int .i64 o) ∧ w1.cell? ⟨N, 1, none⟩ = some (.int .i64 n) ∧ w1.cell? ⟨N, 2, none⟩ = some (.int .i64 d) ∧ N < w1.heap.size ∧ Below w.heap.size w w1) (hb : Below w1.heap.size w1 w2) :
    w2.cell? ⟨N, 0, none⟩ = some (.int .i64 o) ∧ w2.cell? ⟨N, 1, none⟩ = some (.int .i64 n) ∧ w2.cell? ⟨N, 2, none⟩ = some (.int .i64 d) ∧ N < w2.heap.size ∧ Below w.heap.size w w2 := by
  obtain ⟨h1, h2, h3, h4, h5⟩ := h
  obtain ⟨g1, g2, g3, g4⟩ := ThreeI.below ⟨h1, h2, h3, h4⟩ hb
  exact ⟨g1, g2, g3, g4, h5.trans (hb.mono h5.size)⟩
theorem ppm_in {N : Nat} {w w1 : World} {o n d q p : Int} (hp : pm q = p) (h : w1.cell? ⟨N, 0, none⟩ = some (.int .i64 o) ∧ w1.cell? ⟨N, 1, none⟩ = some (.int .i64 n) ∧ w1.cell? ⟨N, 2, none⟩ = some (.int .i64 d) ∧ N < w1.heap.size ∧ Below w.heap.size w w1) :
    Calls Tryz.prog 41 #[.int .i64 q] w1 fun e w2 => e = .returned (.int .i64 p) ∧ (w2.cell? ⟨N, 0, none⟩ = some (.int .i64 o) ∧ w2.cell? ⟨N, 1, none⟩ = some (.int .i64 n) ∧ w2.cell? ⟨N, 2, none⟩ = some (.int .i64 d) ∧ N < w2.heap.size ∧ Below w.heap.size w w2) := by
  refine (refPpm_any q w1).mono ?_
  rintro e w2 ⟨rfl, rfl⟩
  exact ⟨by rw [hp], h⟩
theorem box_new (w : World) (o n d : Int) (T : TypeId) : (w.alloc (.cells #[.int .i64 o, .int .i64 n, .int .i64 d] T)).cell? ⟨w.heap.size, 0, none⟩ = some (.int .i64 o) ∧ (w.alloc (.cells #[.int .i64 o, .int .i64 n, .int .i64 d] T)).cell? ⟨w.heap.size, 1, none⟩ = some (.int .i64 n) ∧ (w.alloc (.cells #[.int .i64 o, .int .i64 n, .int .i64 d] T)).cell? ⟨w.heap.size, 2, none⟩ = some (.int .i64 d) ∧ w.heap.size < (w.alloc (.cells #[.int .i64 o, .int .i64 n, .int .i64 d] T)).heap.size ∧ Below w.heap.size w (w.alloc (.cells #[.int .i64 o, .int .i64 n, .int .i64 d] T)) := by
  obtain ⟨a, b, c, e⟩ := threeI_new w o n d T
  exact ⟨a, b, c, e, below_new _ _⟩
/-- Read: the offset, the rate and the time are within their limits; the reading. -/
def okB (o n d t : Int) : Bool := decide (0 ≤ o ∧ o ≤ 1099511627776) && (rateB n d && decide (0 ≤ t ∧ t ≤ 1099511627776))
def readV (o n d t : Int) : Value := if okB o n d t = true then .tuple #[.int .i64 (o + t * n / d), .nilIface] else .tuple #[.int .i64 0, .iface 92 (.int .i64 1)]
def readR (o n d t : Int) : Value := if okB o n d t = true then .tuple #[.int .i64 (o + t * n / d), .int .i64 0] else .tuple #[.int .i64 0, .int .i64 1]
theorem readV_no {o n d t : Int} (h : okB o n d t = false) : readV o n d t = .tuple #[.int .i64 0, .iface 92 (.int .i64 1)] := by unfold readV; rw [if_neg (by rw [h]; simp)]
theorem readR_no {o n d t : Int} (h : okB o n d t = false) : readR o n d t = .tuple #[.int .i64 0, .int .i64 1] := by unfold readR; rw [if_neg (by rw [h]; simp)]
theorem readV_yes {o n d t : Int} (h : okB o n d t = true) : readV o n d t = .tuple #[.int .i64 (o + t * n / d), .nilIface] := by unfold readV; rw [if_pos h]
theorem readR_yes {o n d t : Int} (h : okB o n d t = true) : readR o n d t = .tuple #[.int .i64 (o + t * n / d), .int .i64 0] := by unfold readR; rw [if_pos h]
theorem tn_bd (t n d : Int) (ht : 0 ≤ t ∧ t ≤ 1099511627776) (hn : 1 ≤ n ∧ n ≤ 1048576) (hd : 1 ≤ d) : 0 ≤ t * n ∧ t * n ≤ 1152921504606846976 ∧ 0 ≤ t * n / d ∧ t * n / d ≤ 1152921504606846976 := by
  have a := Int.mul_nonneg ht.1 (show 0 ≤ n by omega)
  have b := mono_r ht.2 (show 0 ≤ n by omega)
  have c := Int.ediv_nonneg (a := t * n) (b := d) a (by omega)
  have e := Int.ediv_le_self (a := t * n) d a
  omega
set_option maxHeartbeats 4000000 in
theorem read_any (o n d t : Int) (w : World) :
    Calls Tryz.prog 42 #[ckV o n d, .int .i64 t] w fun e w' => e = .returned (readV o n d t) ∧ Below w.heap.size w w' := by
  have H1 := Lib.hid (fun W => isTime_any o W)
  have H2 := Lib.hid (fun W => hasRate_any o n d W)
  have H3 := Lib.hid (fun W => isTime_any t W)
  cases c1 : decide (0 ≤ o ∧ o ≤ 1099511627776) with
  | false =>
    have E := Lib.hid (readV_no (show okB o n d t = false by unfold okB; rw [c1]; rfl))
    rw [c1] at H1
    clear c1
    go_enter Tryz.func42, Tryz.ntmps42
    go_wp2_with fail
    refine (H1.out _).mono ?_
    rintro e w' ⟨rfl, rfl⟩
    go_wp2_with fail
    go_ret2
    exact ⟨by rw [E.out]; rfl, below_new _ _⟩
  | true =>
    rw [c1] at H1
    cases c2 : rateB n d with
    | false =>
      have E := Lib.hid (readV_no (show okB o n d t = false by unfold okB; rw [c1, c2]; rfl))
      rw [c2] at H2
      clear c1 c2
      go_enter Tryz.func42, Tryz.ntmps42
      go_wp2_with fail
      refine (H1.out _).mono ?_
      rintro e w' ⟨rfl, rfl⟩
      go_wp2_with fail
      refine (H2.out _).mono ?_
      rintro e w2 ⟨rfl, hB⟩
      go_wp2_with fail
      go_ret2
      exact ⟨by rw [E.out]; rfl, (below_new _ _).trans (hB.mono (by simp))⟩
    | true =>
      rw [c2] at H2
      cases c3 : decide (0 ≤ t ∧ t ≤ 1099511627776) with
      | false =>
        have E := Lib.hid (readV_no (show okB o n d t = false by unfold okB; rw [c1, c2, c3]; rfl))
        rw [c3] at H3
        clear c1 c2 c3
        go_enter Tryz.func42, Tryz.ntmps42
        go_wp2_with fail
        refine (H1.out _).mono ?_
        rintro e w' ⟨rfl, rfl⟩
        go_wp2_with fail
        refine (H2.out _).mono ?_
        rintro e w2 ⟨rfl, hB⟩
        go_wp2_with fail
        refine (H3.out _).mono ?_
        rintro e w' ⟨rfl, rfl⟩
        go_wp2_with fail
        go_ret2
        exact ⟨by rw [E.out]; rfl, (below_new _ _).trans (hB.mono (by simp))⟩
      | true =>
        have E := Lib.hid (readV_yes (show okB o n d t = true by unfold okB; rw [c1, c2, c3]; rfl))
        rw [c3] at H3
        have ob := of_decide_eq_true c1
        have tb := of_decide_eq_true c3
        have rb := rate_bd c2
        have xb := tn_bd t n d tb ⟨rb.1, rb.2.1⟩ rb.2.2.1
        obtain ⟨X, hX⟩ : ∃ X, t * n = X := ⟨_, rfl⟩
        obtain ⟨Y, hY⟩ : ∃ Y, X / d = Y := ⟨_, rfl⟩
        rw [hX, hY] at xb E
        have hw1 : IntKind.i64.wrap (t * n) = X := by rw [hX]; exact IntWalk.i64_in _ (by omega)
        have hd0 : (d == 0) = false := by simp; omega
        have hw2 : IntKind.i64.wrap (X / d) = Y := by rw [hY]; exact IntWalk.i64_in _ (by omega)
        have hw2' : IntKind.i64.wrap (X.tdiv d) = Y := by rw [Int.tdiv_eq_ediv_of_nonneg xb.1]; exact hw2
        have hw3 : IntKind.i64.wrap (o + Y) = o + Y := IntWalk.i64_in _ (by omega)
        clear c1 c2 c3 hX hY
        go_enter Tryz.func42, Tryz.ntmps42
        go_wp2_with fail
        refine (H1.out _).mono ?_
        rintro e w' ⟨rfl, rfl⟩
        go_wp2_with fail
        refine (H2.out _).mono ?_
        rintro e w2 ⟨rfl, hB⟩
        obtain ⟨e0, e1, e2, hN⟩ := (threeI_new w o n d 86).below hB
        have HB := Lib.hid ((below_new w (.cells #[.int .i64 o, .int .i64 n, .int .i64 d] 86)).trans (hB.mono (by simp)))
        clear hB
        go_wp2_with fail
        refine (H3.out _).mono ?_
        rintro e w' ⟨rfl, rfl⟩
        go_wp2_with fail
        go_quiet (fail)
        go_wp2_with fail
        go_ret2
        exact ⟨by rw [E.out]; rfl, below_drewN HB.out _⟩
end Go.Proofs.YtieolalohindgaaGreatDoor
