/- ClockGrows, ClockOrders and ClockContains: for every input the statement's function returns true: the walks. -/
import Derived.Test.YtnbjkgkkefjaoaaCLaw
namespace Go.Proofs.Ytnbjkgkkefjaoaa
open Go.RowKit

theorem tk_id {n : Int} (h : 0 ≤ n ∧ n ≤ 1099511627776) : tk n = n := by unfold tk; omega
theorem pm_id {n : Int} (h : 0 ≤ n ∧ n ≤ 100000) : pm n = n := by unfold pm; omega
theorem elapsed_at {n p : Int} (hn : 0 ≤ n ∧ n ≤ 1099511627776) (hp : 0 ≤ p ∧ p ≤ 100000) (w : World) :
    Calls Try.prog 17 #[.int .i64 n, .int .i64 p] w fun e w' => e = .returned (.tuple #[.int .i64 (loE n p), .int .i64 (hiE n p)]) ∧ w = w' := by
  have := elapsed_any n p w
  rw [tk_id hn, pm_id hp] at this
  exact this
theorem hold_at {n p : Int} (hn : 0 ≤ n ∧ n ≤ 1099511627776) (hp : 0 ≤ p ∧ p ≤ 100000) (w : World) :
    Calls Try.prog 24 #[.int .i64 n, .int .i64 p] w fun e w' => e = .returned (.int .i64 (hoE n p)) ∧ w = w' := by
  have := hold_any n p w
  rw [tk_id hn, pm_id hp] at this
  exact this
theorem wait_at {n p : Int} (hn : 0 ≤ n ∧ n ≤ 1099511627776) (hp : 0 ≤ p ∧ p ≤ 100000) (w : World) :
    Calls Try.prog 25 #[.int .i64 n, .int .i64 p] w fun e w' => e = .returned (.int .i64 (waE n p)) ∧ w = w' := by
  have := wait_any n p w
  rw [tk_id hn, pm_id hp] at this
  exact this
namespace clgrows
set_option maxHeartbeats 4000000 in
theorem walk (d q x y : Int) (hx : 0 ≤ x ∧ x ≤ 65535) (hy : 0 ≤ y ∧ y ≤ 65535) (w : World) :
    Calls Try.prog 7 #[.int .i64 d, .int .i64 q, .agg #[.int .u16 x, .int .u16 y]] w fun e w' => e = .returned (.bool true) ∧ Below w.heap.size w w' := by
  have C1 := Lib.hid (fun W => clip_any d 0 1099511562240 W)
  have C2 := Lib.hid (fun W => clip_any q 0 34464 W)
  obtain ⟨n, hn⟩ : ∃ n, max (0 : Int) (min d 1099511562240) = n := ⟨_, rfl⟩
  obtain ⟨p, hp⟩ : ∃ p, max (0 : Int) (min q 34464) = p := ⟨_, rfl⟩
  have bn : 0 ≤ n ∧ n ≤ 1099511562240 := by omega
  have bp : 0 ≤ p ∧ p ≤ 34464 := by omega
  rw [hn] at C1
  rw [hp] at C2
  have hn' : 0 ≤ n ∧ n ≤ 1099511627776 := by omega
  have hm' : 0 ≤ n + x ∧ n + x ≤ 1099511627776 := by omega
  have hp' : 0 ≤ p ∧ p ≤ 100000 := by omega
  have hq' : 0 ≤ p + y ∧ p + y ≤ 100000 := by omega
  have E1 := Lib.hid (fun W => elapsed_at hn' hp' W)
  have E2 := Lib.hid (fun W => elapsed_at hm' hp' W)
  have E3 := Lib.hid (fun W => elapsed_at hn' hq' W)
  have O1 := Lib.hid (fun W => hold_at hn' hq' W)
  have O2 := Lib.hid (fun W => hold_at hn' hp' W)
  have O3 := Lib.hid (fun W => hold_at hm' hp' W)
  have A1 := Lib.hid (fun W => wait_at hn' hp' W)
  have A2 := Lib.hid (fun W => wait_at hn' hq' W)
  have A3 := Lib.hid (fun W => wait_at hm' hp' W)
  have g1 := lo_n n (n + x) p bn.1 (by omega) bp.1 (by omega)
  have g2 := hi_n n (n + x) p (by omega) (by omega)
  have g3 := lo_p n p (p + y) bn.1 bp.1 (by omega) (by omega)
  have g4 := hi_p n p (p + y) bn.1 bp.1 (by omega) (by omega)
  have g5 := (lo_bd n p bn.1 bp.1 (by omega)).2
  have g6 := (hi_bd n p bn.1 bp.1 (by omega)).1
  have g7 := ho_p n p (p + y) bn.1 (by omega)
  have g8 := ho_l n (n + x) p (by omega) (by omega)
  have g9 := wa_p n p (p + y) bn.1 (by omega)
  have g10 := wa_l n (n + x) p bn.1 (by omega) bp.1 (by omega)
  generalize loE n p = l1 at *
  generalize hiE n p = h1 at *
  generalize loE (n + x) p = l2 at *
  generalize hiE (n + x) p = h2 at *
  generalize loE n (p + y) = l3 at *
  generalize hiE n (p + y) = h3 at *
  generalize hoE n (p + y) = o1 at *
  generalize hoE n p = o2 at *
  generalize hoE (n + x) p = o3 at *
  generalize waE n p = a1 at *
  generalize waE n (p + y) = a2 at *
  generalize waE (n + x) p = a3 at *
  have w1 : IntKind.i64.wrap (n + x) = n + x := IntWalk.i64_in _ (by omega)
  have w2 : IntKind.i64.wrap (p + y) = p + y := IntWalk.i64_in _ (by omega)
  have w3 : IntKind.i64.wrap x = x := IntWalk.i64_in _ (by omega)
  have w4 : IntKind.i64.wrap y = y := IntWalk.i64_in _ (by omega)
  clear hn hp hn' hm' hp' hq'
  go_enter Try.func7, Try.ntmps7
  go_wp2_with fail
  refine (awake_any _).mono ?_
  rintro e w' ⟨rfl, rfl⟩
  go_wp2_with fail
  refine (C1.out _).mono ?_
  rintro e w' ⟨rfl, rfl⟩
  go_wp2_with fail
  refine (C2.out _).mono ?_
  rintro e w' ⟨rfl, rfl⟩
  have HB := Lib.hid (below_new w (.cells #[.int .u16 x, .int .u16 y] 49))
  have d0 : (w.alloc (.cells #[.int .u16 x, .int .u16 y] 49)).cell? ⟨w.heap.size, 0, none⟩ = some (.int .u16 x) := by rw [World.cell?_alloc_at _ _ _ _ rfl]; rfl
  have d1 : (w.alloc (.cells #[.int .u16 x, .int .u16 y] 49)).cell? ⟨w.heap.size, 1, none⟩ = some (.int .u16 y) := by rw [World.cell?_alloc_at _ _ _ _ rfl]; rfl
  generalize w.alloc (.cells #[.int .u16 x, .int .u16 y] 49) = w0 at *
  go_wp2_with fail
  go_quiet (fail)
  go_wp2_with fail
  refine (E1.out _).mono ?_
  rintro e w' ⟨rfl, rfl⟩
  go_wp2_with fail
  refine (E2.out _).mono ?_
  rintro e w' ⟨rfl, rfl⟩
  go_wp2_with fail
  refine (E3.out _).mono ?_
  rintro e w' ⟨rfl, rfl⟩
  go_wp2_with fail
  refine (O1.out _).mono ?_
  rintro e w' ⟨rfl, rfl⟩
  go_wp2_with fail
  refine (O2.out _).mono ?_
  rintro e w' ⟨rfl, rfl⟩
  go_wp2_with fail
  refine (O2.out _).mono ?_
  rintro e w' ⟨rfl, rfl⟩
  go_wp2_with fail
  refine (O3.out _).mono ?_
  rintro e w' ⟨rfl, rfl⟩
  go_wp2_with fail
  refine (A1.out _).mono ?_
  rintro e w' ⟨rfl, rfl⟩
  go_wp2_with fail
  refine (A2.out _).mono ?_
  rintro e w' ⟨rfl, rfl⟩
  go_wp2_with fail
  refine (A1.out _).mono ?_
  rintro e w' ⟨rfl, rfl⟩
  go_wp2_with fail
  refine (A3.out _).mono ?_
  rintro e w' ⟨rfl, rfl⟩
  go_wp2_with fail
  go_ret
  exact ⟨rfl, below_drewN HB.out _⟩
end clgrows
namespace clorders
def befB (a b c d : Int) : Bool := decide (a ≤ b ∧ c ≤ d ∧ b < c)
abbrev twV (a b : Int) : Value := .agg #[.int .i64 a, .int .i64 b]
/-- Both boxes. -/
def Two2 (M N : Nat) (w : World) (a b c d : Int) : Prop :=
  w.cell? ⟨M, 0, none⟩ = some (.int .i64 a) ∧ w.cell? ⟨M, 1, none⟩ = some (.int .i64 b) ∧ w.cell? ⟨N, 0, none⟩ = some (.int .i64 c) ∧ w.cell? ⟨N, 1, none⟩ = some (.int .i64 d) ∧ M < w.heap.size ∧ N < w.heap.size
theorem Two2.below {M N : Nat} {w w' : World} {a b c d : Int} (h : Two2 M N w a b c d) (hb : Below w.heap.size w w') : Two2 M N w' a b c d := by
  obtain ⟨h1, h2, h3, h4, h5, h6⟩ := h
  exact ⟨(hb.cell (p := ⟨M, 0, none⟩) h5).trans h1, (hb.cell (p := ⟨M, 1, none⟩) h5).trans h2, (hb.cell (p := ⟨N, 0, none⟩) h6).trans h3, (hb.cell (p := ⟨N, 1, none⟩) h6).trans h4, Nat.lt_of_lt_of_le h5 hb.size, Nat.lt_of_lt_of_le h6 hb.size⟩
theorem two2_new (w : World) (a b c d : Int) (T U : TypeId) : Two2 w.heap.size (w.heap.size + 1) ((w.alloc (.cells #[.int .i64 a, .int .i64 b] T)).alloc (.cells #[.int .i64 c, .int .i64 d] U)) a b c d := by
  refine ⟨?_, ?_, ?_, ?_, by simp; omega, by simp⟩
  · rw [World.cell?_alloc_old _ _ _ (by simp), World.cell?_alloc_at _ _ _ _ rfl]; rfl
  · rw [World.cell?_alloc_old _ _ _ (by simp), World.cell?_alloc_at _ _ _ _ rfl]; rfl
  · rw [World.cell?_alloc_at _ _ _ _ (by simp)]; rfl
  · rw [World.cell?_alloc_at _ _ _ _ (by simp)]; rfl
end clorders
end Go.Proofs.Ytnbjkgkkefjaoaa
