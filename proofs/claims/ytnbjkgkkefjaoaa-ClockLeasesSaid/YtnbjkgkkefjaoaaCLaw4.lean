/- ClockLeases: for every input the statement's function returns true: the walk. -/
import Derived.Test.YtnbjkgkkefjaoaaCLaw3
import Derived.Test.YtnbjkgkkefjaoaaKOnly
import Derived.Deep.DeepCutAuto
import Derived.BigRegion
namespace Go.Proofs.Ytnbjkgkkefjaoaa.clleases
open Go.RowKit

abbrev lsV (l s g h v : Int) : Value := .agg #[.int .i64 l, .int .i64 s, .int .i64 g, .int .i64 h, .int .i64 v]
def FiveI (N : Nat) (w : World) (l s g h v : Int) : Prop :=
  w.cell? ⟨N, 0, none⟩ = some (.int .i64 l) ∧ w.cell? ⟨N, 1, none⟩ = some (.int .i64 s) ∧ w.cell? ⟨N, 2, none⟩ = some (.int .i64 g) ∧ w.cell? ⟨N, 3, none⟩ = some (.int .i64 h) ∧ w.cell? ⟨N, 4, none⟩ = some (.int .i64 v) ∧ N < w.heap.size
theorem fiveI_new {N : Nat} (w : World) (l s g h v : Int) (T : TypeId) (hN : N = w.heap.size) : FiveI N (w.alloc (.cells #[.int .i64 l, .int .i64 s, .int .i64 g, .int .i64 h, .int .i64 v] T)) l s g h v := by
  subst hN
  refine ⟨?_, ?_, ?_, ?_, ?_, by simp⟩
  all_goals (rw [World.cell?_alloc_at _ _ _ _ rfl]; rfl)
/-- A clock's block, with its cells and what may be written. -/
structure Tri (N : Nat) (w : World) (x y z : Int) : Prop where
  c0 : w.cell? ⟨N, 0, none⟩ = some (.int .i64 x)
  c1 : w.cell? ⟨N, 1, none⟩ = some (.int .i64 y)
  c2 : w.cell? ⟨N, 2, none⟩ = some (.int .i64 z)
  fr : ∀ j, w.frozen? ⟨N, j, none⟩ = false
  lt : N < w.heap.size
theorem Tri.below {N : Nat} {w w' : World} {x y z : Int} (h : Tri N w x y z) (hb : Below w.heap.size w w') : Tri N w' x y z :=
  ⟨(hb.cell (p := ⟨N, 0, none⟩) h.lt).trans h.c0, (hb.cell (p := ⟨N, 1, none⟩) h.lt).trans h.c1, (hb.cell (p := ⟨N, 2, none⟩) h.lt).trans h.c2, fun j => (hb.frozen (p := ⟨N, j, none⟩) h.lt).trans (h.fr j), Nat.lt_of_lt_of_le h.lt hb.size⟩
theorem Tri.three {N : Nat} {w : World} {x y z : Int} (h : Tri N w x y z) : ThreeI N w x y z := ⟨h.c0, h.c1, h.c2, h.lt⟩
theorem tri_new (w : World) (x y z : Int) (T : TypeId) : Tri w.heap.size (w.alloc (.cells #[.int .i64 x, .int .i64 y, .int .i64 z] T)) x y z :=
  ⟨by rw [World.cell?_alloc_at _ _ _ _ rfl]; rfl, by rw [World.cell?_alloc_at _ _ _ _ rfl]; rfl, by rw [World.cell?_alloc_at _ _ _ _ rfl]; rfl, fun j => World.frozen?_alloc_new _ _ _ _, by simp⟩
theorem Tri.set {N : Nat} {w : World} {x y z : Int} (h : Tri N w x y z) (a b c : Int) : Tri N (((w.setCell ⟨N, 0, none⟩ (.int .i64 a)).setCell ⟨N, 1, none⟩ (.int .i64 b)).setCell ⟨N, 2, none⟩ (.int .i64 c)) a b c := by
  obtain ⟨c0, c1, c2, fr, lt⟩ := h
  refine ⟨?_, ?_, ?_, fun j => by simpa using fr j, by simpa using lt⟩
  all_goals simp (maxDischargeDepth := 9) [go_sem, c0, c1, c2]
theorem Tri.other {N M : Nat} {w : World} {x y z : Int} (h : Tri N w x y z) (hn : M ≠ N) (a b c : Value) : Tri N (((w.setCell ⟨M, 0, none⟩ a).setCell ⟨M, 1, none⟩ b).setCell ⟨M, 2, none⟩ c) x y z := by
  have hb : Only (· = M) w (((w.setCell ⟨M, 0, none⟩ a).setCell ⟨M, 1, none⟩ b).setCell ⟨M, 2, none⟩ c) := (((Only.refl (· = M) w).trans' (Only.set (X := (· = M)) rfl _ 0 a)).trans' (Only.set (X := (· = M)) rfl _ 1 b)).trans' (Only.set (X := (· = M)) rfl _ 2 c)
  have hx : ¬ (N = M) := fun e => hn e.symm
  exact ⟨(hb.cell (p := ⟨N, 0, none⟩) h.lt hx).trans h.c0, (hb.cell (p := ⟨N, 1, none⟩) h.lt hx).trans h.c1, (hb.cell (p := ⟨N, 2, none⟩) h.lt hx).trans h.c2, fun j => (hb.frozen (p := ⟨N, j, none⟩) h.lt hx).trans (h.fr j), Nat.lt_of_lt_of_le h.lt hb.size⟩
/-- What the region holds: the rates' box, and all that was there before. -/
structure SrS (A : Nat) (q p0 p1 : Int) (s0 s1 : Bool) (w w' : World) : Prop where
  f : Five A w' q p0 p1 s0 s1
  l : Below w.heap.size w w'
theorem SrS.below {A : Nat} {q p0 p1 : Int} {s0 s1 : Bool} {w w1 w2 : World} (h : SrS A q p0 p1 s0 s1 w w1) (hb : Below w1.heap.size w1 w2) : SrS A q p0 p1 s0 s1 w w2 := ⟨h.f.below hb, h.l.trans (hb.mono h.l.size)⟩
theorem SrS.set {A N : Nat} {q p0 p1 x y z : Int} {s0 s1 : Bool} {w w1 : World} (h : SrS A q p0 p1 s0 s1 w w1) (hA : w.heap.size ≤ A) (hN : A + 1 ≤ N) :
    SrS A q p0 p1 s0 s1 w (((w1.setCell ⟨N, 0, none⟩ (.int .i64 x)).setCell ⟨N, 1, none⟩ (.int .i64 y)).setCell ⟨N, 2, none⟩ (.int .i64 z)) := by
  have hb : Only (· = N) w1 (((w1.setCell ⟨N, 0, none⟩ (.int .i64 x)).setCell ⟨N, 1, none⟩ (.int .i64 y)).setCell ⟨N, 2, none⟩ (.int .i64 z)) := (((Only.refl (· = N) w1).trans' (Only.set (X := (· = N)) rfl _ 0 _)).trans' (Only.set (X := (· = N)) rfl _ 1 _)).trans' (Only.set (X := (· = N)) rfl _ 2 _)
  have hx : ¬ (A = N) := by omega
  obtain ⟨⟨c0, c1, c2, c3, c4, lt⟩, l⟩ := h
  exact ⟨⟨(hb.cell (p := ⟨A, 0, none⟩) lt hx).trans c0, (hb.cell (p := ⟨A, 1, none⟩) lt hx).trans c1, (hb.cell (p := ⟨A, 2, none⟩) lt hx).trans c2, (hb.cell (p := ⟨A, 3, none⟩) lt hx).trans c3, (hb.cell (p := ⟨A, 4, none⟩) lt hx).trans c4, Nat.lt_of_lt_of_le lt hb.size⟩,
    ((l.setCell (p := ⟨N, 0, none⟩) (by show w.heap.size ≤ N; omega) _).setCell (p := ⟨N, 1, none⟩) (by show w.heap.size ≤ N; omega) _).setCell (p := ⟨N, 2, none⟩) (by show w.heap.size ≤ N; omega) _⟩
/-- Where the bit is set: the value is the block's address; the block's cells are zero. -/
def BlkC (b : Bool) (s : Value) (N B : Nat) (V : World) : Prop := b = true → s = .pointer (some ⟨N, 0, none⟩) ∧ Tri N V 0 0 0 ∧ B ≤ N
theorem BlkC.below {b : Bool} {s : Value} {N B : Nat} {V W : World} (h : BlkC b s N B V) (hb : Below V.heap.size V W) : BlkC b s N B W := fun e => ⟨(h e).1, (h e).2.1.below hb, (h e).2.2⟩
theorem BlkC.lt {b : Bool} {s : Value} {N B : Nat} {V : World} (h : BlkC b s N B V) (e : b = true) : N < V.heap.size := (h e).2.1.lt
theorem blkC_new (B : Nat) (V : World) (T : TypeId) (h : B ≤ V.heap.size) : BlkC true (.pointer (some ⟨V.heap.size, 0, none⟩)) V.heap.size B (V.alloc (.cells #[.int .i64 0, .int .i64 0, .int .i64 0] T)) := fun _ => ⟨rfl, tri_new V 0 0 0 T, h⟩
/-- The operations that may come up next: one of four calls in their order, and two that wait for nothing. -/
def rdyC (b1 b2 b3 b4 a1 a2 : Bool) : List Nat := (if b1 then (if b2 then (if b3 then (if b4 then [] else [19]) else [18]) else [9]) else [8]) ++ ((if a1 then [] else [20]) ++ (if a2 then [] else [21]))
theorem mem_rdyC {b1 b2 b3 b4 a1 a2 : Bool} {i : Nat} (h : i ∈ rdyC b1 b2 b3 b4 a1 a2) : (i = 8 ∧ b1 = false) ∨ (i = 9 ∧ b1 = true ∧ b2 = false) ∨ (i = 18 ∧ b2 = true ∧ b3 = false) ∨ (i = 19 ∧ b3 = true ∧ b4 = false) ∨ (i = 20 ∧ a1 = false) ∨ (i = 21 ∧ a2 = false) := by
  revert h; cases b1 <;> cases b2 <;> cases b3 <;> cases b4 <;> cases a1 <;> cases a2 <;> simp [rdyC] <;> omega
/-- How many are still to come. -/
def cntC (b1 b2 b3 b4 a1 a2 : Bool) : Nat := (!b1).toNat + (!b2).toNat + (!b3).toNat + (!b4).toNat + (!a1).toNat + (!a2).toNat
theorem cntC_zero {b1 b2 b3 b4 a1 a2 : Bool} (h : 0 = cntC b1 b2 b3 b4 a1 a2) : b1 = true ∧ b2 = true ∧ b3 = true ∧ b4 = true ∧ a1 = true ∧ a2 = true := by
  revert h; cases b1 <;> cases b2 <;> cases b3 <;> cases b4 <;> cases a1 <;> cases a2 <;> decide
theorem rdyC_ne {b1 b2 b3 b4 a1 a2 : Bool} {n : Nat} (h : n + 1 = cntC b1 b2 b3 b4 a1 a2) (h2 : b2 = true → b1 = true) (h3 : b3 = true → b2 = true) (h4 : b4 = true → b3 = true) : rdyC b1 b2 b3 b4 a1 a2 ≠ [] := by
  revert h h2 h3 h4; cases b1 <;> cases b2 <;> cases b3 <;> cases b4 <;> cases a1 <;> cases a2 <;> simp [rdyC, cntC]
/-- The operations, what follows and the temporaries get names. -/
theorem gen_startC {P : Program} {md : Region.Mode} {ops : Array Oper} {Q : Exit → Act → World → Prop} {S : World → Prop} {n : Nat} {l : Array Bool} {a : Act} {w : World}
    (h : ∀ (o : Array Oper) (Q' : Exit → Act → World → Prop) (T : Array Value), o = ops → Q' = Q → T = a.tmps → wpAnyH P md o Q' S n l ⟨T, a.defers⟩ w) : wpAnyH P md ops Q S n l a w := h _ _ _ rfl rfl rfl
set_option maxHeartbeats 32000000 in
set_option maxRecDepth 100000 in
theorem walk (q p0 p1 : Int) (s0 s1 : Bool) (l0 t0 g0 h0 v0 : Int) (hp0 : 0 ≤ p0 ∧ p0 ≤ 255) (hp1 : 0 ≤ p1 ∧ p1 ≤ 255) (w : World) :
    Calls Try.prog 6 #[rtV q p0 p1 s0 s1, lsV l0 t0 g0 h0 v0] w fun e w' => e = .returned (.bool true) ∧ Below w.heap.size w w' := by
  have C1 := Lib.hid (fun W => clip_any l0 0 137438953472 W)
  have C2 := Lib.hid (fun W => clip_any t0 0 137438953472 W)
  have C3 := Lib.hid (fun W => clip_any g0 0 137438953472 W)
  have C4 := Lib.hid (fun W => clip_any h0 0 274877906944 W)
  have C5 := Lib.hid (fun W => clip_any v0 0 274877906944 W)
  obtain ⟨L, hL⟩ : ∃ f, max (0 : Int) (min l0 137438953472) = f := ⟨_, rfl⟩
  obtain ⟨s, hs⟩ : ∃ f, max (0 : Int) (min t0 137438953472) = f := ⟨_, rfl⟩
  obtain ⟨a, ha⟩ : ∃ f, max (0 : Int) (min g0 137438953472) = f := ⟨_, rfl⟩
  obtain ⟨b, hb⟩ : ∃ f, max (0 : Int) (min h0 274877906944) = f := ⟨_, rfl⟩
  obtain ⟨c, hc⟩ : ∃ f, max (0 : Int) (min v0 274877906944) = f := ⟨_, rfl⟩
  have bL : 0 ≤ L ∧ L ≤ 137438953472 := by omega
  have bs : 0 ≤ s ∧ s ≤ 137438953472 := by omega
  have ba : 0 ≤ a ∧ a ≤ 137438953472 := by omega
  have bb : 0 ≤ b ∧ b ≤ 274877906944 := by omega
  have bc : 0 ≤ c ∧ c ≤ 274877906944 := by omega
  rw [hL] at C1
  rw [hs] at C2
  rw [ha] at C3
  rw [hb] at C4
  rw [hc] at C5
  clear hL hs ha hb hc
  have b2 := pm_bd q
  have NR1 := Lib.hid (fun W => near_any 3 q p0 s0 hp0.1 hp0.2 W)
  have NR2 := Lib.hid (fun W => near_any 70 q p1 s1 hp1.1 hp1.2 W)
  rw [show tk 3 = 3 from rfl] at NR1
  rw [show tk 70 = 70 from rfl] at NR2
  have nb1 := near_bd (pm q) p0 s0 b2.1 b2.2 hp0.1 hp0.2
  have nb2 := near_bd (pm q) p1 s1 b2.1 b2.2 hp1.1 hp1.2
  have r1 := (near_within q p0 s0 hp0.1 hp0.2).1
  have r2 := (near_within q p1 s1 hp1.1 hp1.2).1
  obtain ⟨n, hn⟩ : ∃ n, nearN (pm q) p0 s0 = n := ⟨_, rfl⟩
  obtain ⟨m, hm⟩ : ∃ m, nearN (pm q) p1 s1 = m := ⟨_, rfl⟩
  rw [hn] at NR1 nb1 r1
  rw [hm] at NR2 nb2 r2
  clear hn hm
  have K1 := Lib.hid (fun W => clock_any 3 n 1024 W)
  have K2 := Lib.hid (fun W => clock_any 70 m 1024 W)
  have R1 := Lib.hid (fun W => read_yes (o := 3) (n := n) (t := s) (by omega) r1 (by omega) W)
  have R2 := Lib.hid (fun W => read_yes (o := 3) (n := n) (t := s + b) (by omega) r1 (by omega) W)
  have R3 := Lib.hid (fun W => read_yes (o := 70) (n := m) (t := s + a) (by omega) r2 (by omega) W)
  have R4 := Lib.hid (fun W => read_yes (o := 70) (n := m) (t := s + a + c) (by omega) r2 (by omega) W)
  have x1 := tn_bd s n 1024 (by omega) (by omega) (by omega)
  have x2 := tn_bd (s + b) n 1024 (by omega) (by omega) (by omega)
  have x3 := tn_bd (s + a) m 1024 (by omega) (by omega) (by omega)
  have x4 := tn_bd (s + a + c) m 1024 (by omega) (by omega) (by omega)
  have mn := mono_r (show s ≤ s + b by omega) (show 0 ≤ n by omega)
  have lp := leases_pure s (s + b) (s + a) (s + a + c) n m ((s + b) * n / 1024 - s * n / 1024) ((s + a + c) * m / 1024 - (s + a) * m / 1024) L (pm q) (by omega) (by omega) (by omega) bL.1 b2.1 b2.2 (by omega) rfl rfl nb1.1 nb1.2.1 nb2.1 nb2.2.1
  have O1 := Lib.hid (fun W => hold_any L q W)
  have W1 := Lib.hid (fun W => wait_any L q W)
  rw [tk_id (by omega)] at O1 W1
  generalize hoE L (pm q) = H at *
  generalize waE L (pm q) = Z at *
  generalize s * n / 1024 = X1 at *
  generalize (s + b) * n / 1024 = X2 at *
  generalize (s + a) * m / 1024 = X3 at *
  generalize (s + a + c) * m / 1024 = X4 at *
  have xa : 0 ≤ X1 ∧ X1 ≤ 1152921504606846976 := x1.2.2
  have xb : 0 ≤ X2 ∧ X2 ≤ 1152921504606846976 := x2.2.2
  have xc : 0 ≤ X3 ∧ X3 ≤ 1152921504606846976 := x3.2.2
  have xd : 0 ≤ X4 ∧ X4 ≤ 1152921504606846976 := x4.2.2
  have LP := Lib.hid lp
  clear lp mn x1 x2 x3 x4 r1 r2 nb1 nb2 hp0 hp1 b2
  go_enter Try.func6, Try.ntmps6
  go_wp2_with fail
  refine (awake_any _).mono ?_
  rintro e w' ⟨rfl, rfl⟩
  have HB0 := Lib.hid (below_two2 w (.cells #[.int .i64 q, .int .u8 p0, .int .u8 p1, .bool s0, .bool s1] 31) (.cells #[.int .i64 l0, .int .i64 t0, .int .i64 g0, .int .i64 h0, .int .i64 v0] 46))
  have T0 := (five_new w q p0 p1 s0 s1 31).below (below_new _ (.cells #[.int .i64 l0, .int .i64 t0, .int .i64 g0, .int .i64 h0, .int .i64 v0] 46))
  have I0 := fiveI_new (w.alloc (.cells #[.int .i64 q, .int .u8 p0, .int .u8 p1, .bool s0, .bool s1] 31)) l0 t0 g0 h0 v0 46 (N := w.heap.size + 1) (by simp)
  generalize (w.alloc (.cells #[.int .i64 q, .int .u8 p0, .int .u8 p1, .bool s0, .bool s1] 31)).alloc (.cells #[.int .i64 l0, .int .i64 t0, .int .i64 g0, .int .i64 h0, .int .i64 v0] 46) = w0 at *
  obtain ⟨a0, a1, a2, a3, a4, a5⟩ := id T0
  obtain ⟨i0, i1, i2, i3, i4, i5⟩ := id I0
  go_wp2_with fail
  refine (C1.out _).mono ?_
  rintro e w' ⟨rfl, rfl⟩
  go_wp2_with fail
  refine (C2.out _).mono ?_
  rintro e w' ⟨rfl, rfl⟩
  go_wp2_with fail
  refine (C3.out _).mono ?_
  rintro e w' ⟨rfl, rfl⟩
  go_wp2_with fail
  have Q4 := fun W n => Calls.quietC C4.out W n
  have Q5 := fun W n => Calls.quietC C5.out W n
  go_upto_region 7 with fail
  go_quiet ((first | with_reducible exact Q4 _ _ | with_reducible exact Q5 _ _))
  clear C1 C2 C3 C4 C5 Q4 Q5 i0 i1 i2 i3 i4 i5 I0
  have HB1 := Lib.hid (below_drewN HB0.out nq)
  have T1 := T0.below (below_drewN (Below.refl _ _) nq)
  clear T0 HB0 a0 a1 a2 a3 a4 a5
  generalize w0.drewN nq = w1 at *
  go_upto_region 8 with fail
  have hz2 : w.heap.size + 1 ≤ w1.drew.heap.size := T1.2.2.2.2.2
  have hS0 : SrS w.heap.size q p0 p1 s0 s1 w w1.drew := ⟨T1.below (Below.refl _ _).drew, HB1.out.trans ((Below.refl _ _).drew.mono HB1.out.size)⟩
  clear T1 HB1
  obtain ⟨A, hAe⟩ : ∃ A, A = w.heap.size := ⟨_, rfl⟩
  rw [← hAe] at hS0 hz2 ⊢
  have hAw : w.heap.size ≤ A := by omega
  clear hAe
  refine wp_region_held_drew (S := (fun w' => SrS A q p0 p1 s0 s1 w w')) (by kernel_rfl) hS0 (fun hHeld => ?_)
  generalize w1.drew = V0 at *
  refine wpAnyH_take (i := 0) (oi := { dst := some 51, op := _, type := _, pos := _, after := _, guard := _ }) (v := ?_) rfl (by kernel_rfl) (by kernel_rfl) (by kernel_rfl) (fun _ _ _ h => h) (Or.inl ⟨by rfl, ?_⟩) (by assumption) ?_
  rotate_left
  focus (intro w hSw; have hSw' := hSw.1; clear hSw; obtain ⟨c0, c1, c2, c3, c4, _⟩ := hSw'; first | (go_simp; done) | (go_simp; with_reducible rfl))
  (try simp only [Act.put, List.setIfInBounds_toArray, List.set_cons_zero, List.set_cons_succ])
  refine wpAnyH_take (i := 1) (oi := { dst := some 52, op := _, type := _, pos := _, after := _, guard := _ }) (v := ?_) rfl (by kernel_rfl) (by kernel_rfl) (by kernel_rfl) (fun _ _ _ h => h) (Or.inl ⟨by rfl, ?_⟩) (by assumption) ?_
  rotate_left
  focus (intro w hSw; have hSw' := hSw.1; clear hSw; obtain ⟨c0, c1, c2, c3, c4, _⟩ := hSw'; first | (go_simp; done) | (go_simp; with_reducible rfl))
  (try simp only [Act.put, List.setIfInBounds_toArray, List.set_cons_zero, List.set_cons_succ])
  refine wpAnyH_take (i := 2) (oi := { dst := some 53, op := _, type := _, pos := _, after := _, guard := _ }) (v := ?_) rfl (by kernel_rfl) (by kernel_rfl) (by kernel_rfl) (fun _ _ _ h => h) (Or.inl ⟨by rfl, ?_⟩) (by assumption) ?_
  rotate_left
  focus (intro w hSw; have hSw' := hSw.1; clear hSw; obtain ⟨c0, c1, c2, c3, c4, _⟩ := hSw'; first | (go_simp; done) | (go_simp; with_reducible rfl))
  (try simp only [Act.put, List.setIfInBounds_toArray, List.set_cons_zero, List.set_cons_succ])
  refine wpAnyH_take (i := 3) (oi := { dst := some 54, op := _, type := _, pos := _, after := _, guard := _ }) (v := ?_) rfl (by kernel_rfl) (by kernel_rfl) (by kernel_rfl) (fun _ _ _ h => h) (Or.inl ⟨by rfl, ?_⟩) (by assumption) ?_
  rotate_left
  focus (intro w hSw; have hSw' := hSw.1; clear hSw; obtain ⟨c0, c1, c2, c3, c4, _⟩ := hSw'; first | (go_simp; done) | (go_simp; with_reducible rfl))
  (try simp only [Act.put, List.setIfInBounds_toArray, List.set_cons_zero, List.set_cons_succ])
  refine wpAnyH_take (i := 4) (oi := { dst := some 55, op := _, type := _, pos := _, after := _, guard := _ }) (v := ?_) rfl (by kernel_rfl) (by kernel_rfl) (by kernel_rfl) (fun _ _ _ h => h) (Or.inl ⟨by rfl, ?_⟩) (by assumption) ?_
  rotate_left
  focus (intro w hSw; have hSw' := hSw.1; clear hSw; obtain ⟨c0, c1, c2, c3, c4, _⟩ := hSw'; first | (go_simp; done) | (go_simp; with_reducible rfl))
  (try simp only [Act.put, List.setIfInBounds_toArray, List.set_cons_zero, List.set_cons_succ])
  refine wpAnyH_take (i := 5) (oi := { dst := some 56, op := _, type := _, pos := _, after := _, guard := _ }) (v := ?_) rfl (by kernel_rfl) (by kernel_rfl) (by kernel_rfl) (fun _ _ _ h => h) (Or.inl ⟨by rfl, ?_⟩) (by assumption) ?_
  rotate_left
  focus (intro w hSw; have hSw' := hSw.1; clear hSw; obtain ⟨c0, c1, c2, c3, c4, _⟩ := hSw'; first | (go_simp; done) | (go_simp; with_reducible rfl))
  (try simp only [Act.put, List.setIfInBounds_toArray, List.set_cons_zero, List.set_cons_succ])
  refine wpAnyH_take (i := 6) (oi := { dst := some 57, op := _, type := _, pos := _, after := _, guard := _ }) (v := ?_) rfl (by kernel_rfl) (by kernel_rfl) (by kernel_rfl) (fun _ _ _ h => h) (Or.inl ⟨by rfl, ?_⟩) (by assumption) ?_
  rotate_left
  focus (intro w hSw; have hSw' := hSw.1; clear hSw; obtain ⟨c0, c1, c2, c3, c4, _⟩ := hSw'; first | (go_simp; done) | (go_simp; with_reducible rfl))
  (try simp only [Act.put, List.setIfInBounds_toArray, List.set_cons_zero, List.set_cons_succ])
  refine wpAnyH_take (i := 7) (oi := { dst := some 58, op := _, type := _, pos := _, after := _, guard := _ }) (v := ?_) rfl (by kernel_rfl) (by kernel_rfl) (by kernel_rfl) (fun _ _ _ h => h) (Or.inl ⟨by rfl, ?_⟩) (by assumption) ?_
  rotate_left
  focus (intro w hSw; have hSw' := hSw.1; clear hSw; obtain ⟨c0, c1, c2, c3, c4, _⟩ := hSw'; first | (go_simp; done) | (go_simp; with_reducible rfl))
  (try simp only [Act.put, List.setIfInBounds_toArray, List.set_cons_zero, List.set_cons_succ])
  refine wpAnyH_take (i := 10) (oi := { dst := some 61, op := _, type := _, pos := _, after := _, guard := _ }) (v := ?_) rfl (by kernel_rfl) (by kernel_rfl) (by kernel_rfl) (fun _ _ _ h => h) (Or.inl ⟨by rfl, ?_⟩) (by assumption) ?_
  rotate_left
  focus (intro w hSw; have hSw' := hSw.1; clear hSw; obtain ⟨c0, c1, c2, c3, c4, _⟩ := hSw'; first | (go_simp; done) | (go_simp; with_reducible rfl))
  (try simp only [Act.put, List.setIfInBounds_toArray, List.set_cons_zero, List.set_cons_succ])
  refine wpAnyH_take (i := 11) (oi := { dst := some 62, op := _, type := _, pos := _, after := _, guard := _ }) (v := ?_) rfl (by kernel_rfl) (by kernel_rfl) (by kernel_rfl) (fun _ _ _ h => h) (Or.inl ⟨by rfl, ?_⟩) (by assumption) ?_
  rotate_left
  focus (intro w hSw; have hSw' := hSw.1; clear hSw; obtain ⟨c0, c1, c2, c3, c4, _⟩ := hSw'; first | (go_simp; done) | (go_simp; with_reducible rfl))
  (try simp only [Act.put, List.setIfInBounds_toArray, List.set_cons_zero, List.set_cons_succ])
  refine wpAnyH_take (i := 12) (oi := { dst := some 63, op := _, type := _, pos := _, after := _, guard := _ }) (v := ?_) rfl (by kernel_rfl) (by kernel_rfl) (by kernel_rfl) (fun _ _ _ h => h) (Or.inl ⟨by rfl, ?_⟩) (by assumption) ?_
  rotate_left
  focus (intro w hSw; have hSw' := hSw.1; clear hSw; obtain ⟨c0, c1, c2, c3, c4, _⟩ := hSw'; first | (go_simp; done) | (go_simp; with_reducible rfl))
  (try simp only [Act.put, List.setIfInBounds_toArray, List.set_cons_zero, List.set_cons_succ])
  refine wpAnyH_take (i := 13) (oi := { dst := some 64, op := _, type := _, pos := _, after := _, guard := _ }) (v := ?_) rfl (by kernel_rfl) (by kernel_rfl) (by kernel_rfl) (fun _ _ _ h => h) (Or.inl ⟨by rfl, ?_⟩) (by assumption) ?_
  rotate_left
  focus (intro w hSw; have hSw' := hSw.1; clear hSw; obtain ⟨c0, c1, c2, c3, c4, _⟩ := hSw'; first | (go_simp; done) | (go_simp; with_reducible rfl))
  (try simp only [Act.put, List.setIfInBounds_toArray, List.set_cons_zero, List.set_cons_succ])
  refine wpAnyH_take (i := 14) (oi := { dst := some 65, op := _, type := _, pos := _, after := _, guard := _ }) (v := ?_) rfl (by kernel_rfl) (by kernel_rfl) (by kernel_rfl) (fun _ _ _ h => h) (Or.inl ⟨by rfl, ?_⟩) (by assumption) ?_
  rotate_left
  focus (intro w hSw; have hSw' := hSw.1; clear hSw; obtain ⟨c0, c1, c2, c3, c4, _⟩ := hSw'; first | (go_simp; done) | (go_simp; with_reducible rfl))
  (try simp only [Act.put, List.setIfInBounds_toArray, List.set_cons_zero, List.set_cons_succ])
  refine wpAnyH_take (i := 15) (oi := { dst := some 66, op := _, type := _, pos := _, after := _, guard := _ }) (v := ?_) rfl (by kernel_rfl) (by kernel_rfl) (by kernel_rfl) (fun _ _ _ h => h) (Or.inl ⟨by rfl, ?_⟩) (by assumption) ?_
  rotate_left
  focus (intro w hSw; have hSw' := hSw.1; clear hSw; obtain ⟨c0, c1, c2, c3, c4, _⟩ := hSw'; first | (go_simp; done) | (go_simp; with_reducible rfl))
  (try simp only [Act.put, List.setIfInBounds_toArray, List.set_cons_zero, List.set_cons_succ])
  refine wpAnyH_take (i := 16) (oi := { dst := some 67, op := _, type := _, pos := _, after := _, guard := _ }) (v := ?_) rfl (by kernel_rfl) (by kernel_rfl) (by kernel_rfl) (fun _ _ _ h => h) (Or.inl ⟨by rfl, ?_⟩) (by assumption) ?_
  rotate_left
  focus (intro w hSw; have hSw' := hSw.1; clear hSw; obtain ⟨c0, c1, c2, c3, c4, _⟩ := hSw'; first | (go_simp; done) | (go_simp; with_reducible rfl))
  (try simp only [Act.put, List.setIfInBounds_toArray, List.set_cons_zero, List.set_cons_succ])
  refine wpAnyH_take (i := 17) (oi := { dst := some 68, op := _, type := _, pos := _, after := _, guard := _ }) (v := ?_) rfl (by kernel_rfl) (by kernel_rfl) (by kernel_rfl) (fun _ _ _ h => h) (Or.inl ⟨by rfl, ?_⟩) (by assumption) ?_
  rotate_left
  focus (intro w hSw; have hSw' := hSw.1; clear hSw; obtain ⟨c0, c1, c2, c3, c4, _⟩ := hSw'; first | (go_simp; done) | (go_simp; with_reducible rfl))
  (try simp only [Act.put, List.setIfInBounds_toArray, List.set_cons_zero, List.set_cons_succ])
  clear hHeld
  refine gen_startC (fun ops Q Tm hops hQ hT => ?_)
  have fin : ∀ (N1 N2 : Nat) (V : World), Tri N1 V 3 n 1024 → Tri N2 V 70 m 1024 → SrS A q p0 p1 s0 s1 w V → Q .normal ⟨((((((Tm.setIfInBounds 59 (ckV 3 n 1024)).setIfInBounds 60 (ckV 3 n 1024)).setIfInBounds 69 (ckV 70 m 1024)).setIfInBounds 70 (ckV 70 m 1024)).setIfInBounds 11 (.pointer (some ⟨N1, 0, none⟩))).setIfInBounds 12 (.pointer (some ⟨N2, 0, none⟩))), []⟩ V := by
    intro M1 M2 V g1 g2 hS
    subst hQ
    subst hT
    clear hops
    (try simp only [Act.put, List.setIfInBounds_toArray, List.set_cons_zero, List.set_cons_succ])
    (try simp only [Exit.inBlock, Exit.then])
    have G1 := Lib.hid g1
    have G2 := Lib.hid g2
    have HS := Lib.hid hS
    obtain ⟨d0, d1, d2, -, -⟩ := g1
    clear g2 hS hS0 hz2 hAw
    go_wp2_with fail
    refine (R1.out _).mono ?_
    rintro e w4 ⟨rfl, hB⟩
    replace G1 := Lib.hid (G1.out.below hB)
    replace G2 := Lib.hid (G2.out.below hB)
    replace HS := Lib.hid (HS.out.below hB)
    clear hB d0 d1 d2
    obtain ⟨d0, d1, d2, -, -⟩ := G1.out
    go_wp2_with fail
    refine (R2.out _).mono ?_
    rintro e w5 ⟨rfl, hB⟩
    replace G1 := Lib.hid (G1.out.below hB)
    replace G2 := Lib.hid (G2.out.below hB)
    replace HS := Lib.hid (HS.out.below hB)
    clear hB d0 d1 d2
    obtain ⟨d0, d1, d2, -, -⟩ := G2.out
    go_wp2_with fail
    refine (R3.out _).mono ?_
    rintro e w6 ⟨rfl, hB⟩
    replace G1 := Lib.hid (G1.out.below hB)
    replace G2 := Lib.hid (G2.out.below hB)
    replace HS := Lib.hid (HS.out.below hB)
    clear hB d0 d1 d2
    obtain ⟨d0, d1, d2, -, -⟩ := G2.out
    go_wp2_with fail
    refine (R4.out _).mono ?_
    rintro e w7 ⟨rfl, hB⟩
    replace G1 := Lib.hid (G1.out.below hB)
    replace G2 := Lib.hid (G2.out.below hB)
    replace HS := Lib.hid (HS.out.below hB)
    clear hB d0 d1 d2
    obtain ⟨e0, e1, e2, e3, e4, e5⟩ := HS.out.f
    go_wp2_with fail
    by_cases hc : 3 + X2 - (3 + X1) < H
    · by_cases hd : Z ≤ 70 + X4 - (70 + X3)
      · have hlt := LP.out (by omega) (by omega)
        refine (O1.out _).mono ?_
        rintro e w' ⟨rfl, rfl⟩
        go_wp2_with fail
        refine (W1.out _).mono ?_
        rintro e w' ⟨rfl, rfl⟩
        go_wp2_with fail
        go_ret
        exact ⟨by first | rfl | exact ret_bool (decide_eq_true (by omega)), HS.out.l⟩
      · refine (O1.out _).mono ?_
        rintro e w' ⟨rfl, rfl⟩
        go_wp2_with fail
        refine (W1.out _).mono ?_
        rintro e w' ⟨rfl, rfl⟩
        go_wp2_with fail
        go_ret
        exact ⟨rfl, HS.out.l⟩
    · refine (O1.out _).mono ?_
      rintro e w' ⟨rfl, rfl⟩
      go_wp2_with fail
      go_ret
      exact ⟨rfl, HS.out.l⟩
  clear R1 R2 R3 R4 O1 W1 LP
  have hrd : ∀ (b1 b2 b3 b4 a1 a2 : Bool) (n : Nat), n + 1 = cntC b1 b2 b3 b4 a1 a2 → (b2 = true → b1 = true) → (b3 = true → b2 = true) → (b4 = true → b3 = true) → Region.ready .any ops #[true, true, true, true, true, true, true, true, b1, b2, true, true, true, true, true, true, true, true, b3, b4, a1, a2, false, false] = rdyC b1 b2 b3 b4 a1 a2 := by
    subst hops
    intro b1 b2 b3 b4 a1 a2 n hn h2 h3 h4
    cases b1 <;> cases b2 <;> cases b3 <;> cases b4 <;> cases a1 <;> cases a2 <;> first | (exfalso; exact absurd (h2 rfl) (by decide)) | (exfalso; exact absurd (h3 rfl) (by decide)) | (exfalso; exact absurd (h4 rfl) (by decide)) | (exfalso; revert hn; simp [cntC]; done) | kernel_rfl
  have key : ∀ (k : Nat) (b1 b2 b3 b4 a1 a2 : Bool) (s59 s60 s69 s70 s11 s12 : Value) (N1 N2 : Nat) (V : World), k = cntC b1 b2 b3 b4 a1 a2 → (b2 = true → b1 = true) → (b3 = true → b2 = true) → (b4 = true → b3 = true) →
      (b1 = true → s59 = ckV 3 n 1024) → (b2 = true → s60 = ckV 3 n 1024) → (b3 = true → s69 = ckV 70 m 1024) → (b4 = true → s70 = ckV 70 m 1024) → BlkC a1 s11 N1 (A + 1) V → BlkC a2 s12 N2 (A + 1) V →
      (a1 = true → a2 = true → N1 ≠ N2) → A + 1 ≤ V.heap.size → SrS A q p0 p1 s0 s1 w V →
      wpAnyH Try.prog .any ops Q (fun w' => SrS A q p0 p1 s0 s1 w w') (k + 2) #[true, true, true, true, true, true, true, true, b1, b2, true, true, true, true, true, true, true, true, b3, b4, a1, a2, false, false] ⟨((((((Tm.setIfInBounds 59 s59).setIfInBounds 60 s60).setIfInBounds 69 s69).setIfInBounds 70 s70).setIfInBounds 11 s11).setIfInBounds 12 s12), []⟩ V := by
    intro k
    induction k with
    | zero =>
      intro b1 b2 b3 b4 a1 a2 s59 s60 s69 s70 s11 s12 N1 N2 V hn h2 h3 h4 g1 g2 g3 g4 k1 k2 n12 hz hS
      obtain ⟨rfl, rfl, rfl, rfl, rfl, rfl⟩ := cntC_zero hn
      obtain ⟨rfl, t1, l1⟩ := k1 rfl
      obtain ⟨rfl, t2, l2⟩ := k2 rfl
      obtain rfl := g1 rfl
      obtain rfl := g2 rfl
      obtain rfl := g3 rfl
      obtain rfl := g4 rfl
      have m12 := n12 rfl rfl
      have B1 := Lib.hid t1
      have B2 := Lib.hid t2
      have FI := Lib.hid (fin N1 N2)
      clear fin hn h2 h3 h4 g1 g2 g3 g4 n12 hrd t1 t2 hS0 hz2
      subst hops
      subst hT
      clear hQ
      (try simp only [Act.put, List.setIfInBounds_toArray, List.set_cons_zero, List.set_cons_succ])
      obtain ⟨c0, c1, c2, fr, lt⟩ := B1.out
      have f0 := fr 0
      have f1 := fr 1
      have f2 := fr 2
      clear fr
      refine wpAnyH_ready (rs := [22]) (by kernel_rfl) (by simp) ?_
      refine AllReadyH.cons (o := { dst := none, op := _, type := _, pos := _, after := _, guard := _ }) rfl (fun K hK => ?_) AllReadyH.nil
      go_simp
      have hT22 := hS.set (N := N1) (x := 3) (y := n) (z := 1024) hAw l1
      have hD22 := B1.out.set 3 n 1024
      have hO22 := B2.out.other (M := N1) (by omega) (.int .i64 3) (.int .i64 n) (.int .i64 1024)
      refine hK.out _ _ hT22 (fun hS1 => ?_)
      clear hK K c0 c1 c2 f0 f1 f2 lt
      (try simp only [Act.put, List.setIfInBounds_toArray, List.set_cons_zero, List.set_cons_succ])
      generalize (((V.setCell ⟨N1, 0, none⟩ (.int .i64 3)).setCell ⟨N1, 1, none⟩ (.int .i64 n)).setCell ⟨N1, 2, none⟩ (.int .i64 1024)) = V1 at *
      replace B1 := Lib.hid hD22
      replace B2 := Lib.hid hO22
      clear hD22 hT22 hO22
      obtain ⟨c0, c1, c2, fr, lt⟩ := B2.out
      have f0 := fr 0
      have f1 := fr 1
      have f2 := fr 2
      clear fr
      refine wpAnyH_ready (rs := [23]) (by kernel_rfl) (by simp) ?_
      refine AllReadyH.cons (o := { dst := none, op := _, type := _, pos := _, after := _, guard := _ }) rfl (fun K hK => ?_) AllReadyH.nil
      go_simp
      have hT23 := hS1.set (N := N2) (x := 70) (y := m) (z := 1024) hAw l2
      have hD23 := B2.out.set 70 m 1024
      have hO23 := B1.out.other (M := N2) (by omega) (.int .i64 70) (.int .i64 m) (.int .i64 1024)
      refine hK.out _ _ hT23 (fun hS2 => ?_)
      clear hK K c0 c1 c2 f0 f1 f2 lt
      (try simp only [Act.put, List.setIfInBounds_toArray, List.set_cons_zero, List.set_cons_succ])
      generalize (((V1.setCell ⟨N2, 0, none⟩ (.int .i64 70)).setCell ⟨N2, 1, none⟩ (.int .i64 m)).setCell ⟨N2, 2, none⟩ (.int .i64 1024)) = V2 at *
      replace B2 := Lib.hid hD23
      replace B1 := Lib.hid hO23
      clear hD23 hT23 hO23
      refine wpAnyH_done (by kernel_rfl) ?_ _
      have this := FI.out V2 B1.out B2.out hS2
      (try simp only [Act.put, List.setIfInBounds_toArray, List.set_cons_zero, List.set_cons_succ] at this)
      exact this
    | succ k ih =>
      intro b1 b2 b3 b4 a1 a2 s59 s60 s69 s70 s11 s12 N1 N2 V hn h2 h3 h4 g1 g2 g3 g4 k1 k2 n12 hz hS
      refine wpAnyH_all (hrd b1 b2 b3 b4 a1 a2 k hn h2 h3 h4) (rdyC_ne hn h2 h3 h4) (fun i hi => ?_)
      clear fin hrd hS0 hz2
      have hi' := mem_rdyC hi
      clear hi
      rcases hi' with ⟨rfl, rfl⟩ | ⟨rfl, rfl, rfl⟩ | ⟨rfl, rfl, rfl⟩ | ⟨rfl, rfl, rfl⟩ | ⟨rfl, rfl⟩ | ⟨rfl, rfl⟩
      · skip
        have IH := Lib.hid ih
        clear ih
        subst hops
        subst hT
        clear hQ
        refine AllReadyH.cons (i := 8) (o := { dst := some 59, op := _, type := _, pos := _, after := _, guard := _ }) (rs := []) rfl (fun K hK => ?_) AllReadyH.nil 8 (List.mem_singleton.2 rfl)
        · (try simp only [List.setIfInBounds_toArray])
          (try simp only [Act.put, List.setIfInBounds_toArray, List.set_cons_zero, List.set_cons_succ])
          go_simp
          refine (NR1.out _).mono ?_
          rintro en V1 ⟨rfl, hBc⟩
          refine hK.out _ _ (hS.below hBc) (fun hS1 => ?_)
          have this := IH.out true b2 b3 b4 a1 a2 (ckV 3 n 1024) s60 s69 s70 s11 s12 N1 N2 V1 (by unfold cntC at hn ⊢; simp only [Bool.not_true, Bool.not_false, Bool.toNat_true, Bool.toNat_false] at hn ⊢; omega) (fun _ => rfl) h3 h4 (fun _ => rfl) g2 g3 g4 (k1.below hBc) (k2.below hBc) n12 (Nat.le_trans hz hBc.size) hS1
          (try simp only [Act.put, List.setIfInBounds_toArray, List.set_cons_zero, List.set_cons_succ])
          (try simp only [Act.put, List.setIfInBounds_toArray, List.set_cons_zero, List.set_cons_succ] at this)
          exact this
      · obtain rfl := g1 rfl
        have IH := Lib.hid ih
        clear ih
        subst hops
        subst hT
        clear hQ
        refine AllReadyH.cons (i := 9) (o := { dst := some 60, op := _, type := _, pos := _, after := _, guard := _ }) (rs := []) rfl (fun K hK => ?_) AllReadyH.nil 9 (List.mem_singleton.2 rfl)
        · (try simp only [List.setIfInBounds_toArray])
          (try simp only [Act.put, List.setIfInBounds_toArray, List.set_cons_zero, List.set_cons_succ])
          go_simp
          refine (K1.out _).mono ?_
          rintro en V1 ⟨rfl, hBc⟩
          refine hK.out _ _ (hS.below hBc) (fun hS1 => ?_)
          have this := IH.out true true b3 b4 a1 a2 (ckV 3 n 1024) (ckV 3 n 1024) s69 s70 s11 s12 N1 N2 V1 (by unfold cntC at hn ⊢; simp only [Bool.not_true, Bool.not_false, Bool.toNat_true, Bool.toNat_false] at hn ⊢; omega) (fun _ => rfl) (fun _ => rfl) h4 (fun _ => rfl) (fun _ => rfl) g3 g4 (k1.below hBc) (k2.below hBc) n12 (Nat.le_trans hz hBc.size) hS1
          (try simp only [Act.put, List.setIfInBounds_toArray, List.set_cons_zero, List.set_cons_succ])
          (try simp only [Act.put, List.setIfInBounds_toArray, List.set_cons_zero, List.set_cons_succ] at this)
          exact this
      · obtain rfl := h2 rfl
        obtain rfl := g1 rfl
        obtain rfl := g2 rfl
        have IH := Lib.hid ih
        clear ih
        subst hops
        subst hT
        clear hQ
        refine AllReadyH.cons (i := 18) (o := { dst := some 69, op := _, type := _, pos := _, after := _, guard := _ }) (rs := []) rfl (fun K hK => ?_) AllReadyH.nil 18 (List.mem_singleton.2 rfl)
        · (try simp only [List.setIfInBounds_toArray])
          (try simp only [Act.put, List.setIfInBounds_toArray, List.set_cons_zero, List.set_cons_succ])
          go_simp
          refine (NR2.out _).mono ?_
          rintro en V1 ⟨rfl, hBc⟩
          refine hK.out _ _ (hS.below hBc) (fun hS1 => ?_)
          have this := IH.out true true true b4 a1 a2 (ckV 3 n 1024) (ckV 3 n 1024) (ckV 70 m 1024) s70 s11 s12 N1 N2 V1 (by unfold cntC at hn ⊢; simp only [Bool.not_true, Bool.not_false, Bool.toNat_true, Bool.toNat_false] at hn ⊢; omega) (fun _ => rfl) (fun _ => rfl) (fun _ => rfl) (fun _ => rfl) (fun _ => rfl) (fun _ => rfl) g4 (k1.below hBc) (k2.below hBc) n12 (Nat.le_trans hz hBc.size) hS1
          (try simp only [Act.put, List.setIfInBounds_toArray, List.set_cons_zero, List.set_cons_succ])
          (try simp only [Act.put, List.setIfInBounds_toArray, List.set_cons_zero, List.set_cons_succ] at this)
          exact this
      · obtain rfl := h3 rfl
        obtain rfl := h2 rfl
        obtain rfl := g1 rfl
        obtain rfl := g2 rfl
        obtain rfl := g3 rfl
        have IH := Lib.hid ih
        clear ih
        subst hops
        subst hT
        clear hQ
        refine AllReadyH.cons (i := 19) (o := { dst := some 70, op := _, type := _, pos := _, after := _, guard := _ }) (rs := []) rfl (fun K hK => ?_) AllReadyH.nil 19 (List.mem_singleton.2 rfl)
        · (try simp only [List.setIfInBounds_toArray])
          (try simp only [Act.put, List.setIfInBounds_toArray, List.set_cons_zero, List.set_cons_succ])
          go_simp
          refine (K2.out _).mono ?_
          rintro en V1 ⟨rfl, hBc⟩
          refine hK.out _ _ (hS.below hBc) (fun hS1 => ?_)
          have this := IH.out true true true true a1 a2 (ckV 3 n 1024) (ckV 3 n 1024) (ckV 70 m 1024) (ckV 70 m 1024) s11 s12 N1 N2 V1 (by unfold cntC at hn ⊢; simp only [Bool.not_true, Bool.not_false, Bool.toNat_true, Bool.toNat_false] at hn ⊢; omega) (fun _ => rfl) (fun _ => rfl) (fun _ => rfl) (fun _ => rfl) (fun _ => rfl) (fun _ => rfl) (fun _ => rfl) (k1.below hBc) (k2.below hBc) n12 (Nat.le_trans hz hBc.size) hS1
          (try simp only [Act.put, List.setIfInBounds_toArray, List.set_cons_zero, List.set_cons_succ])
          (try simp only [Act.put, List.setIfInBounds_toArray, List.set_cons_zero, List.set_cons_succ] at this)
          exact this
      · skip
        have IH := Lib.hid ih
        clear ih
        subst hops
        subst hT
        clear hQ
        refine AllReadyH.cons (i := 20) (o := { dst := some 11, op := _, type := _, pos := _, after := _, guard := _ }) (rs := []) rfl (fun K hK => ?_) AllReadyH.nil 20 (List.mem_singleton.2 rfl)
        · (try simp only [List.setIfInBounds_toArray])
          (try simp only [Act.put, List.setIfInBounds_toArray, List.set_cons_zero, List.set_cons_succ])
          go_simp
          have hBc := below_new V (.cells #[.int .i64 0, .int .i64 0, .int .i64 0] 33)
          have hsz : (V.alloc (.cells #[.int .i64 0, .int .i64 0, .int .i64 0] 33)).heap.size = V.heap.size + 1 := by simp
          refine hK.out _ _ (hS.below hBc) (fun hS1 => ?_)
          have this := IH.out b1 b2 b3 b4 true a2 s59 s60 s69 s70 (.pointer (some ⟨V.heap.size, 0, none⟩)) s12 V.heap.size N2 (V.alloc (.cells #[.int .i64 0, .int .i64 0, .int .i64 0] 33)) (by unfold cntC at hn ⊢; simp only [Bool.not_true, Bool.not_false, Bool.toNat_true, Bool.toNat_false] at hn ⊢; omega) h2 h3 h4 g1 g2 g3 g4 (blkC_new (A + 1) V 33 hz) (k2.below hBc) (fun _ e => by have := k2.lt e; omega) (Nat.le_trans hz hBc.size) hS1
          (try simp only [Act.put, List.setIfInBounds_toArray, List.set_cons_zero, List.set_cons_succ])
          (try simp only [Act.put, List.setIfInBounds_toArray, List.set_cons_zero, List.set_cons_succ] at this)
          exact this
      · skip
        have IH := Lib.hid ih
        clear ih
        subst hops
        subst hT
        clear hQ
        refine AllReadyH.cons (i := 21) (o := { dst := some 12, op := _, type := _, pos := _, after := _, guard := _ }) (rs := []) rfl (fun K hK => ?_) AllReadyH.nil 21 (List.mem_singleton.2 rfl)
        · (try simp only [List.setIfInBounds_toArray])
          (try simp only [Act.put, List.setIfInBounds_toArray, List.set_cons_zero, List.set_cons_succ])
          go_simp
          have hBc := below_new V (.cells #[.int .i64 0, .int .i64 0, .int .i64 0] 33)
          have hsz : (V.alloc (.cells #[.int .i64 0, .int .i64 0, .int .i64 0] 33)).heap.size = V.heap.size + 1 := by simp
          refine hK.out _ _ (hS.below hBc) (fun hS1 => ?_)
          have this := IH.out b1 b2 b3 b4 a1 true s59 s60 s69 s70 s11 (.pointer (some ⟨V.heap.size, 0, none⟩)) N1 V.heap.size (V.alloc (.cells #[.int .i64 0, .int .i64 0, .int .i64 0] 33)) (by unfold cntC at hn ⊢; simp only [Bool.not_true, Bool.not_false, Bool.toNat_true, Bool.toNat_false] at hn ⊢; omega) h2 h3 h4 g1 g2 g3 g4 (k1.below hBc) (blkC_new (A + 1) V 33 hz) (fun e _ => by have := k1.lt e; omega) (Nat.le_trans hz hBc.size) hS1
          (try simp only [Act.put, List.setIfInBounds_toArray, List.set_cons_zero, List.set_cons_succ])
          (try simp only [Act.put, List.setIfInBounds_toArray, List.set_cons_zero, List.set_cons_succ] at this)
          exact this
  have start := key 6 false false false false false false (Tm.getD 59 undef) (Tm.getD 60 undef) (Tm.getD 69 undef) (Tm.getD 70 undef) (Tm.getD 11 undef) (Tm.getD 12 undef) 0 0 V0 rfl (fun h => by cases h) (fun h => by cases h) (fun h => by cases h) (fun h => by cases h) (fun h => by cases h) (fun h => by cases h) (fun h => by cases h) (fun h => by cases h) (fun h => by cases h) (fun h => by cases h) hz2 hS0
  have hTT : ((((((Tm.setIfInBounds 59 (Tm.getD 59 undef)).setIfInBounds 60 (Tm.getD 60 undef)).setIfInBounds 69 (Tm.getD 69 undef)).setIfInBounds 70 (Tm.getD 70 undef)).setIfInBounds 11 (Tm.getD 11 undef)).setIfInBounds 12 (Tm.getD 12 undef)) = Tm := by subst hT; rfl
  rw [hTT] at start
  exact start
end Go.Proofs.Ytnbjkgkkefjaoaa.clleases
