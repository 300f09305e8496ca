/- ClockContains: for every input the statement's function returns true: the walk. -/
import Derived.Test.YtnbjkgkkefjaoaaCLaw2
namespace Go.Proofs.Ytnbjkgkkefjaoaa
open Go.RowKit

/-- The rates of a statement: a bound for the drift, two parts of 255, two signs. -/
abbrev rtV (q p0 p1 : Int) (s0 s1 : Bool) : Value := .agg #[.int .i64 q, .int .u8 p0, .int .u8 p1, .bool s0, .bool s1]
def Five (N : Nat) (w : World) (q p0 p1 : Int) (s0 s1 : Bool) : Prop :=
  w.cell? ⟨N, 0, none⟩ = some (.int .i64 q) ∧ w.cell? ⟨N, 1, none⟩ = some (.int .u8 p0) ∧ w.cell? ⟨N, 2, none⟩ = some (.int .u8 p1) ∧ w.cell? ⟨N, 3, none⟩ = some (.bool s0) ∧ w.cell? ⟨N, 4, none⟩ = some (.bool s1) ∧ N < w.heap.size
theorem Five.below {N : Nat} {w w' : World} {q p0 p1 : Int} {s0 s1 : Bool} (h : Five N w q p0 p1 s0 s1) (hb : Below w.heap.size w w') : Five N w' q p0 p1 s0 s1 := by
  obtain ⟨h1, h2, h3, h4, h5, h6⟩ := h
  exact ⟨(hb.cell (p := ⟨N, 0, none⟩) h6).trans h1, (hb.cell (p := ⟨N, 1, none⟩) h6).trans h2, (hb.cell (p := ⟨N, 2, none⟩) h6).trans h3, (hb.cell (p := ⟨N, 3, none⟩) h6).trans h4, (hb.cell (p := ⟨N, 4, none⟩) h6).trans h5, Nat.lt_of_lt_of_le h6 hb.size⟩
theorem five_new (w : World) (q p0 p1 : Int) (s0 s1 : Bool) (T : TypeId) : Five w.heap.size (w.alloc (.cells #[.int .i64 q, .int .u8 p0, .int .u8 p1, .bool s0, .bool s1] T)) q p0 p1 s0 s1 := by
  refine ⟨?_, ?_, ?_, ?_, ?_, by simp⟩
  all_goals (rw [World.cell?_alloc_at _ _ _ _ rfl]; rfl)
theorem near_within (q part : Int) (slow : Bool) (q0 : 0 ≤ part) (q1 : part ≤ 255) :
    rateB (nearN (pm q) part slow) 1024 = true ∧ withinB (nearN (pm q) part slow) 1024 (pm q) = true := by
  have b := pm_bd q
  have nb := near_bd (pm q) part slow b.1 b.2 q0 q1
  have r : rateB (nearN (pm q) part slow) 1024 = true := by
    unfold rateB
    rw [decide_eq_true (by omega), decide_eq_true (by omega)]; rfl
  refine ⟨r, ?_⟩
  unfold withinB
  rw [r, decide_eq_true (by omega)]; rfl
theorem read_yes {o n t : Int} (ho : 0 ≤ o ∧ o ≤ 1099511627776) (hr : rateB n 1024 = true) (ht : 0 ≤ t ∧ t ≤ 1099511627776) (w : World) :
    Calls Try.prog 22 #[ckV o n 1024, .int .i64 t] w fun e w' => e = .returned (.tuple #[.int .i64 (o + t * n / 1024), .nilIface]) ∧ Below w.heap.size w w' := by
  have := read_any o n 1024 t w
  rw [readV_yes (by unfold okB; rw [decide_eq_true ho, hr, decide_eq_true ht]; rfl)] at this
  exact this
namespace clcontains
set_option maxHeartbeats 8000000 in
theorem walk (q p0 p1 t k : Int) (s0 s1 : Bool) (h0 : 0 ≤ p0 ∧ p0 ≤ 255) (w : World) :
    Calls Try.prog 4 #[rtV q p0 p1 s0 s1, .int .i64 t, .int .i64 k] w fun e w' => e = .returned (.bool true) ∧ Below w.heap.size w w' := by
  have C1 := Lib.hid (fun W => clip_any t 0 549755813888 W)
  have C2 := Lib.hid (fun W => clip_any k 0 274877906944 W)
  obtain ⟨f, hf⟩ : ∃ f, max (0 : Int) (min t 549755813888) = f := ⟨_, rfl⟩
  obtain ⟨m, hm⟩ : ∃ m, max (0 : Int) (min k 274877906944) = m := ⟨_, rfl⟩
  have bf : 0 ≤ f ∧ f ≤ 549755813888 := by omega
  have bm : 0 ≤ m ∧ m ≤ 274877906944 := by omega
  rw [hf] at C1
  rw [hm] at C2
  have b2 := pm_bd q
  have N1 := Lib.hid (fun W => near_any (t.tmod 1000) q p0 s0 h0.1 h0.2 W)
  have nb := near_bd (pm q) p0 s0 b2.1 b2.2 h0.1 h0.2
  obtain ⟨r1, r2⟩ := near_within q p0 s0 h0.1 h0.2
  obtain ⟨n, hn⟩ : ∃ n, nearN (pm q) p0 s0 = n := ⟨_, rfl⟩
  rw [hn] at N1 nb r1 r2
  have bo := tk_bd (t.tmod 1000)
  obtain ⟨o, ho⟩ : ∃ o, tk (t.tmod 1000) = o := ⟨_, rfl⟩
  rw [ho] at N1 bo
  have K1 := Lib.hid (fun W => clock_any o n 1024 W)
  have R1 := Lib.hid (fun W => read_yes (o := o) (n := n) (t := f) bo r1 (by omega) W)
  have R2 := Lib.hid (fun W => read_yes (o := o) (n := n) (t := f + m) bo r1 (by omega) W)
  have W1 := Lib.hid (fun W => within_any o n 1024 q W)
  rw [r2] at W1
  have x1 := tn_bd f n 1024 (by omega) (by omega) (by omega)
  have x2 := tn_bd (f + m) n 1024 (by omega) (by omega) (by omega)
  have mn := mono_r (show f ≤ f + m by omega) (show 0 ≤ n by omega)
  have mm := mono_l (show n ≤ 1126 by omega) (show 0 ≤ m by omega)
  have dd : (f + m) * n / 1024 - f * n / 1024 ≤ 1099511627776 ∧ 0 ≤ (f + m) * n / 1024 - f * n / 1024 := by
    rw [Int.add_mul] at mn ⊢
    omega
  have cp := contains_pure f (f + m) n ((f + m) * n / 1024 - f * n / 1024) (pm q) (by omega) dd.2 b2.1 b2.2 rfl nb.1 nb.2.1
  obtain ⟨A, hA⟩ : ∃ A, f * n / 1024 = A := ⟨_, rfl⟩
  obtain ⟨B, hB⟩ : ∃ B, (f + m) * n / 1024 = B := ⟨_, rfl⟩
  rw [hA] at R1 dd cp x1
  rw [hB] at R2 dd cp x2
  have E1 := Lib.hid (fun W => elapsed_any (o + B - (o + A)) q W)
  rw [show tk (o + B - (o + A)) = B - A by rw [tk_id (by omega)]; omega] at E1
  obtain ⟨L, hL⟩ : ∃ L, loE (B - A) (pm q) = L := ⟨_, rfl⟩
  obtain ⟨U, hU⟩ : ∃ U, hiE (B - A) (pm q) = U := ⟨_, rfl⟩
  rw [hL, hU] at cp E1
  have c1 : L ≤ m := by omega
  have c2 : m ≤ U := by omega
  have xa : 0 ≤ A ∧ A ≤ 1152921504606846976 := x1.2.2
  have xb : 0 ≤ B ∧ B ≤ 1152921504606846976 := x2.2.2
  have z0 : 0 ≤ w.heap.size := Nat.zero_le _
  clear hf hm hn ho r1 r2 nb x1 x2 mn mm cp hA hB hL hU
  go_enter Try.func4, Try.ntmps4
  go_wp2_with fail
  refine (awake_any _).mono ?_
  rintro e w' ⟨rfl, rfl⟩
  have HB0 := Lib.hid (below_new w (.cells #[.int .i64 q, .int .u8 p0, .int .u8 p1, .bool s0, .bool s1] 31))
  have T0 := five_new w q p0 p1 s0 s1 31
  generalize w.alloc (.cells #[.int .i64 q, .int .u8 p0, .int .u8 p1, .bool s0, .bool s1] 31) = w0 at *
  obtain ⟨a0, a1, a2, a3, a4, a5⟩ := id T0
  go_wp2_with fail
  refine (N1.out _).mono ?_
  rintro e w1 ⟨rfl, hB⟩
  have T1 := T0.below hB
  have HB1 := Lib.hid (HB0.out.trans (hB.mono HB0.out.size))
  clear hB T0 a0 a1 a2 a3 a4 a5
  go_wp2_with fail
  refine (K1.out _).mono ?_
  rintro e w2 ⟨rfl, hB⟩
  have T2 := T1.below hB
  have HB2 := Lib.hid (HB1.out.trans (hB.mono HB1.out.size))
  clear hB T1
  go_wp2_with fail
  have HB3 := Lib.hid (HB2.out.alloc HB2.out.size (.cells #[.int .i64 o, .int .i64 n, .int .i64 1024] 33))
  have T3 := T2.below (below_new w2 (.cells #[.int .i64 o, .int .i64 n, .int .i64 1024] 33))
  have D3 := threeI_new w2 o n 1024 33
  generalize w2.alloc (.cells #[.int .i64 o, .int .i64 n, .int .i64 1024] 33) = w3 at *
  generalize w2.heap.size = M at *
  clear T2 HB2
  refine (C1.out _).mono ?_
  rintro e w' ⟨rfl, rfl⟩
  go_wp2_with fail
  refine (C2.out _).mono ?_
  rintro e w' ⟨rfl, rfl⟩
  obtain ⟨d0, d1, d2, d3⟩ := id D3
  go_wp2_with fail
  refine (R1.out _).mono ?_
  rintro e w4 ⟨rfl, hB⟩
  have T4 := T3.below hB
  have D4 := D3.below hB
  have HB4 := Lib.hid (HB3.out.trans (hB.mono HB3.out.size))
  clear hB T3 D3 d0 d1 d2 d3
  obtain ⟨d0, d1, d2, d3⟩ := id D4
  go_wp2_with fail
  refine (R2.out _).mono ?_
  rintro e w5 ⟨rfl, hB⟩
  have T5 := T4.below hB
  have D5 := D4.below hB
  have HB5 := Lib.hid (HB4.out.trans (hB.mono HB4.out.size))
  clear hB T4 D4 d0 d1 d2 d3
  obtain ⟨d0, d1, d2, d3⟩ := id D5
  obtain ⟨a0, a1, a2, a3, a4, a5⟩ := id T5
  go_wp2_with fail
  refine (W1.out _).mono ?_
  rintro e w6 ⟨rfl, hB⟩
  have T6 := T5.below hB
  have HB6 := Lib.hid (HB5.out.trans (hB.mono HB5.out.size))
  clear hB T5 D5 d0 d1 d2 d3 a0 a1 a2 a3 a4 a5
  obtain ⟨a0, a1, a2, a3, a4, a5⟩ := id T6
  go_wp2_with fail
  refine (E1.out _).mono ?_
  rintro e w' ⟨rfl, rfl⟩
  go_wp2_with fail
  go_ret
  exact ⟨ret_bool (decide_eq_true (by omega)), HB6.out⟩
end clcontains
end Go.Proofs.Ytnbjkgkkefjaoaa
