import Derived.Test.YtieolalohindgaaGreatDoorPa8
import Derived.Test.YtieolalohindgaaGreatDoorPa26
import Derived.Test.YtieolalohindgaaGreatDoorPa27
/- What the reference's Read and Possible return, and the statements' near and awake. -/
namespace Go.Proofs.YtieolalohindgaaGreatDoor
open Go.RowKit

/-- The numerator of near: 1024 and part of 255 of the bound, more or less. -/
def nearN (p part : Int) (slow : Bool) : Int := if slow = true then 1024 + -(p * 1024 / 1000000 * part / 255) else 1024 + p * 1024 / 1000000 * part / 255
theorem near_bd (p part : Int) (slow : Bool) (h0 : 0 ≤ p) (h1 : p ≤ 100000) (q0 : 0 ≤ part) (q1 : part ≤ 255) :
    nearN p part slow * 1000000 ≤ 1024 * (1000000 + p) ∧ 1024 * (1000000 - p) ≤ nearN p part slow * 1000000 ∧ 922 ≤ nearN p part slow ∧ nearN p part slow ≤ 1126 ∧ 0 ≤ p * 1024 / 1000000 * part ∧ p * 1024 / 1000000 * part ≤ 26010 := by
  obtain ⟨m, hm⟩ : ∃ m, p * 1024 / 1000000 = m := ⟨_, rfl⟩
  have m0 : 0 ≤ m ∧ m * 1000000 ≤ p * 1024 ∧ m ≤ 102 := by omega
  have a := Int.mul_nonneg m0.1 q0
  have b := mono_l q1 m0.1
  unfold nearN
  rw [hm]
  generalize m * part = z at *
  split <;> omega
end Go.Proofs.YtieolalohindgaaGreatDoor

/- What moments of PolicyTruth returns; the true age and the bound. -/
namespace Go.Proofs.YtieolalohindgaaGreatDoor
open Go.RowKit

/-- What the clock shows at the time t. -/
def sn17 (z k : Int) (sl : Bool) (t : Int) : Int := 77 + t * nearN (pm z) k sl / 1024
theorem sn_ok (z k : Int) (sl : Bool) (t : Int) (hk : 0 ≤ k ∧ k ≤ 255) (h0 : 0 ≤ t) (ht : t ≤ 100000000) : okB 77 (nearN (pm z) k sl) 1024 t = true := by
  have b := pm_bd z
  obtain ⟨_, _, n1, n2, _⟩ := near_bd (pm z) k sl b.1 b.2 hk.1 hk.2
  unfold okB rateB
  rw [decide_eq_true (by omega), decide_eq_true (by omega), decide_eq_true (by omega), decide_eq_true (by omega)]; rfl
theorem sn_mono (z k : Int) (sl : Bool) (s t : Int) (hk : 0 ≤ k ∧ k ≤ 255) (h0 : 0 ≤ s) (hst : s ≤ t) (ht : t ≤ 100000000) : 0 ≤ sn17 z k sl s ∧ sn17 z k sl s ≤ sn17 z k sl t ∧ sn17 z k sl t ≤ 200000000 := by
  have b := pm_bd z
  obtain ⟨_, _, n1, n2, _⟩ := near_bd (pm z) k sl b.1 b.2 hk.1 hk.2
  unfold sn17
  generalize nearN (pm z) k sl = N at *
  have a := Int.mul_nonneg h0 (show 0 ≤ N by omega)
  have b := mono_r hst (show 0 ≤ N by omega)
  have c := mono_r ht (show 0 ≤ N by omega)
  have d := mono_l n2 (show (0 : Int) ≤ 100000000 by omega)
  generalize s * N = x at *
  generalize t * N = y at *
  generalize 100000000 * N = u at *
  omega
/-- The true age is at most the upper bound. -/
theorem sn_old (z k : Int) (sl : Bool) (s m g t : Int) (hk : 0 ≤ k ∧ k ≤ 255) (h0 : 0 ≤ s) (hsm : s ≤ m) (hmg : m ≤ g) (hst : g ≤ t) (ht : t ≤ 100000000) : t - m ≤ topA (sn17 z k sl s) (-1) (sn17 z k sl t) z := by
  have b := pm_bd z
  obtain ⟨n0, n00, n1, n2, _⟩ := near_bd (pm z) k sl b.1 b.2 hk.1 hk.2
  obtain ⟨m1, m2, m3⟩ := sn_mono z k sl s t hk h0 (by omega) ht
  have e1 : tk (sn17 z k sl s) = sn17 z k sl s := by unfold tk; omega
  have e2 : tk (sn17 z k sl t) = sn17 z k sl t := by unfold tk; omega
  have c := (contains_pure s t (nearN (pm z) k sl) (sn17 z k sl t - sn17 z k sl s) (pm z) (by omega) (by omega) b.1 b.2 (by unfold sn17; omega) n0 n00).2
  have e3 : addA (-1) = 0 := rfl
  unfold topA
  rw [e1, e2, e3]
  omega
/-- A block that holds a life. -/
structure LiB (N : Nat) (w : World) (m : Int) (g : Int) (l : Int) (c : Int) (k : Int) (sl : Bool) (z : Int) : Prop where
  c0 : w.cell? ⟨N, 0, none⟩ = some (.int .u16 m)
  c1 : w.cell? ⟨N, 1, none⟩ = some (.int .u16 g)
  c2 : w.cell? ⟨N, 2, none⟩ = some (.int .u16 l)
  c3 : w.cell? ⟨N, 3, none⟩ = some (.int .u8 c)
  c4 : w.cell? ⟨N, 4, none⟩ = some (.int .u8 k)
  c5 : w.cell? ⟨N, 5, none⟩ = some (.bool sl)
  c6 : w.cell? ⟨N, 6, none⟩ = some (.int .i64 z)
  fr : ∀ j, w.frozen? ⟨N, j, none⟩ = false
  lt : N < w.heap.size
theorem LiB.below {N : Nat} {w w' : World} {m : Int} {g : Int} {l : Int} {c : Int} {k : Int} {sl : Bool} {z : Int} (h : LiB N w m g l c k sl z) (hb : Below w.heap.size w w') : LiB N w' m g l c k sl z :=
  ⟨(hb.cell (p := ⟨N, 0, none⟩) h.lt).trans h.c0, (hb.cell (p := ⟨N, 1, none⟩) h.lt).trans h.c1, (hb.cell (p := ⟨N, 2, none⟩) h.lt).trans h.c2, (hb.cell (p := ⟨N, 3, none⟩) h.lt).trans h.c3, (hb.cell (p := ⟨N, 4, none⟩) h.lt).trans h.c4, (hb.cell (p := ⟨N, 5, none⟩) h.lt).trans h.c5, (hb.cell (p := ⟨N, 6, none⟩) h.lt).trans h.c6, fun j => (hb.frozen (p := ⟨N, j, none⟩) h.lt).trans (h.fr j), Nat.lt_of_lt_of_le h.lt hb.size⟩
theorem LiB.new (w : World) (m : Int) (g : Int) (l : Int) (c : Int) (k : Int) (sl : Bool) (z : Int) (T : TypeId) : LiB w.heap.size (w.alloc (.cells #[.int .u16 m, .int .u16 g, .int .u16 l, .int .u8 c, .int .u8 k, .bool sl, .int .i64 z] T)) m g l c k sl z :=
  ⟨by rw [World.cell?_alloc_at _ _ _ _ rfl]; rfl, by rw [World.cell?_alloc_at _ _ _ _ rfl]; rfl, by rw [World.cell?_alloc_at _ _ _ _ rfl]; rfl, by rw [World.cell?_alloc_at _ _ _ _ rfl]; rfl, by rw [World.cell?_alloc_at _ _ _ _ rfl]; rfl, by rw [World.cell?_alloc_at _ _ _ _ rfl]; rfl, by rw [World.cell?_alloc_at _ _ _ _ rfl]; rfl, fun j => World.frozen?_alloc_new _ _ _ _, by simp⟩
/-- A block that holds times. -/
structure TmB (N : Nat) (w : World) (x : Int) (y : Int) (u : Int) : Prop where
  c0 : w.cell? ⟨N, 0, none⟩ = some (.int .i64 x)
  c1 : w.cell? ⟨N, 1, none⟩ = some (.int .i64 y)
  c2 : w.cell? ⟨N, 2, none⟩ = some (.int .i64 u)
  fr : ∀ j, w.frozen? ⟨N, j, none⟩ = false
  lt : N < w.heap.size
theorem TmB.below {N : Nat} {w w' : World} {x : Int} {y : Int} {u : Int} (h : TmB N w x y u) (hb : Below w.heap.size w w') : TmB N w' x y u :=
  ⟨(hb.cell (p := ⟨N, 0, none⟩) h.lt).trans h.c0, (hb.cell (p := ⟨N, 1, none⟩) h.lt).trans h.c1, (hb.cell (p := ⟨N, 2, none⟩) h.lt).trans h.c2, fun j => (hb.frozen (p := ⟨N, j, none⟩) h.lt).trans (h.fr j), Nat.lt_of_lt_of_le h.lt hb.size⟩
theorem TmB.new (w : World) (x : Int) (y : Int) (u : Int) (T : TypeId) : TmB w.heap.size (w.alloc (.cells #[.int .i64 x, .int .i64 y, .int .i64 u] T)) x y u :=
  ⟨by rw [World.cell?_alloc_at _ _ _ _ rfl]; rfl, by rw [World.cell?_alloc_at _ _ _ _ rfl]; rfl, by rw [World.cell?_alloc_at _ _ _ _ rfl]; rfl, fun j => World.frozen?_alloc_new _ _ _ _, by simp⟩
theorem TmB.set {N : Nat} {w : World} {x y u : Int} (h : TmB N w x y u) (a b d : Int) : TmB N (((w.setCell ⟨N, 0, none⟩ (.int .i64 a)).setCell ⟨N, 1, none⟩ (.int .i64 b)).setCell ⟨N, 2, none⟩ (.int .i64 d)) a b d := by
  obtain ⟨c0, c1, c2, fr, lt⟩ := h
  refine ⟨?_, ?_, ?_, fun j => by simpa using fr j, by simpa using lt⟩
  all_goals simp (maxDischargeDepth := 9) [go_sem, c0, c1, c2]
structure MzS (K : Nat) (w w' : World) : Prop where
  m : ∃ x y u, TmB K w' x y u
  l : Below w.heap.size w w'
  g : w.heap.size ≤ K
theorem MzS.below {K : Nat} {w w1 w2 : World} (h : MzS K w w1) (hb : Below w1.heap.size w1 w2) : MzS K w w2 := ⟨h.m.elim fun x h1 => h1.elim fun y h2 => h2.elim fun u h3 => ⟨x, y, u, h3.below hb⟩, h.l.trans (hb.mono h.l.size), h.g⟩
theorem MzS.store {K : Nat} {w w1 : World} (h : MzS K w w1) (a b d : Int) : MzS K w (((w1.setCell ⟨K, 0, none⟩ (.int .i64 a)).setCell ⟨K, 1, none⟩ (.int .i64 b)).setCell ⟨K, 2, none⟩ (.int .i64 d)) :=
  ⟨h.m.elim fun _ h1 => h1.elim fun _ h2 => h2.elim fun _ h3 => ⟨_, _, _, h3.set a b d⟩, ((h.l.setCell (p := ⟨K, 0, none⟩) h.g _).setCell (p := ⟨K, 1, none⟩) h.g _).setCell (p := ⟨K, 2, none⟩) h.g _, h.g⟩
set_option maxHeartbeats 8000000 in
set_option maxRecDepth 100000 in
theorem moments_any (m g l c k : Int) (sl : Bool) (z : Int) (hm : 0 ≤ m ∧ m ≤ 65535) (hg : 0 ≤ g ∧ g ≤ 65535) (hl : 0 ≤ l ∧ l ≤ 65535) (hc : 0 ≤ c ∧ c ≤ 255) (hk : 0 ≤ k ∧ k ≤ 255) (w : World) :
    Calls Tryz.prog 20 #[(.agg #[.int .u16 m, .int .u16 g, .int .u16 l, .int .u8 c, .int .u8 k, .bool sl, .int .i64 z])] w fun e w' => e = .returned (.tuple #[tmV (sn17 z k sl 5000) (sn17 z k sl (5000 + m + g)) (-1), .int .i64 (sn17 z k sl (5000 + m + g + l * (1 + c))), .int .i64 (5000 + m + g + l * (1 + c) - (5000 + m)), .bool true]) ∧ Below w.heap.size w w' := by
  have q0 := Int.mul_nonneg hl.1 (show 0 ≤ 1 + c by omega)
  have q1 := mono_r hl.2 (show 0 ≤ 1 + c by omega)
  obtain ⟨y, hy⟩ : ∃ y, l * (1 + c) = y := ⟨_, rfl⟩
  rw [hy] at q0 q1 ⊢
  have hwy : wrap64 (l * (1 + c)) = y := by rw [hy]; exact wrap_in (by omega) (by omega)
  have hyb : 0 ≤ y ∧ y ≤ 16776960 := by omega
  clear q0 q1 hy
  have b2 := pm_bd z
  have HP := Lib.hid (fun W => refPpm_any z W)
  have HR := Lib.hid (fun (t : Int) (h0 : 0 ≤ t) (h1 : t ≤ 100000000) (W : World) => (show Calls Tryz.prog 42 #[ckV 77 (nearN (pm z) k sl) 1024, .int .i64 t] W fun e w' => e = .returned (.tuple #[.int .i64 (sn17 z k sl t), .nilIface]) ∧ Below W.heap.size W w' by
    have h := read_any 77 (nearN (pm z) k sl) 1024 t W
    rw [readV_yes (sn_ok z k sl t hk h0 h1)] at h
    exact h))
  have nb := near_bd (pm z) k sl b2.1 b2.2 hk.1 hk.2
  have eN := Lib.hid (show nearN (pm z) k sl = if sl = true then 1024 + -(pm z * 1024 / 1000000 * k / 255) else 1024 + pm z * 1024 / 1000000 * k / 255 from rfl)
  generalize sn17 z k sl = SN at *
  obtain ⟨p, hp⟩ : ∃ p, pm z = p := ⟨_, rfl⟩
  rw [hp] at b2 HP eN nb HR
  clear hp
  have m0 : 0 ≤ p * 1024 / 1000000 ∧ p * 1024 / 1000000 ≤ 102 := by omega
  obtain ⟨v, hv⟩ : ∃ v, p * 1024 / 1000000 * k = v := ⟨_, rfl⟩
  have hw : wrap64 (p * 1024 / 1000000 * k) = v := by rw [hv]; exact wrap_in (by omega) (by omega)
  rw [hv] at nb eN
  clear hv
  have z0 : 0 ≤ v ∧ v ≤ 26010 := nb.2.2.2.2
  clear nb
  obtain ⟨N, hN⟩ : ∃ N, nearN p k sl = N := ⟨_, rfl⟩
  rw [hN] at HR eN
  clear hN
  have HB := Lib.hid ((below_new w (.cells #[.int .u16 m, .int .u16 g, .int .u16 l, .int .u8 c, .int .u8 k, .bool sl, .int .i64 z] 51)).alloc (by simp) (.cells #[.int .i64 0, .int .i64 0, .int .i64 0] 36))
  have HL := Lib.hid ((LiB.new w m g l c k sl z 51).below (below_new _ (.cells #[.int .i64 0, .int .i64 0, .int .i64 0] 36)))
  have hz := TmB.new (w.alloc (.cells #[.int .u16 m, .int .u16 g, .int .u16 l, .int .u8 c, .int .u8 k, .bool sl, .int .i64 z] 51)) 0 0 0 36
  have e1 : (w.alloc (.cells #[.int .u16 m, .int .u16 g, .int .u16 l, .int .u8 c, .int .u8 k, .bool sl, .int .i64 z] 51)).heap.size = w.heap.size + 1 := by simp
  rw [e1] at hz
  have HZ := Lib.hid (MzS.mk (w := w) ⟨_, _, _, hz⟩ HB.out (Nat.le_succ _))
  clear e1 hz HB
  cases sl with
  | true =>
    rw [if_pos rfl] at eN
    rw [eN.out] at HR
    go_enter Tryz.func20, Tryz.ntmps20
    go_upto_region 1 with fail
    change Code.wp _ _ _ _ ((w.alloc (.cells #[.int .u16 m, .int .u16 g, .int .u16 l, .int .u8 c, .int .u8 k, .bool true, .int .i64 z] 51)).alloc (.cells #[.int .i64 0, .int .i64 0, .int .i64 0] 36))
    generalize ((w.alloc (.cells #[.int .u16 m, .int .u16 g, .int .u16 l, .int .u8 c, .int .u8 k, .bool true, .int .i64 z] 51)).alloc (.cells #[.int .i64 0, .int .i64 0, .int .i64 0] 36)) = W at *
    obtain ⟨c0, c1, c2, c3, c4, c5, c6, fr, lt⟩ := HL.out
    go_wp2_with fail
    refine (HP.out _).mono ?_
    rintro e w' ⟨rfl, rfl⟩
    go_upto_region 10 with fail
    clear c0 c1 c2 c3 c4 c5 c6 fr lt hwy hw
    have HC := Lib.hid (TmB.new W 77 (1024 + -(v / 255)) 1024 86)
    have HZ1 := Lib.hid (HZ.out.below (below_new W (.cells #[.int .i64 77, .int .i64 (1024 + -(v / 255)), .int .i64 1024] 86)))
    change Code.wp _ _ _ _ (W.alloc (.cells #[.int .i64 77, .int .i64 (1024 + -(v / 255)), .int .i64 1024] 86))
    generalize W.heap.size = K at *
    generalize (W.alloc (.cells #[.int .i64 77, .int .i64 (1024 + -(v / 255)), .int .i64 1024] 86)) = W1 at *
    obtain ⟨c0, c1, c2, fr, lt⟩ := HC.out
    go_wp2_with fail
    refine (HR.out 5000 (by omega) (by omega) _).mono ?_
    rintro e w2 ⟨rfl, hB⟩
    have HC2 := Lib.hid (HC.out.below hB)
    have HZ2 := Lib.hid (HZ1.out.below hB)
    clear c0 c1 c2 fr lt hB HC HZ1
    obtain ⟨c0, c1, c2, fr, lt⟩ := HC2.out
    go_wp2_with fail
    refine (HR.out (5000 + m + g) (by omega) (by omega) _).mono ?_
    rintro e w3 ⟨rfl, hB⟩
    have HC3 := Lib.hid (HC2.out.below hB)
    have HZ3 := Lib.hid (HZ2.out.below hB)
    clear c0 c1 c2 fr lt hB HC2 HZ2
    obtain ⟨c0, c1, c2, fr, lt⟩ := HC3.out
    go_wp2_with fail
    refine (HR.out (5000 + m + g + y) (by omega) (by omega) _).mono ?_
    rintro e w4 ⟨rfl, hB⟩
    have HC4 := Lib.hid (HC3.out.below hB)
    have HZ4 := Lib.hid (HZ3.out.below hB)
    clear c0 c1 c2 fr lt hB HC3 HZ3
    go_upto_region 13 with fail
    refine wp_region_held_drew (S := MzS (w.heap.size + 1) w) (by kernel_rfl) (HZ4.out.below (Below.refl w4.heap.size w4).drew) (fun h0 => ?_)
    generalize w4.drew = W5 at *
    refine wpAnyH_take (i := 0) (oi := { dst := some 75, op := _, type := _, pos := _, after := _, guard := _ }) (v := ?_) rfl (by kernel_rfl) (by kernel_rfl) (by kernel_rfl) (fun _ _ _ h => h) (Or.inl ⟨by rfl, ?_⟩) (by assumption) ?_
    rotate_left
    focus (intro w hSw; (try dsimp only at hSw); first | (go_simp; done) | (go_simp; with_reducible rfl))
    (try simp only [Act.put, List.setIfInBounds_toArray, List.set_cons_zero, List.set_cons_succ])
    refine wpAnyH_take (i := 1) (oi := { dst := some 76, op := _, type := _, pos := _, after := _, guard := _ }) (v := ?_) rfl (by kernel_rfl) (by kernel_rfl) (by kernel_rfl) (fun _ _ _ h => h) (Or.inl ⟨by rfl, ?_⟩) (by assumption) ?_
    rotate_left
    focus (intro w hSw; (try dsimp only at hSw); first | (go_simp; done) | (go_simp; with_reducible rfl))
    (try simp only [Act.put, List.setIfInBounds_toArray, List.set_cons_zero, List.set_cons_succ])
    refine wpAnyH_take (i := 2) (oi := { dst := some 77, op := _, type := _, pos := _, after := _, guard := _ }) (v := ?_) rfl (by kernel_rfl) (by kernel_rfl) (by kernel_rfl) (fun _ _ _ h => h) (Or.inl ⟨by rfl, ?_⟩) (by assumption) ?_
    rotate_left
    focus (intro w hSw; (try dsimp only at hSw); first | (go_simp; done) | (go_simp; with_reducible rfl))
    (try simp only [Act.put, List.setIfInBounds_toArray, List.set_cons_zero, List.set_cons_succ])
    refine wpAnyH_take (i := 3) (oi := { dst := some 78, op := _, type := _, pos := _, after := _, guard := _ }) (v := ?_) rfl (by kernel_rfl) (by kernel_rfl) (by kernel_rfl) (fun _ _ _ h => h) (Or.inl ⟨by rfl, ?_⟩) (by assumption) ?_
    rotate_left
    focus (intro w hSw; (try dsimp only at hSw); first | (go_simp; done) | (go_simp; with_reducible rfl))
    (try simp only [Act.put, List.setIfInBounds_toArray, List.set_cons_zero, List.set_cons_succ])
    refine wpAnyH_take (i := 4) (oi := { dst := some 79, op := _, type := _, pos := _, after := _, guard := _ }) (v := ?_) rfl (by kernel_rfl) (by kernel_rfl) (by kernel_rfl) (fun _ _ _ h => h) (Or.inl ⟨by rfl, ?_⟩) (by assumption) ?_
    rotate_left
    focus (intro w hSw; (try dsimp only at hSw); first | (go_simp; done) | (go_simp; with_reducible rfl))
    (try simp only [Act.put, List.setIfInBounds_toArray, List.set_cons_zero, List.set_cons_succ])
    refine wpAnyH_take (i := 5) (oi := { dst := some 80, op := _, type := _, pos := _, after := _, guard := _ }) (v := ?_) rfl (by kernel_rfl) (by kernel_rfl) (by kernel_rfl) (fun _ _ _ h => h) (Or.inl ⟨by rfl, ?_⟩) (by assumption) ?_
    rotate_left
    focus (intro w hSw; (try dsimp only at hSw); first | (go_simp; done) | (go_simp; with_reducible rfl))
    (try simp only [Act.put, List.setIfInBounds_toArray, List.set_cons_zero, List.set_cons_succ])
    refine wpAnyH_take (i := 6) (oi := { dst := some 81, op := _, type := _, pos := _, after := _, guard := _ }) (v := ?_) rfl (by kernel_rfl) (by kernel_rfl) (by kernel_rfl) (fun _ _ _ h => h) (Or.inl ⟨by rfl, ?_⟩) (by assumption) ?_
    rotate_left
    focus (intro w hSw; (try dsimp only at hSw); first | (go_simp; done) | (go_simp; with_reducible rfl))
    (try simp only [Act.put, List.setIfInBounds_toArray, List.set_cons_zero, List.set_cons_succ])
    refine wpAnyH_take (i := 7) (oi := { dst := some 82, op := _, type := _, pos := _, after := _, guard := _ }) (v := ?_) rfl (by kernel_rfl) (by kernel_rfl) (by kernel_rfl) (fun _ _ _ h => h) (Or.inl ⟨by rfl, ?_⟩) (by assumption) ?_
    rotate_left
    focus (intro w hSw; (try dsimp only at hSw); first | (go_simp; done) | (go_simp; with_reducible rfl))
    (try simp only [Act.put, List.setIfInBounds_toArray, List.set_cons_zero, List.set_cons_succ])
    refine wpAnyH_take (i := 8) (oi := { dst := some 83, op := _, type := _, pos := _, after := _, guard := _ }) (v := ?_) rfl (by kernel_rfl) (by kernel_rfl) (by kernel_rfl) (fun _ _ _ h => h) (Or.inl ⟨by rfl, ?_⟩) (by assumption) ?_
    rotate_left
    focus (intro w hSw; (try dsimp only at hSw); first | (go_simp; done) | (go_simp; with_reducible rfl))
    (try simp only [Act.put, List.setIfInBounds_toArray, List.set_cons_zero, List.set_cons_succ])
    refine wpAnyH_take (i := 9) (oi := { dst := some 84, op := _, type := _, pos := _, after := _, guard := _ }) (v := ?_) rfl (by kernel_rfl) (by kernel_rfl) (by kernel_rfl) (fun _ _ _ h => h) (Or.inl ⟨by rfl, ?_⟩) (by assumption) ?_
    rotate_left
    focus (intro w hSw; (try dsimp only at hSw); first | (go_simp; done) | (go_simp; with_reducible rfl))
    (try simp only [Act.put, List.setIfInBounds_toArray, List.set_cons_zero, List.set_cons_succ])
    refine wpAnyH_take (i := 10) (oi := { dst := some 85, op := _, type := _, pos := _, after := _, guard := _ }) (v := ?_) rfl (by kernel_rfl) (by kernel_rfl) (by kernel_rfl) (fun _ _ _ h => h) (Or.inl ⟨by rfl, ?_⟩) (by assumption) ?_
    rotate_left
    focus (intro w hSw; (try dsimp only at hSw); first | (go_simp; done) | (go_simp; with_reducible rfl))
    (try simp only [Act.put, List.setIfInBounds_toArray, List.set_cons_zero, List.set_cons_succ])
    refine wpAnyH_take (i := 11) (oi := { dst := some 86, op := _, type := _, pos := _, after := _, guard := _ }) (v := ?_) rfl (by kernel_rfl) (by kernel_rfl) (by kernel_rfl) (fun _ _ _ h => h) (Or.inl ⟨by rfl, ?_⟩) (by assumption) ?_
    rotate_left
    focus (intro w hSw; (try dsimp only at hSw); first | (go_simp; done) | (go_simp; with_reducible rfl))
    (try simp only [Act.put, List.setIfInBounds_toArray, List.set_cons_zero, List.set_cons_succ])
    refine wpAnyH_take (i := 12) (oi := { dst := some 87, op := _, type := _, pos := _, after := _, guard := _ }) (v := ?_) rfl (by kernel_rfl) (by kernel_rfl) (by kernel_rfl) (fun _ _ _ h => h) (Or.inl ⟨by rfl, ?_⟩) (by assumption) ?_
    rotate_left
    focus (intro w hSw; (try dsimp only at hSw); first | (go_simp; done) | (go_simp; with_reducible rfl))
    (try simp only [Act.put, List.setIfInBounds_toArray, List.set_cons_zero, List.set_cons_succ])
    refine wpAnyH_take (i := 13) (oi := { dst := some 88, op := _, type := _, pos := _, after := _, guard := _ }) (v := ?_) rfl (by kernel_rfl) (by kernel_rfl) (by kernel_rfl) (fun _ _ _ h => h) (Or.inl ⟨by rfl, ?_⟩) (by assumption) ?_
    rotate_left
    focus (intro w hSw; (try dsimp only at hSw); first | (go_simp; done) | (go_simp; with_reducible rfl))
    (try simp only [Act.put, List.setIfInBounds_toArray, List.set_cons_zero, List.set_cons_succ])
    refine wpAnyH_take (i := 14) (oi := { dst := some 89, op := _, type := _, pos := _, after := _, guard := _ }) (v := ?_) rfl (by kernel_rfl) (by kernel_rfl) (by kernel_rfl) (fun _ _ _ h => h) (Or.inl ⟨by rfl, ?_⟩) (by assumption) ?_
    rotate_left
    focus (intro w hSw; (try dsimp only at hSw); first | (go_simp; done) | (go_simp; with_reducible rfl))
    (try simp only [Act.put, List.setIfInBounds_toArray, List.set_cons_zero, List.set_cons_succ])
    refine wpAnyH_take (i := 15) (oi := { dst := some 90, op := _, type := _, pos := _, after := _, guard := _ }) (v := ?_) rfl (by kernel_rfl) (by kernel_rfl) (by kernel_rfl) (fun _ _ _ h => h) (Or.inl ⟨by rfl, ?_⟩) (by assumption) ?_
    rotate_left
    focus (intro w hSw; (try dsimp only at hSw); first | (go_simp; done) | (go_simp; with_reducible rfl))
    (try simp only [Act.put, List.setIfInBounds_toArray, List.set_cons_zero, List.set_cons_succ])
    refine wpAnyH_take (i := 16) (oi := { dst := some 91, op := _, type := _, pos := _, after := _, guard := _ }) (v := ?_) rfl (by kernel_rfl) (by kernel_rfl) (by kernel_rfl) (fun _ _ _ h => h) (Or.inl ⟨by rfl, ?_⟩) (by assumption) ?_
    rotate_left
    focus (intro w hSw; (try dsimp only at hSw); first | (go_simp; done) | (go_simp; with_reducible rfl))
    (try simp only [Act.put, List.setIfInBounds_toArray, List.set_cons_zero, List.set_cons_succ])
    obtain ⟨x0, x1, x2, hm0⟩ := h0.m
    have hS := h0.store (SN 5000) (SN (5000 + m + g)) (-1)
    have hW := hm0.set (SN 5000) (SN (5000 + m + g)) (-1)
    have hBF := hS.l
    obtain ⟨m0, m1, m2, fr, lt⟩ := hm0
    refine wpAnyH_ready (rs := [17]) (by kernel_rfl) (by simp) ?_
    refine AllReadyH.cons (o := { dst := none, op := _, type := _, pos := _, after := _, guard := _ }) rfl (fun K hK => ?_) AllReadyH.nil
    go_simp
    refine hK.out _ _ hS (fun h10 => ?_)
    clear hK K
    (try simp only [Act.put, List.setIfInBounds_toArray, List.set_cons_zero, List.set_cons_succ])
    refine wpAnyH_take (i := 18) (oi := { dst := some 3, op := _, type := _, pos := _, after := _, guard := _ }) (v := ?_) rfl (by kernel_rfl) (by kernel_rfl) (by kernel_rfl) (fun _ _ _ h => h) (Or.inl ⟨by rfl, ?_⟩) (by assumption) ?_
    rotate_left
    focus (intro w hSw; (try dsimp only at hSw); first | (go_simp; done) | (go_simp; with_reducible rfl))
    (try simp only [Act.put, List.setIfInBounds_toArray, List.set_cons_zero, List.set_cons_succ])
    refine wpAnyH_take (i := 19) (oi := { dst := some 4, op := _, type := _, pos := _, after := _, guard := _ }) (v := ?_) rfl (by kernel_rfl) (by kernel_rfl) (by kernel_rfl) (fun _ _ _ h => h) (Or.inl ⟨by rfl, ?_⟩) (by assumption) ?_
    rotate_left
    focus (intro w hSw; (try dsimp only at hSw); first | (go_simp; done) | (go_simp; with_reducible rfl))
    (try simp only [Act.put, List.setIfInBounds_toArray, List.set_cons_zero, List.set_cons_succ])
    refine wpAnyH_take (i := 20) (oi := { dst := some 5, op := _, type := _, pos := _, after := _, guard := _ }) (v := ?_) rfl (by kernel_rfl) (by kernel_rfl) (by kernel_rfl) (fun _ _ _ h => h) (Or.inl ⟨by rfl, ?_⟩) (by assumption) ?_
    rotate_left
    focus (intro w hSw; (try dsimp only at hSw); first | (go_simp; done) | (go_simp; with_reducible rfl))
    (try simp only [Act.put, List.setIfInBounds_toArray, List.set_cons_zero, List.set_cons_succ])
    refine wpAnyH_done (by kernel_rfl) ?_ _
    (try simp only [Exit.then])
    clear m0 m1 m2 fr lt hS h10 h0
    generalize (((W5.setCell ⟨w.heap.size + 1, 0, none⟩ (.int .i64 (SN 5000))).setCell ⟨w.heap.size + 1, 1, none⟩ (.int .i64 (SN (5000 + m + g)))).setCell ⟨w.heap.size + 1, 2, none⟩ (.int .i64 (-1))) = WF at *
    obtain ⟨r0, r1, r2, _, _⟩ := hW
    go_wp2_with fail
    refine bodyPost_ret (v := .tuple #[tmV (SN 5000) (SN (5000 + m + g)) (-1), .int .i64 (SN (5000 + m + g + y)), .int .i64 (5000 + m + g + y - (5000 + m)), .bool true]) (by simp [results, Tryz.results20, go_sem, r0, r1, r2]; exact Go.IntWalk.i64_in _ (by omega)) rfl ?_
    exact ⟨rfl, hBF⟩
  | false =>
    rw [if_neg (by simp)] at eN
    rw [eN.out] at HR
    go_enter Tryz.func20, Tryz.ntmps20
    go_upto_region 1 with fail
    change Code.wp _ _ _ _ ((w.alloc (.cells #[.int .u16 m, .int .u16 g, .int .u16 l, .int .u8 c, .int .u8 k, .bool false, .int .i64 z] 51)).alloc (.cells #[.int .i64 0, .int .i64 0, .int .i64 0] 36))
    generalize ((w.alloc (.cells #[.int .u16 m, .int .u16 g, .int .u16 l, .int .u8 c, .int .u8 k, .bool false, .int .i64 z] 51)).alloc (.cells #[.int .i64 0, .int .i64 0, .int .i64 0] 36)) = W at *
    obtain ⟨c0, c1, c2, c3, c4, c5, c6, fr, lt⟩ := HL.out
    go_wp2_with fail
    refine (HP.out _).mono ?_
    rintro e w' ⟨rfl, rfl⟩
    go_upto_region 10 with fail
    clear c0 c1 c2 c3 c4 c5 c6 fr lt hwy hw
    have HC := Lib.hid (TmB.new W 77 (1024 + v / 255) 1024 86)
    have HZ1 := Lib.hid (HZ.out.below (below_new W (.cells #[.int .i64 77, .int .i64 (1024 + v / 255), .int .i64 1024] 86)))
    change Code.wp _ _ _ _ (W.alloc (.cells #[.int .i64 77, .int .i64 (1024 + v / 255), .int .i64 1024] 86))
    generalize W.heap.size = K at *
    generalize (W.alloc (.cells #[.int .i64 77, .int .i64 (1024 + v / 255), .int .i64 1024] 86)) = W1 at *
    obtain ⟨c0, c1, c2, fr, lt⟩ := HC.out
    go_wp2_with fail
    refine (HR.out 5000 (by omega) (by omega) _).mono ?_
    rintro e w2 ⟨rfl, hB⟩
    have HC2 := Lib.hid (HC.out.below hB)
    have HZ2 := Lib.hid (HZ1.out.below hB)
    clear c0 c1 c2 fr lt hB HC HZ1
    obtain ⟨c0, c1, c2, fr, lt⟩ := HC2.out
    go_wp2_with fail
    refine (HR.out (5000 + m + g) (by omega) (by omega) _).mono ?_
    rintro e w3 ⟨rfl, hB⟩
    have HC3 := Lib.hid (HC2.out.below hB)
    have HZ3 := Lib.hid (HZ2.out.below hB)
    clear c0 c1 c2 fr lt hB HC2 HZ2
    obtain ⟨c0, c1, c2, fr, lt⟩ := HC3.out
    go_wp2_with fail
    refine (HR.out (5000 + m + g + y) (by omega) (by omega) _).mono ?_
    rintro e w4 ⟨rfl, hB⟩
    have HC4 := Lib.hid (HC3.out.below hB)
    have HZ4 := Lib.hid (HZ3.out.below hB)
    clear c0 c1 c2 fr lt hB HC3 HZ3
    go_upto_region 13 with fail
    refine wp_region_held_drew (S := MzS (w.heap.size + 1) w) (by kernel_rfl) (HZ4.out.below (Below.refl w4.heap.size w4).drew) (fun h0 => ?_)
    generalize w4.drew = W5 at *
    refine wpAnyH_take (i := 0) (oi := { dst := some 75, op := _, type := _, pos := _, after := _, guard := _ }) (v := ?_) rfl (by kernel_rfl) (by kernel_rfl) (by kernel_rfl) (fun _ _ _ h => h) (Or.inl ⟨by rfl, ?_⟩) (by assumption) ?_
    rotate_left
    focus (intro w hSw; (try dsimp only at hSw); first | (go_simp; done) | (go_simp; with_reducible rfl))
    (try simp only [Act.put, List.setIfInBounds_toArray, List.set_cons_zero, List.set_cons_succ])
    refine wpAnyH_take (i := 1) (oi := { dst := some 76, op := _, type := _, pos := _, after := _, guard := _ }) (v := ?_) rfl (by kernel_rfl) (by kernel_rfl) (by kernel_rfl) (fun _ _ _ h => h) (Or.inl ⟨by rfl, ?_⟩) (by assumption) ?_
    rotate_left
    focus (intro w hSw; (try dsimp only at hSw); first | (go_simp; done) | (go_simp; with_reducible rfl))
    (try simp only [Act.put, List.setIfInBounds_toArray, List.set_cons_zero, List.set_cons_succ])
    refine wpAnyH_take (i := 2) (oi := { dst := some 77, op := _, type := _, pos := _, after := _, guard := _ }) (v := ?_) rfl (by kernel_rfl) (by kernel_rfl) (by kernel_rfl) (fun _ _ _ h => h) (Or.inl ⟨by rfl, ?_⟩) (by assumption) ?_
    rotate_left
    focus (intro w hSw; (try dsimp only at hSw); first | (go_simp; done) | (go_simp; with_reducible rfl))
    (try simp only [Act.put, List.setIfInBounds_toArray, List.set_cons_zero, List.set_cons_succ])
    refine wpAnyH_take (i := 3) (oi := { dst := some 78, op := _, type := _, pos := _, after := _, guard := _ }) (v := ?_) rfl (by kernel_rfl) (by kernel_rfl) (by kernel_rfl) (fun _ _ _ h => h) (Or.inl ⟨by rfl, ?_⟩) (by assumption) ?_
    rotate_left
    focus (intro w hSw; (try dsimp only at hSw); first | (go_simp; done) | (go_simp; with_reducible rfl))
    (try simp only [Act.put, List.setIfInBounds_toArray, List.set_cons_zero, List.set_cons_succ])
    refine wpAnyH_take (i := 4) (oi := { dst := some 79, op := _, type := _, pos := _, after := _, guard := _ }) (v := ?_) rfl (by kernel_rfl) (by kernel_rfl) (by kernel_rfl) (fun _ _ _ h => h) (Or.inl ⟨by rfl, ?_⟩) (by assumption) ?_
    rotate_left
    focus (intro w hSw; (try dsimp only at hSw); first | (go_simp; done) | (go_simp; with_reducible rfl))
    (try simp only [Act.put, List.setIfInBounds_toArray, List.set_cons_zero, List.set_cons_succ])
    refine wpAnyH_take (i := 5) (oi := { dst := some 80, op := _, type := _, pos := _, after := _, guard := _ }) (v := ?_) rfl (by kernel_rfl) (by kernel_rfl) (by kernel_rfl) (fun _ _ _ h => h) (Or.inl ⟨by rfl, ?_⟩) (by assumption) ?_
    rotate_left
    focus (intro w hSw; (try dsimp only at hSw); first | (go_simp; done) | (go_simp; with_reducible rfl))
    (try simp only [Act.put, List.setIfInBounds_toArray, List.set_cons_zero, List.set_cons_succ])
    refine wpAnyH_take (i := 6) (oi := { dst := some 81, op := _, type := _, pos := _, after := _, guard := _ }) (v := ?_) rfl (by kernel_rfl) (by kernel_rfl) (by kernel_rfl) (fun _ _ _ h => h) (Or.inl ⟨by rfl, ?_⟩) (by assumption) ?_
    rotate_left
    focus (intro w hSw; (try dsimp only at hSw); first | (go_simp; done) | (go_simp; with_reducible rfl))
    (try simp only [Act.put, List.setIfInBounds_toArray, List.set_cons_zero, List.set_cons_succ])
    refine wpAnyH_take (i := 7) (oi := { dst := some 82, op := _, type := _, pos := _, after := _, guard := _ }) (v := ?_) rfl (by kernel_rfl) (by kernel_rfl) (by kernel_rfl) (fun _ _ _ h => h) (Or.inl ⟨by rfl, ?_⟩) (by assumption) ?_
    rotate_left
    focus (intro w hSw; (try dsimp only at hSw); first | (go_simp; done) | (go_simp; with_reducible rfl))
    (try simp only [Act.put, List.setIfInBounds_toArray, List.set_cons_zero, List.set_cons_succ])
    refine wpAnyH_take (i := 8) (oi := { dst := some 83, op := _, type := _, pos := _, after := _, guard := _ }) (v := ?_) rfl (by kernel_rfl) (by kernel_rfl) (by kernel_rfl) (fun _ _ _ h => h) (Or.inl ⟨by rfl, ?_⟩) (by assumption) ?_
    rotate_left
    focus (intro w hSw; (try dsimp only at hSw); first | (go_simp; done) | (go_simp; with_reducible rfl))
    (try simp only [Act.put, List.setIfInBounds_toArray, List.set_cons_zero, List.set_cons_succ])
    refine wpAnyH_take (i := 9) (oi := { dst := some 84, op := _, type := _, pos := _, after := _, guard := _ }) (v := ?_) rfl (by kernel_rfl) (by kernel_rfl) (by kernel_rfl) (fun _ _ _ h => h) (Or.inl ⟨by rfl, ?_⟩) (by assumption) ?_
    rotate_left
    focus (intro w hSw; (try dsimp only at hSw); first | (go_simp; done) | (go_simp; with_reducible rfl))
    (try simp only [Act.put, List.setIfInBounds_toArray, List.set_cons_zero, List.set_cons_succ])
    refine wpAnyH_take (i := 10) (oi := { dst := some 85, op := _, type := _, pos := _, after := _, guard := _ }) (v := ?_) rfl (by kernel_rfl) (by kernel_rfl) (by kernel_rfl) (fun _ _ _ h => h) (Or.inl ⟨by rfl, ?_⟩) (by assumption) ?_
    rotate_left
    focus (intro w hSw; (try dsimp only at hSw); first | (go_simp; done) | (go_simp; with_reducible rfl))
    (try simp only [Act.put, List.setIfInBounds_toArray, List.set_cons_zero, List.set_cons_succ])
    refine wpAnyH_take (i := 11) (oi := { dst := some 86, op := _, type := _, pos := _, after := _, guard := _ }) (v := ?_) rfl (by kernel_rfl) (by kernel_rfl) (by kernel_rfl) (fun _ _ _ h => h) (Or.inl ⟨by rfl, ?_⟩) (by assumption) ?_
    rotate_left
    focus (intro w hSw; (try dsimp only at hSw); first | (go_simp; done) | (go_simp; with_reducible rfl))
    (try simp only [Act.put, List.setIfInBounds_toArray, List.set_cons_zero, List.set_cons_succ])
    refine wpAnyH_take (i := 12) (oi := { dst := some 87, op := _, type := _, pos := _, after := _, guard := _ }) (v := ?_) rfl (by kernel_rfl) (by kernel_rfl) (by kernel_rfl) (fun _ _ _ h => h) (Or.inl ⟨by rfl, ?_⟩) (by assumption) ?_
    rotate_left
    focus (intro w hSw; (try dsimp only at hSw); first | (go_simp; done) | (go_simp; with_reducible rfl))
    (try simp only [Act.put, List.setIfInBounds_toArray, List.set_cons_zero, List.set_cons_succ])
    refine wpAnyH_take (i := 13) (oi := { dst := some 88, op := _, type := _, pos := _, after := _, guard := _ }) (v := ?_) rfl (by kernel_rfl) (by kernel_rfl) (by kernel_rfl) (fun _ _ _ h => h) (Or.inl ⟨by rfl, ?_⟩) (by assumption) ?_
    rotate_left
    focus (intro w hSw; (try dsimp only at hSw); first | (go_simp; done) | (go_simp; with_reducible rfl))
    (try simp only [Act.put, List.setIfInBounds_toArray, List.set_cons_zero, List.set_cons_succ])
    refine wpAnyH_take (i := 14) (oi := { dst := some 89, op := _, type := _, pos := _, after := _, guard := _ }) (v := ?_) rfl (by kernel_rfl) (by kernel_rfl) (by kernel_rfl) (fun _ _ _ h => h) (Or.inl ⟨by rfl, ?_⟩) (by assumption) ?_
    rotate_left
    focus (intro w hSw; (try dsimp only at hSw); first | (go_simp; done) | (go_simp; with_reducible rfl))
    (try simp only [Act.put, List.setIfInBounds_toArray, List.set_cons_zero, List.set_cons_succ])
    refine wpAnyH_take (i := 15) (oi := { dst := some 90, op := _, type := _, pos := _, after := _, guard := _ }) (v := ?_) rfl (by kernel_rfl) (by kernel_rfl) (by kernel_rfl) (fun _ _ _ h => h) (Or.inl ⟨by rfl, ?_⟩) (by assumption) ?_
    rotate_left
    focus (intro w hSw; (try dsimp only at hSw); first | (go_simp; done) | (go_simp; with_reducible rfl))
    (try simp only [Act.put, List.setIfInBounds_toArray, List.set_cons_zero, List.set_cons_succ])
    refine wpAnyH_take (i := 16) (oi := { dst := some 91, op := _, type := _, pos := _, after := _, guard := _ }) (v := ?_) rfl (by kernel_rfl) (by kernel_rfl) (by kernel_rfl) (fun _ _ _ h => h) (Or.inl ⟨by rfl, ?_⟩) (by assumption) ?_
    rotate_left
    focus (intro w hSw; (try dsimp only at hSw); first | (go_simp; done) | (go_simp; with_reducible rfl))
    (try simp only [Act.put, List.setIfInBounds_toArray, List.set_cons_zero, List.set_cons_succ])
    obtain ⟨x0, x1, x2, hm0⟩ := h0.m
    have hS := h0.store (SN 5000) (SN (5000 + m + g)) (-1)
    have hW := hm0.set (SN 5000) (SN (5000 + m + g)) (-1)
    have hBF := hS.l
    obtain ⟨m0, m1, m2, fr, lt⟩ := hm0
    refine wpAnyH_ready (rs := [17]) (by kernel_rfl) (by simp) ?_
    refine AllReadyH.cons (o := { dst := none, op := _, type := _, pos := _, after := _, guard := _ }) rfl (fun K hK => ?_) AllReadyH.nil
    go_simp
    refine hK.out _ _ hS (fun h10 => ?_)
    clear hK K
    (try simp only [Act.put, List.setIfInBounds_toArray, List.set_cons_zero, List.set_cons_succ])
    refine wpAnyH_take (i := 18) (oi := { dst := some 3, op := _, type := _, pos := _, after := _, guard := _ }) (v := ?_) rfl (by kernel_rfl) (by kernel_rfl) (by kernel_rfl) (fun _ _ _ h => h) (Or.inl ⟨by rfl, ?_⟩) (by assumption) ?_
    rotate_left
    focus (intro w hSw; (try dsimp only at hSw); first | (go_simp; done) | (go_simp; with_reducible rfl))
    (try simp only [Act.put, List.setIfInBounds_toArray, List.set_cons_zero, List.set_cons_succ])
    refine wpAnyH_take (i := 19) (oi := { dst := some 4, op := _, type := _, pos := _, after := _, guard := _ }) (v := ?_) rfl (by kernel_rfl) (by kernel_rfl) (by kernel_rfl) (fun _ _ _ h => h) (Or.inl ⟨by rfl, ?_⟩) (by assumption) ?_
    rotate_left
    focus (intro w hSw; (try dsimp only at hSw); first | (go_simp; done) | (go_simp; with_reducible rfl))
    (try simp only [Act.put, List.setIfInBounds_toArray, List.set_cons_zero, List.set_cons_succ])
    refine wpAnyH_take (i := 20) (oi := { dst := some 5, op := _, type := _, pos := _, after := _, guard := _ }) (v := ?_) rfl (by kernel_rfl) (by kernel_rfl) (by kernel_rfl) (fun _ _ _ h => h) (Or.inl ⟨by rfl, ?_⟩) (by assumption) ?_
    rotate_left
    focus (intro w hSw; (try dsimp only at hSw); first | (go_simp; done) | (go_simp; with_reducible rfl))
    (try simp only [Act.put, List.setIfInBounds_toArray, List.set_cons_zero, List.set_cons_succ])
    refine wpAnyH_done (by kernel_rfl) ?_ _
    (try simp only [Exit.then])
    clear m0 m1 m2 fr lt hS h10 h0
    generalize (((W5.setCell ⟨w.heap.size + 1, 0, none⟩ (.int .i64 (SN 5000))).setCell ⟨w.heap.size + 1, 1, none⟩ (.int .i64 (SN (5000 + m + g)))).setCell ⟨w.heap.size + 1, 2, none⟩ (.int .i64 (-1))) = WF at *
    obtain ⟨r0, r1, r2, _, _⟩ := hW
    go_wp2_with fail
    refine bodyPost_ret (v := .tuple #[tmV (SN 5000) (SN (5000 + m + g)) (-1), .int .i64 (SN (5000 + m + g + y)), .int .i64 (5000 + m + g + y - (5000 + m)), .bool true]) (by simp [results, Tryz.results20, go_sem, r0, r1, r2]; exact Go.IntWalk.i64_in _ (by omega)) rfl ?_
    exact ⟨rfl, hBF⟩
end Go.Proofs.YtieolalohindgaaGreatDoor

/- What Stored and Fields return, with the list that they make; lists that lie apart from a block. -/
namespace Go.Proofs.YtieolalohindgaaGreatDoor
open Go.RowKit

/-- The value reads as the fields ps, and does not lie in the block P. -/
def FarQ (P : Nat) (w : World) (v : Value) (ps : Flds) : Prop :=
  ∃ ao cap, v = .slice ao ps.length cap ∧ ∀ j p, ps[j]? = some p → ∃ g off, ao = some ⟨g, off, none⟩ ∧ g ≠ P ∧ g < w.heap.size ∧ w.cell? ⟨g, off + j * 2, none⟩ = some (.string (strB p.1)) ∧ w.cell? ⟨g, off + j * 2 + 1, none⟩ = some (.string (strB p.2))
theorem FarQ.q {P : Nat} {w : World} {v : Value} {ps : Flds} (h : FarQ P w v ps) : ReadsQ w v ps := by
  obtain ⟨ao, cap, hv, hc⟩ := h
  refine ⟨ao, cap, hv, fun j p hp => ?_⟩
  obtain ⟨g, off, h1, _, h2, h3, h4⟩ := hc j p hp
  exact ⟨g, off, h1, h2, h3, h4⟩
theorem FarQ.below {P : Nat} {w w' : World} {v : Value} {ps : Flds} (h : FarQ P w v ps) (hb : Below w.heap.size w w') : FarQ P w' v ps := by
  obtain ⟨ao, cap, hv, hc⟩ := h
  refine ⟨ao, cap, hv, fun j p hp => ?_⟩
  obtain ⟨g, off, h1, hn, h2, h3, h4⟩ := hc j p hp
  exact ⟨g, off, h1, hn, Nat.lt_of_lt_of_le h2 hb.size, (hb.cell (p := ⟨g, off + j * 2, none⟩) h2).trans h3, (hb.cell (p := ⟨g, off + j * 2 + 1, none⟩) h2).trans h4⟩
theorem FarQ.set {P : Nat} {w w' : World} {v : Value} {ps : Flds} (h : FarQ P w v ps) (hb : Only (· = P) w w') : FarQ P w' v ps := by
  obtain ⟨ao, cap, hv, hc⟩ := h
  refine ⟨ao, cap, hv, fun j p hp => ?_⟩
  obtain ⟨g, off, h1, hn, h2, h3, h4⟩ := hc j p hp
  exact ⟨g, off, h1, hn, Nat.lt_of_lt_of_le h2 hb.size, (hb.cell (p := ⟨g, off + j * 2, none⟩) h2 hn).trans h3, (hb.cell (p := ⟨g, off + j * 2 + 1, none⟩) h2 hn).trans h4⟩
theorem FarQ.set2 {P M : Nat} {w w' : World} {v : Value} {ps : Flds} (h : FarQ P w v ps) (g : FarQ M w v ps) (hb : Only (· = M) w w') : FarQ P w' v ps := by
  obtain ⟨ao, cap, hv, hc⟩ := h
  obtain ⟨ao', cap', hv', hc'⟩ := g
  rw [hv] at hv'
  cases hv'
  refine ⟨ao, cap, hv, fun j p hp => ?_⟩
  obtain ⟨g, off, h1, hn, h2, h3, h4⟩ := hc j p hp
  obtain ⟨g', off', h1', hn', _⟩ := hc' j p hp
  rw [h1] at h1'
  cases h1'
  exact ⟨g, off, h1, hn, Nat.lt_of_lt_of_le h2 hb.size, (hb.cell (p := ⟨g, off + j * 2, none⟩) h2 hn').trans h3, (hb.cell (p := ⟨g, off + j * 2 + 1, none⟩) h2 hn').trans h4⟩
/-- A list that was there before the block. -/
theorem farQ_new {P : Nat} {w : World} {v : Value} {ps : Flds} (h : ReadsQ w v ps) (hP : w.heap.size ≤ P) : FarQ P w v ps := by
  obtain ⟨ao, cap, hv, hc⟩ := h
  refine ⟨ao, cap, hv, fun j p hp => ?_⟩
  obtain ⟨g, off, h1, h2, h3, h4⟩ := hc j p hp
  exact ⟨g, off, h1, by omega, h2, h3, h4⟩
/-- A list that the call made, after the block. -/
theorem farQ_own {T : TypeId} {P B : Nat} {w : World} {v : Value} {ps : Flds} (h : OwnsP T B w v ps) (hP : P < B) : FarQ P w v ps := by
  have hq := h.q
  obtain ⟨ao, cap, hv, hc⟩ := hq
  refine ⟨ao, cap, hv, fun j p hp => ?_⟩
  obtain ⟨g, off, h1, h2, h3, h4⟩ := hc j p hp
  refine ⟨g, off, h1, ?_, h2, h3, h4⟩
  rcases h with ⟨hl, ⟨hv', hn⟩ | ⟨g', cap', cur, hv', hx⟩⟩
  · have hl0 : ps = [] := List.length_eq_zero_iff.mp hn
    rw [hl0] at hp
    simp at hp
  · rw [hv, h1] at hv'
    injection hv' with e1 _ _
    injection e1 with e2
    injection e2 with e3 _ _
    have := hx.1
    omega
set_option maxHeartbeats 4000000 in
set_option maxRecDepth 100000 in
theorem stored_own_any (st : Int) (fv : Value) (ps : Flds) (s r a : Int) (b : Bool) (w : World) (hr : ReadsQ w fv ps) (hf : FitL ps) :
    Calls Tryz.prog 13 #[stV st fv s r a b] w fun e w' => ∃ v B, e = .returned (stV st v s r a b) ∧ w.heap.size ≤ B ∧ OwnsP 72 B w' v ps ∧ Below w.heap.size w w' := by
  have HF := Lib.hid (fun (w : World) (hr : ReadsQ w fv ps) => fields_any fv ps w hr hf.len hf.each6)
  have HTm := Lib.hid (fun (w : World) => times_any s r a w)
  have hZ := StB.new (w.alloc (.cells (stC st fv s r a b) 26)) 0 (.slice none 0 0) 0 0 0 false 38
  have e1 : (w.alloc (.cells (stC st fv s r a b) 26)).heap.size = w.heap.size + 1 := by simp
  rw [e1] at hZ
  have HS := Lib.hid (SdS.mk (w := w) ((StB.new w st fv s r a b 26).below (below_new _ (.cells (stC 0 (.slice none 0 0) 0 0 0 false) 38))) ⟨_, _, _, _, _, _, hZ⟩ ((below_new w (.cells (stC st fv s r a b) 26)).alloc (by simp) (.cells (stC 0 (.slice none 0 0) 0 0 0 false) 38)) (Nat.le_succ _))
  have HR := Lib.hid hr
  clear e1 hZ hr hf
  go_enter Tryz.func13, Tryz.ntmps13
  go_upto_region 1 with fail
  change Code.wp _ _ _ _ ((w.alloc (.cells (stC st fv s r a b) 26)).alloc (.cells (stC 0 (.slice none 0 0) 0 0 0 false) 38))
  generalize ((w.alloc (.cells (stC st fv s r a b) 26)).alloc (.cells (stC 0 (.slice none 0 0) 0 0 0 false) 38)) = W at *
  have hS := HS.out
  have hSd := sdS_all (hS.below (Below.refl W.heap.size W).drew)
  refine wp_region_held_drew (S := fun w' => w'.cell? ⟨w.heap.size, 0, none⟩ = some (.int .i64 st) ∧ w'.cell? ⟨w.heap.size, 1, none⟩ = some (fv) ∧ w'.cell? ⟨w.heap.size, 2, none⟩ = some (.int .i64 s) ∧ w'.cell? ⟨w.heap.size, 3, none⟩ = some (.int .i64 r) ∧ w'.cell? ⟨w.heap.size, 4, none⟩ = some (.int .i64 a) ∧ w'.cell? ⟨w.heap.size, 5, none⟩ = some (.bool b) ∧ SdS w.heap.size (w.heap.size + 1) st fv s r a b w w') (by kernel_rfl) (hSd) (fun h0 => ?_)
  refine wpAnyH_take (i := 0) (oi := { dst := some 3, op := _, type := _, pos := _, after := _, guard := _ }) (v := ?_) rfl (by kernel_rfl) (by kernel_rfl) (by kernel_rfl) (fun _ _ _ h => h) (Or.inl ⟨by rfl, ?_⟩) (by assumption) ?_
  rotate_left
  focus (intro w hSw; (try dsimp only at hSw); first | (go_simp; done) | (go_simp; with_reducible rfl))
  (try simp only [Act.put, List.setIfInBounds_toArray, List.set_cons_zero, List.set_cons_succ])
  refine wpAnyH_take (i := 1) (oi := { dst := some 4, op := _, type := _, pos := _, after := _, guard := _ }) (v := ?_) rfl (by kernel_rfl) (by kernel_rfl) (by kernel_rfl) (fun _ _ _ h => h) (Or.inl ⟨by rfl, ?_⟩) (by assumption) ?_
  rotate_left
  focus (intro w hSw; (try dsimp only at hSw); first | (go_simp; done) | (go_simp; with_reducible rfl))
  (try simp only [Act.put, List.setIfInBounds_toArray, List.set_cons_zero, List.set_cons_succ])
  refine wpAnyH_take (i := 2) (oi := { dst := some 5, op := _, type := _, pos := _, after := _, guard := _ }) (v := ?_) rfl (by kernel_rfl) (by kernel_rfl) (by kernel_rfl) (fun _ _ _ h => h) (Or.inl ⟨by rfl, ?_⟩) (by assumption) ?_
  rotate_left
  focus (intro w hSw; (try dsimp only at hSw); first | (go_simp; done) | (go_simp; with_reducible rfl))
  (try simp only [Act.put, List.setIfInBounds_toArray, List.set_cons_zero, List.set_cons_succ])
  refine wpAnyH_take (i := 3) (oi := { dst := some 6, op := _, type := _, pos := _, after := _, guard := _ }) (v := ?_) rfl (by kernel_rfl) (by kernel_rfl) (by kernel_rfl) (fun _ _ _ h => h) (Or.inl ⟨by rfl, ?_⟩) (by assumption) ?_
  rotate_left
  focus (intro w hSw; (try dsimp only at hSw); first | (go_simp; done) | (go_simp; with_reducible rfl))
  (try simp only [Act.put, List.setIfInBounds_toArray, List.set_cons_zero, List.set_cons_succ])
  refine wpAnyH_take (i := 5) (oi := { dst := some 8, op := _, type := _, pos := _, after := _, guard := _ }) (v := ?_) rfl (by kernel_rfl) (by kernel_rfl) (by kernel_rfl) (fun _ _ _ h => h) (Or.inl ⟨by rfl, ?_⟩) (by assumption) ?_
  rotate_left
  focus (intro w hSw; (try dsimp only at hSw); first | (go_simp; done) | (go_simp; with_reducible rfl))
  (try simp only [Act.put, List.setIfInBounds_toArray, List.set_cons_zero, List.set_cons_succ])
  refine wpAnyH_take (i := 6) (oi := { dst := some 9, op := _, type := _, pos := _, after := _, guard := _ }) (v := ?_) rfl (by kernel_rfl) (by kernel_rfl) (by kernel_rfl) (fun _ _ _ h => h) (Or.inl ⟨by rfl, ?_⟩) (by assumption) ?_
  rotate_left
  focus (intro w hSw; (try dsimp only at hSw); first | (go_simp; done) | (go_simp; with_reducible rfl))
  (try simp only [Act.put, List.setIfInBounds_toArray, List.set_cons_zero, List.set_cons_succ])
  refine wpAnyH_take (i := 8) (oi := { dst := some 11, op := _, type := _, pos := _, after := _, guard := _ }) (v := ?_) rfl (by kernel_rfl) (by kernel_rfl) (by kernel_rfl) (fun _ _ _ h => h) (Or.inl ⟨by rfl, ?_⟩) (by assumption) ?_
  rotate_left
  focus (intro w hSw; (try dsimp only at hSw); first | (go_simp; done) | (go_simp; with_reducible rfl))
  (try simp only [Act.put, List.setIfInBounds_toArray, List.set_cons_zero, List.set_cons_succ])
  refine wpAnyH_take (i := 9) (oi := { dst := some 12, op := _, type := _, pos := _, after := _, guard := _ }) (v := ?_) rfl (by kernel_rfl) (by kernel_rfl) (by kernel_rfl) (fun _ _ _ h => h) (Or.inl ⟨by rfl, ?_⟩) (by assumption) ?_
  rotate_left
  focus (intro w hSw; (try dsimp only at hSw); first | (go_simp; done) | (go_simp; with_reducible rfl))
  (try simp only [Act.put, List.setIfInBounds_toArray, List.set_cons_zero, List.set_cons_succ])
  refine wpAnyH_ready (rs := [4]) (by kernel_rfl) (by simp) ?_
  refine AllReadyH.cons (o := { dst := some 7, op := _, type := _, pos := _, after := _, guard := _ }) rfl (fun K hK => ?_) AllReadyH.nil
  go_simp
  refine (HF.out _ (HR.out.below h0.2.2.2.2.2.2.l)).mono ?_
  rintro e w5 ⟨v, rfl, hO, hB5⟩
  have h5 := sdS_all (SdS.below h0.2.2.2.2.2.2 hB5)
  have hM := h0.2.2.2.2.2.2.m.elim fun t h1 => h1.elim fun f h2 => h2.elim fun x h3 => h3.elim fun y h4 => h4.elim fun z h5 => h5.elim fun u h6 => h6.lt
  obtain ⟨fa, fc, hv, _⟩ := hO.q
  subst hv
  refine hK.out _ _ (h5) (fun h6 => ?_)
  clear hK K 
  (try simp only [Act.put, List.setIfInBounds_toArray, List.set_cons_zero, List.set_cons_succ])
  refine wpAnyH_ready (rs := [7]) (by kernel_rfl) (by simp) ?_
  refine AllReadyH.cons (o := { dst := some 10, op := _, type := _, pos := _, after := _, guard := _ }) rfl (fun K hK => ?_) AllReadyH.nil
  go_simp
  refine (HTm.out _).mono ?_
  rintro e w6 ⟨rfl, hG6⟩
  have h7 := sdS_all (SdS.below h6.2.2.2.2.2.2 hG6.below)
  have hO6 := OwnsP.below hO hG6.below
  refine hK.out _ _ (h7) (fun h8 => ?_)
  clear hK K 
  (try simp only [Act.put, List.setIfInBounds_toArray, List.set_cons_zero, List.set_cons_succ])
  refine wpAnyH_take (i := 10) (oi := { dst := some 13, op := _, type := _, pos := _, after := _, guard := _ }) (v := ?_) rfl (by kernel_rfl) (by kernel_rfl) (by kernel_rfl) (fun _ _ _ h => h) (Or.inl ⟨by rfl, ?_⟩) (by assumption) ?_
  rotate_left
  focus (intro w hSw; (try dsimp only at hSw); first | (go_simp; done) | (go_simp; with_reducible rfl))
  (try simp only [Act.put, List.setIfInBounds_toArray, List.set_cons_zero, List.set_cons_succ])
  have hO7 := poOwn_other (j := 5) (poOwn_other (j := 4) (poOwn_other (j := 3) (poOwn_other (j := 2) (poOwn_other (j := 1) (poOwn_other (j := 0) hO6 hM (.int .i64 st)) hM (.slice fa ps.length fc)) hM (.int .i64 s)) hM (.int .i64 r)) hM (.int .i64 a)) hM (.bool b)
  have h9 := sdS_all (SdS.store h8.2.2.2.2.2.2 (by omega) (.slice fa ps.length fc))
  have hBF := h9.2.2.2.2.2.2.l
  obtain ⟨_, _, _, _, _, _, hm⟩ := h8.2.2.2.2.2.2.m
  have hW := hm.set st (.slice fa ps.length fc) s r a b
  obtain ⟨m0, m1, m2, m3, m4, m5, fr, lt⟩ := hm
  refine wpAnyH_ready (rs := [11]) (by kernel_rfl) (by simp) ?_
  refine AllReadyH.cons (o := { dst := none, op := _, type := _, pos := _, after := _, guard := _ }) rfl (fun K hK => ?_) AllReadyH.nil
  go_simp
  refine hK.out _ _ h9 (fun h10 => ?_)
  clear hK K
  (try simp only [Act.put, List.setIfInBounds_toArray, List.set_cons_zero, List.set_cons_succ])
  refine wpAnyH_done (by kernel_rfl) ?_ _
  (try simp only [Exit.then])
  clear m0 m1 m2 m3 m4 m5 fr lt h9 h10 h8 h7 h6 h5 h0 hSd hS
  generalize (((((((w6).setCell ⟨w.heap.size + 1, 0, none⟩ (.int .i64 st)).setCell ⟨w.heap.size + 1, 1, none⟩ (.slice fa ps.length fc)).setCell ⟨w.heap.size + 1, 2, none⟩ (.int .i64 s)).setCell ⟨w.heap.size + 1, 3, none⟩ (.int .i64 r)).setCell ⟨w.heap.size + 1, 4, none⟩ (.int .i64 a)).setCell ⟨w.heap.size + 1, 5, none⟩ (.bool b)) = WF at *
  obtain ⟨r0, r1, r2, r3, r4, r5, _, _⟩ := hW
  go_wp2_with fail
  refine bodyPost_ret (v := stV st (.slice fa ps.length fc) s r a b) (by simp [results, Tryz.results13, go_sem, r0, r1, r2, r3, r4, r5]) rfl ?_
  exact ⟨_, _, rfl, by omega, hO7, hBF⟩
end Go.Proofs.YtieolalohindgaaGreatDoor
