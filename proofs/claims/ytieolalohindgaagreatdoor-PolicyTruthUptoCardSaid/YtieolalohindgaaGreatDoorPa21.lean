import Derived.Test.YtieolalohindgaaGreatDoorPa6
import Derived.Test.YtieolalohindgaaGreatDoorPa7
import Derived.Test.YtieolalohindgaaGreatDoorPa42
import Derived.Test.YtieolalohindgaaGreatDoorPa20
import Derived.Test.YtieolalohindgaaGreatDoorPa19
import Derived.Deep.RegionHeld3
/- A stored response and the terms of serving it in memory. -/
namespace Go.Proofs.YtieolalohindgaaGreatDoor
open Go.RowKit

abbrev stV (st : Int) (fv : Value) (s r a : Int) (b : Bool) : Value := .agg #[.int .i64 st, fv, .int .i64 s, .int .i64 r, .int .i64 a, .bool b]
abbrev stC (st : Int) (fv : Value) (s r a : Int) (b : Bool) : Array Value := #[.int .i64 st, fv, .int .i64 s, .int .i64 r, .int .i64 a, .bool b]
abbrev teV (d : Dv) (x y z : Int) : Value := .agg #[.bool d.ns, .bool d.nc, .bool d.pr, .bool d.pu, .bool d.mr, .bool d.oc, .int .i64 d.ma, .int .i64 d.sa, .int .i64 d.ws, .int .i64 d.oe, .int .i64 d.ms, .int .i64 d.mf, .int .i64 x, .int .i64 y, .int .i64 z]
abbrev teC (d : Dv) (x y z : Int) : Array Value := #[.bool d.ns, .bool d.nc, .bool d.pr, .bool d.pu, .bool d.mr, .bool d.oc, .int .i64 d.ma, .int .i64 d.sa, .int .i64 d.ws, .int .i64 d.oe, .int .i64 d.ms, .int .i64 d.mf, .int .i64 x, .int .i64 y, .int .i64 z]
/-- A block that holds a stored response. -/
structure StB (N : Nat) (w : World) (st : Int) (fv : Value) (s : Int) (r : Int) (a : Int) (b : Bool) : Prop where
  c0 : w.cell? ⟨N, 0, none⟩ = some (.int .i64 st)
  c1 : w.cell? ⟨N, 1, none⟩ = some (fv)
  c2 : w.cell? ⟨N, 2, none⟩ = some (.int .i64 s)
  c3 : w.cell? ⟨N, 3, none⟩ = some (.int .i64 r)
  c4 : w.cell? ⟨N, 4, none⟩ = some (.int .i64 a)
  c5 : w.cell? ⟨N, 5, none⟩ = some (.bool b)
  fr : ∀ j, w.frozen? ⟨N, j, none⟩ = false
  lt : N < w.heap.size
theorem StB.below {N : Nat} {w w' : World} {st : Int} {fv : Value} {s : Int} {r : Int} {a : Int} {b : Bool} (h : StB N w st fv s r a b) (hb : Below w.heap.size w w') : StB N w' st fv s r a b :=
  ⟨(hb.cell (p := ⟨N, 0, none⟩) h.lt).trans h.c0, (hb.cell (p := ⟨N, 1, none⟩) h.lt).trans h.c1, (hb.cell (p := ⟨N, 2, none⟩) h.lt).trans h.c2, (hb.cell (p := ⟨N, 3, none⟩) h.lt).trans h.c3, (hb.cell (p := ⟨N, 4, none⟩) h.lt).trans h.c4, (hb.cell (p := ⟨N, 5, none⟩) h.lt).trans h.c5, fun j => (hb.frozen (p := ⟨N, j, none⟩) h.lt).trans (h.fr j), Nat.lt_of_lt_of_le h.lt hb.size⟩
theorem StB.only {X : Nat → Prop} {N : Nat} {w w' : World} {st : Int} {fv : Value} {s : Int} {r : Int} {a : Int} {b : Bool} (h : StB N w st fv s r a b) (hb : Only X w w') (hx : ¬ X N) : StB N w' st fv s r a b :=
  ⟨(hb.cell (p := ⟨N, 0, none⟩) h.lt hx).trans h.c0, (hb.cell (p := ⟨N, 1, none⟩) h.lt hx).trans h.c1, (hb.cell (p := ⟨N, 2, none⟩) h.lt hx).trans h.c2, (hb.cell (p := ⟨N, 3, none⟩) h.lt hx).trans h.c3, (hb.cell (p := ⟨N, 4, none⟩) h.lt hx).trans h.c4, (hb.cell (p := ⟨N, 5, none⟩) h.lt hx).trans h.c5, fun j => (hb.frozen (p := ⟨N, j, none⟩) h.lt hx).trans (h.fr j), Nat.lt_of_lt_of_le h.lt hb.size⟩
theorem StB.new (w : World) (st : Int) (fv : Value) (s : Int) (r : Int) (a : Int) (b : Bool) (T : TypeId) : StB w.heap.size (w.alloc (.cells #[.int .i64 st, fv, .int .i64 s, .int .i64 r, .int .i64 a, .bool b] T)) st fv s r a b :=
  ⟨by rw [World.cell?_alloc_at _ _ _ _ rfl]; rfl, by rw [World.cell?_alloc_at _ _ _ _ rfl]; rfl, by rw [World.cell?_alloc_at _ _ _ _ rfl]; rfl, by rw [World.cell?_alloc_at _ _ _ _ rfl]; rfl, by rw [World.cell?_alloc_at _ _ _ _ rfl]; rfl, by rw [World.cell?_alloc_at _ _ _ _ rfl]; rfl, fun j => World.frozen?_alloc_new _ _ _ _, by simp⟩
/-- A block that holds terms. -/
structure TeB (N : Nat) (w : World) (d : Dv) (x : Int) (y : Int) (z : Int) : Prop where
  c0 : w.cell? ⟨N, 0, none⟩ = some (.bool d.ns)
  c1 : w.cell? ⟨N, 1, none⟩ = some (.bool d.nc)
  c2 : w.cell? ⟨N, 2, none⟩ = some (.bool d.pr)
  c3 : w.cell? ⟨N, 3, none⟩ = some (.bool d.pu)
  c4 : w.cell? ⟨N, 4, none⟩ = some (.bool d.mr)
  c5 : w.cell? ⟨N, 5, none⟩ = some (.bool d.oc)
  c6 : w.cell? ⟨N, 6, none⟩ = some (.int .i64 d.ma)
  c7 : w.cell? ⟨N, 7, none⟩ = some (.int .i64 d.sa)
  c8 : w.cell? ⟨N, 8, none⟩ = some (.int .i64 d.ws)
  c9 : w.cell? ⟨N, 9, none⟩ = some (.int .i64 d.oe)
  c10 : w.cell? ⟨N, 10, none⟩ = some (.int .i64 d.ms)
  c11 : w.cell? ⟨N, 11, none⟩ = some (.int .i64 d.mf)
  c12 : w.cell? ⟨N, 12, none⟩ = some (.int .i64 x)
  c13 : w.cell? ⟨N, 13, none⟩ = some (.int .i64 y)
  c14 : w.cell? ⟨N, 14, none⟩ = some (.int .i64 z)
  fr : ∀ j, w.frozen? ⟨N, j, none⟩ = false
  lt : N < w.heap.size
theorem TeB.below {N : Nat} {w w' : World} {d : Dv} {x : Int} {y : Int} {z : Int} (h : TeB N w d x y z) (hb : Below w.heap.size w w') : TeB N w' d x y z :=
  ⟨(hb.cell (p := ⟨N, 0, none⟩) h.lt).trans h.c0, (hb.cell (p := ⟨N, 1, none⟩) h.lt).trans h.c1, (hb.cell (p := ⟨N, 2, none⟩) h.lt).trans h.c2, (hb.cell (p := ⟨N, 3, none⟩) h.lt).trans h.c3, (hb.cell (p := ⟨N, 4, none⟩) h.lt).trans h.c4, (hb.cell (p := ⟨N, 5, none⟩) h.lt).trans h.c5, (hb.cell (p := ⟨N, 6, none⟩) h.lt).trans h.c6, (hb.cell (p := ⟨N, 7, none⟩) h.lt).trans h.c7, (hb.cell (p := ⟨N, 8, none⟩) h.lt).trans h.c8, (hb.cell (p := ⟨N, 9, none⟩) h.lt).trans h.c9, (hb.cell (p := ⟨N, 10, none⟩) h.lt).trans h.c10, (hb.cell (p := ⟨N, 11, none⟩) h.lt).trans h.c11, (hb.cell (p := ⟨N, 12, none⟩) h.lt).trans h.c12, (hb.cell (p := ⟨N, 13, none⟩) h.lt).trans h.c13, (hb.cell (p := ⟨N, 14, none⟩) h.lt).trans h.c14, fun j => (hb.frozen (p := ⟨N, j, none⟩) h.lt).trans (h.fr j), Nat.lt_of_lt_of_le h.lt hb.size⟩
theorem TeB.only {X : Nat → Prop} {N : Nat} {w w' : World} {d : Dv} {x : Int} {y : Int} {z : Int} (h : TeB N w d x y z) (hb : Only X w w') (hx : ¬ X N) : TeB N w' d x y z :=
  ⟨(hb.cell (p := ⟨N, 0, none⟩) h.lt hx).trans h.c0, (hb.cell (p := ⟨N, 1, none⟩) h.lt hx).trans h.c1, (hb.cell (p := ⟨N, 2, none⟩) h.lt hx).trans h.c2, (hb.cell (p := ⟨N, 3, none⟩) h.lt hx).trans h.c3, (hb.cell (p := ⟨N, 4, none⟩) h.lt hx).trans h.c4, (hb.cell (p := ⟨N, 5, none⟩) h.lt hx).trans h.c5, (hb.cell (p := ⟨N, 6, none⟩) h.lt hx).trans h.c6, (hb.cell (p := ⟨N, 7, none⟩) h.lt hx).trans h.c7, (hb.cell (p := ⟨N, 8, none⟩) h.lt hx).trans h.c8, (hb.cell (p := ⟨N, 9, none⟩) h.lt hx).trans h.c9, (hb.cell (p := ⟨N, 10, none⟩) h.lt hx).trans h.c10, (hb.cell (p := ⟨N, 11, none⟩) h.lt hx).trans h.c11, (hb.cell (p := ⟨N, 12, none⟩) h.lt hx).trans h.c12, (hb.cell (p := ⟨N, 13, none⟩) h.lt hx).trans h.c13, (hb.cell (p := ⟨N, 14, none⟩) h.lt hx).trans h.c14, fun j => (hb.frozen (p := ⟨N, j, none⟩) h.lt hx).trans (h.fr j), Nat.lt_of_lt_of_le h.lt hb.size⟩
theorem TeB.new (w : World) (d : Dv) (x : Int) (y : Int) (z : Int) (T : TypeId) : TeB w.heap.size (w.alloc (.cells #[.bool d.ns, .bool d.nc, .bool d.pr, .bool d.pu, .bool d.mr, .bool d.oc, .int .i64 d.ma, .int .i64 d.sa, .int .i64 d.ws, .int .i64 d.oe, .int .i64 d.ms, .int .i64 d.mf, .int .i64 x, .int .i64 y, .int .i64 z] T)) d x y z :=
  ⟨by rw [World.cell?_alloc_at _ _ _ _ rfl]; rfl, by rw [World.cell?_alloc_at _ _ _ _ rfl]; rfl, by rw [World.cell?_alloc_at _ _ _ _ rfl]; rfl, by rw [World.cell?_alloc_at _ _ _ _ rfl]; rfl, by rw [World.cell?_alloc_at _ _ _ _ rfl]; rfl, by rw [World.cell?_alloc_at _ _ _ _ rfl]; rfl, by rw [World.cell?_alloc_at _ _ _ _ rfl]; rfl, by rw [World.cell?_alloc_at _ _ _ _ rfl]; rfl, by rw [World.cell?_alloc_at _ _ _ _ rfl]; rfl, by rw [World.cell?_alloc_at _ _ _ _ rfl]; rfl, by rw [World.cell?_alloc_at _ _ _ _ rfl]; rfl, by rw [World.cell?_alloc_at _ _ _ _ rfl]; rfl, by rw [World.cell?_alloc_at _ _ _ _ rfl]; rfl, by rw [World.cell?_alloc_at _ _ _ _ rfl]; rfl, by rw [World.cell?_alloc_at _ _ _ _ rfl]; rfl, fun j => World.frozen?_alloc_new _ _ _ _, by simp⟩
end Go.Proofs.YtieolalohindgaaGreatDoor

/- What termsOf returns: the directives, the lifetime and the allowances of a stored response. -/
namespace Go.Proofs.YtieolalohindgaaGreatDoor
open Go.RowKit

theorem below_te {B N : Nat} {w w1 : World} (hB : Below B w w1) (hN : B ≤ N) (v0 v1 v2 v3 v4 v5 v6 v7 v8 v9 v10 v11 v12 v13 v14 : Value) : Below B w ((((((((((((((((w1).setCell ⟨N, 0, none⟩ v0).setCell ⟨N, 1, none⟩ v1).setCell ⟨N, 2, none⟩ v2).setCell ⟨N, 3, none⟩ v3).setCell ⟨N, 4, none⟩ v4).setCell ⟨N, 5, none⟩ v5).setCell ⟨N, 6, none⟩ v6).setCell ⟨N, 7, none⟩ v7).setCell ⟨N, 8, none⟩ v8).setCell ⟨N, 9, none⟩ v9).setCell ⟨N, 10, none⟩ v10).setCell ⟨N, 11, none⟩ v11).setCell ⟨N, 12, none⟩ v12).setCell ⟨N, 13, none⟩ v13).setCell ⟨N, 14, none⟩ v14) :=
  (((((((((((((((hB).setCell (p := ⟨N, 0, none⟩) hN _).setCell (p := ⟨N, 1, none⟩) hN _).setCell (p := ⟨N, 2, none⟩) hN _).setCell (p := ⟨N, 3, none⟩) hN _).setCell (p := ⟨N, 4, none⟩) hN _).setCell (p := ⟨N, 5, none⟩) hN _).setCell (p := ⟨N, 6, none⟩) hN _).setCell (p := ⟨N, 7, none⟩) hN _).setCell (p := ⟨N, 8, none⟩) hN _).setCell (p := ⟨N, 9, none⟩) hN _).setCell (p := ⟨N, 10, none⟩) hN _).setCell (p := ⟨N, 11, none⟩) hN _).setCell (p := ⟨N, 12, none⟩) hN _).setCell (p := ⟨N, 13, none⟩) hN _).setCell (p := ⟨N, 14, none⟩) hN _
def zT : Dv := ⟨false, false, false, false, false, false, 0, 0, 0, 0, 0, 0⟩
/-- The lifetime of a response. -/
def lifV (st : Int) (ps : Flds) (dd de dl : Option Nat) : Int := (ofV st (parseD (allL ps nCC)) (hasF ps nEX) dd de dl).1
def whiV (ps : Flds) : Int := (allowV (parseD (allL ps nCC))).1
def oneV (ps : Flds) : Int := (allowV (parseD (allL ps nCC))).2
/-- What is asked of the fields and of the dates in them. -/
structure FldP (ps : Flds) (dd de dl : Option Nat) : Prop where
  fit : FitL ps
  d : DatF ps nDA dd
  e : DatF ps nEX de
  l : DatF ps nLM dl
theorem fldP_ex {ps : Flds} (h : FitL ps) : ∃ dd de dl, FldP ps dd de dl := by
  obtain ⟨dd, hd⟩ := oneIs_ex (allL ps nDA)
  obtain ⟨de, he⟩ := oneIs_ex (allL ps nEX)
  obtain ⟨dl, hl⟩ := oneIs_ex (allL ps nLM)
  exact ⟨dd, de, dl, h, hd, he, hl⟩
theorem lifV_bd {ps : Flds} {dd de dl : Option Nat} (h : FldP ps dd de dl) (st : Int) : 0 ≤ lifV st ps dd de dl ∧ lifV st ps dd de dl ≤ 253402300799000 :=
  life_bd (nor_parse _) _ (fun k hk => by subst hk; exact oneIs_le h.d) (fun k hk => by subst hk; exact oneIs_le h.e) st dl
theorem whiV_bd (ps : Flds) : 0 ≤ whiV ps ∧ whiV ps ≤ 2147483647000 := (allow_bd (nor_parse _)).1
theorem oneV_bd (ps : Flds) : 0 ≤ oneV ps ∧ oneV ps ≤ 2147483647000 := (allow_bd (nor_parse _)).2
set_option maxHeartbeats 4000000 in
set_option maxRecDepth 100000 in
theorem terms_any (st : Int) (fv : Value) (ps : Flds) (s r a : Int) (b : Bool) (dd de dl : Option Nat) (w : World) (hr : ReadsQ w fv ps) (hf : FldP ps dd de dl) (hE : EnvL w) :
    Calls Tryz.prog 31 #[stV st fv s r a b] w fun e w' => e = .returned (teV (parseD (allL ps nCC)) (lifV st ps dd de dl) (whiV ps) (oneV ps)) ∧ Below w.heap.size w w' := by
  have HO := Lib.hid (fun (w : World) (hr : ReadsQ w fv ps) (hE : EnvL w) => lfOf_any st fv ps dd de dl w hr hf.fit hf.d hf.e hf.l hE)
  have HA := Lib.hid (fun (w : World) (hr : ReadsQ w fv ps) (hE : EnvL w) => allowance_any fv ps w hr hf.fit hE)
  have HP := Lib.hid (fun (w : World) (hr : ReadsQ w fv ps) (hE : EnvL w) => parse11_any fv ps w hr (by have := hf.fit.len; omega) hf.fit.each hE.1)
  have HE := Lib.hid hE
  have HR := Lib.hid hr
  unfold lifV whiV oneV
  generalize parseD (allL ps nCC) = D at *
  generalize hasF ps nEX = x at *
  generalize (ofV st D x dd de dl).2 = kX at *
  generalize (ofV st D x dd de dl).1 = X at *
  generalize (allowV D).1 = Y at *
  generalize (allowV D).2 = Z at *
  clear hr hf hE
  have HB := Lib.hid ((below_new w (.cells (stC st fv s r a b) 38)).alloc (by simp) (.cells (teC zT 0 0 0) 75))
  have hT := (StB.new w st fv s r a b 38).below (below_new _ (.cells (teC zT 0 0 0) 75))
  have hQ := TeB.new (w.alloc (.cells (stC st fv s r a b) 38)) zT 0 0 0 75
  have e1 : (w.alloc (.cells (stC st fv s r a b) 38)).heap.size = w.heap.size + 1 := by simp
  rw [e1] at hQ
  have HT := Lib.hid hT
  have HQ := Lib.hid hQ
  clear e1 hT hQ
  go_enter Tryz.func31, Tryz.ntmps31
  go_upto_region 1 with fail
  change Code.wp _ _ _ _ ((w.alloc (.cells (stC st fv s r a b) 38)).alloc (.cells (teC zT 0 0 0) 75))
  generalize ((w.alloc (.cells (stC st fv s r a b) 38)).alloc (.cells (teC zT 0 0 0) 75)) = W at *
  have c0 := HT.out.c0
  have c1 := HT.out.c1
  go_wp2_with fail
  refine (HO.out _ (HR.out.below HB.out) (HE.out.below HB.out)).mono ?_
  rintro e w1 ⟨rfl, hB1⟩
  have HB1 := Lib.hid (HB.out.trans (hB1.mono HB.out.size))
  have HT1 := Lib.hid (HT.out.below hB1)
  have HQ1 := Lib.hid (HQ.out.below hB1)
  clear c0 c1 hB1 HB HT HQ
  have c1 := HT1.out.c1
  go_wp2_with fail
  refine (HA.out _ (HR.out.below HB1.out) (HE.out.below HB1.out)).mono ?_
  rintro e w2 ⟨rfl, hB2⟩
  have HB2 := Lib.hid (HB1.out.trans (hB2.mono HB1.out.size))
  have HT2 := Lib.hid (HT1.out.below hB2)
  have HQ2 := Lib.hid (HQ1.out.below hB2)
  clear c1 hB2 HB1 HT1 HQ1
  have c1 := HT2.out.c1
  go_wp2_with fail
  refine (HP.out _ (HR.out.below HB2.out) (HE.out.below HB2.out)).mono ?_
  rintro e w3 ⟨rfl, hB3⟩
  have HB3 := Lib.hid (HB2.out.trans (hB3.mono HB2.out.size))
  have HQ3 := Lib.hid (HQ2.out.below hB3)
  clear c1 hB3 HB2 HT2 HQ2
  obtain ⟨c0, c1, c2, c3, c4, c5, c6, c7, c8, c9, c10, c11, c12, c13, c14, fr, lt⟩ := HQ3.out
  have HBW := Lib.hid (below_te HB3.out (Nat.le_succ _) (.bool D.ns) (.bool D.nc) (.bool D.pr) (.bool D.pu) (.bool D.mr) (.bool D.oc) (.int .i64 D.ma) (.int .i64 D.sa) (.int .i64 D.ws) (.int .i64 D.oe) (.int .i64 D.ms) (.int .i64 D.mf) (.int .i64 X) (.int .i64 Y) (.int .i64 Z))
  go_wp2_with fail
  refine bodyPost_ret (v := teV D X Y Z) (by simp [results, Tryz.results31, go_sem, c0, c1, c2, c3, c4, c5, c6, c7, c8, c9, c10, c11, c12, c13, c14]) rfl ?_
  exact ⟨rfl, HBW.out⟩
end Go.Proofs.YtieolalohindgaaGreatDoor

/- What the methods of the terms return: whether a response is young, fresh enough, may be refreshed, may be stale. -/
namespace Go.Proofs.YtieolalohindgaaGreatDoor
open Go.RowKit

set_option maxHeartbeats 1000000 in
theorem poTicks_any (n : Int) (w : World) (h1 : -1000000000000 ≤ n) (h2 : n ≤ 1000000000000) :
    Calls Tryz.prog 58 #[.int .i64 n] w fun e w' => e = .returned (.int .i64 (1000 * n)) ∧ w = w' := by
  go_enter Tryz.func58, Tryz.ntmps58
  go_wp2
  all_goals
    go_ret
    exact ⟨ret_int (Int.mul_comm _ _), rfl⟩
theorem poPresent_any (n : Int) (w : World) :
    Calls Tryz.prog 59 #[.int .i64 n] w fun e w' => e = .returned (.bool (decide (0 ≤ n))) ∧ w = w' := by
  go_enter Tryz.func59, Tryz.ntmps59
  go_wp2
  all_goals
    go_ret
    exact ⟨by first | rfl | simp, rfl⟩
def youB (q : Dv) (x t : Int) : Bool := decide (t < x) && (decide (q.ma < 0) || decide (t < 1000 * q.ma))
set_option maxHeartbeats 2000000 in
set_option maxRecDepth 100000 in
theorem young_any (d q : Dv) (x y z t : Int) (w : World) (hq : -1 ≤ q.ma ∧ q.ma ≤ 2147483647) :
    Calls Tryz.prog 57 #[teV d x y z, dvV q, .int .i64 t] w fun e w' => e = .returned (.bool (youB q x t)) ∧ Below w.heap.size w w' := by
  have HB := Lib.hid ((below_new w (.cells (teC d x y z) 75)).alloc (by simp) (.cells (dvC q) 40))
  have hT := (TeB.new w d x y z 75).below (below_new _ (.cells (dvC q) 40))
  have hQ := dvB_new (w.alloc (.cells (teC d x y z) 75)) q 40
  have e1 : (w.alloc (.cells (teC d x y z) 75)).heap.size = w.heap.size + 1 := by simp
  rw [e1] at hQ
  have HT := Lib.hid (fun W => poTicks_any q.ma W (by omega) (by omega))
  have HP := Lib.hid (fun W => poPresent_any q.ma W)
  have HV := Lib.hid (show youB q x t = (decide (t < x) && (decide (q.ma < 0) || decide (t < 1000 * q.ma))) from rfl)
  generalize youB q x t = V at *
  by_cases h1 : t < x
  · by_cases h2 : 0 ≤ q.ma
    · rw [decide_eq_true h2] at HP
      rw [decide_eq_true h1, decide_eq_false (show ¬ q.ma < 0 by omega), Bool.true_and, Bool.false_or] at HV
      generalize 1000 * q.ma = m at *
      clear h2 hq
      go_enter Tryz.func57, Tryz.ntmps57
      go_upto_region 1 with fail
      change Code.wp _ _ _ _ ((w.alloc (.cells (teC d x y z) 75)).alloc (.cells (dvC q) 40))
      generalize ((w.alloc (.cells (teC d x y z) 75)).alloc (.cells (dvC q) 40)) = W at *
      have b0 := hT.c12
      have b1 := hQ.c6
      clear hT hQ
      go_wp2_with (first | (go_at_call 59; refine (HP.out _).mono ?_; rintro e w' ⟨rfl, rfl⟩) | (go_at_call 58; refine (HT.out _).mono ?_; rintro e w' ⟨rfl, rfl⟩))
      all_goals
        go_ret
        exact ⟨retB (by first | exact HV.out.symm | (rw [HV.out]; simp [*]; done)), HB.out⟩
    · rw [decide_eq_false h2] at HP
      rw [decide_eq_true h1, decide_eq_true (show q.ma < 0 by omega), Bool.true_and, Bool.true_or] at HV
      clear h2 hq
      go_enter Tryz.func57, Tryz.ntmps57
      go_upto_region 1 with fail
      change Code.wp _ _ _ _ ((w.alloc (.cells (teC d x y z) 75)).alloc (.cells (dvC q) 40))
      generalize ((w.alloc (.cells (teC d x y z) 75)).alloc (.cells (dvC q) 40)) = W at *
      have b0 := hT.c12
      have b1 := hQ.c6
      clear hT hQ
      go_wp2_with (first | (go_at_call 59; refine (HP.out _).mono ?_; rintro e w' ⟨rfl, rfl⟩) | (go_at_call 58; refine (HT.out _).mono ?_; rintro e w' ⟨rfl, rfl⟩))
      all_goals
        go_ret
        exact ⟨retB (by first | exact HV.out.symm | (rw [HV.out]; simp [*]; done)), HB.out⟩
  · rw [decide_eq_false h1, Bool.false_and] at HV
    clear hq
    go_enter Tryz.func57, Tryz.ntmps57
    go_upto_region 1 with fail
    change Code.wp _ _ _ _ ((w.alloc (.cells (teC d x y z) 75)).alloc (.cells (dvC q) 40))
    generalize ((w.alloc (.cells (teC d x y z) 75)).alloc (.cells (dvC q) 40)) = W at *
    have b0 := hT.c12
    have b1 := hQ.c6
    clear hT hQ
    go_wp2_with (first | (go_at_call 59; refine (HP.out _).mono ?_; rintro e w' ⟨rfl, rfl⟩) | (go_at_call 58; refine (HT.out _).mono ?_; rintro e w' ⟨rfl, rfl⟩))
    all_goals
      go_ret
      exact ⟨retB (by first | exact HV.out.symm | (rw [HV.out]; simp [*]; done)), HB.out⟩
set_option maxHeartbeats 2000000 in
set_option maxRecDepth 100000 in
theorem refresh_any (d q : Dv) (x y z t : Int) (w : World) (_hq : Nor q) (hx : 0 ≤ x ∧ x ≤ 253402300799000) (hy : 0 ≤ y ∧ y ≤ 2147483647000) :
    Calls Tryz.prog 33 #[teV d x y z, dvV q, .int .i64 t] w fun e w' => e = .returned (.bool (refB q x y t)) ∧ Below w.heap.size w w' := by
  have HB := Lib.hid ((below_new w (.cells (teC d x y z) 75)).alloc (by simp) (.cells (dvC q) 40))
  have hT := (TeB.new w d x y z 75).below (below_new _ (.cells (dvC q) 40))
  have hQ := dvB_new (w.alloc (.cells (teC d x y z) 75)) q 40
  have e1 : (w.alloc (.cells (teC d x y z) 75)).heap.size = w.heap.size + 1 := by simp
  rw [e1] at hQ
  clear e1
  have HV := Lib.hid (show refB q x y t = (decide (t < x + y) && decide (q.ma < 0) && decide (q.mf < 0)) from rfl)
  have HP := Lib.hid (fun W => poPresent_any q.ma W)
  have HM := Lib.hid (fun W => poPresent_any q.mf W)
  generalize refB q x y t = V at *
  by_cases h2 : 0 ≤ q.ma
  · rw [decide_eq_true h2] at HP
    rw [decide_eq_false (show ¬ q.ma < 0 by omega)] at HV
    clear h2
    by_cases h3 : 0 ≤ q.mf
    · rw [decide_eq_true h3] at HM
      rw [decide_eq_false (show ¬ q.mf < 0 by omega)] at HV
      clear h3
      go_enter Tryz.func33, Tryz.ntmps33
      go_upto_region 1 with fail
      change Code.wp _ _ _ _ ((w.alloc (.cells (teC d x y z) 75)).alloc (.cells (dvC q) 40))
      generalize ((w.alloc (.cells (teC d x y z) 75)).alloc (.cells (dvC q) 40)) = W at *
      have b0 := hT.c12
      have b2 := hT.c13
      have b1 := hQ.c6
      have b3 := hQ.c11
      clear hT hQ
      go_wp2_with (first | (go_at_call_of 59 (Value.int .i64 q.ma); refine (HP.out _).mono ?_; rintro e w' ⟨rfl, rfl⟩) | (go_at_call_of 59 (Value.int .i64 q.mf); refine (HM.out _).mono ?_; rintro e w' ⟨rfl, rfl⟩))
      all_goals
        go_ret
        exact ⟨retB (by first | exact HV.out.symm | (rw [HV.out]; simp [*]; done)), HB.out⟩
    · rw [decide_eq_false h3] at HM
      rw [decide_eq_true (show q.mf < 0 by omega)] at HV
      clear h3
      go_enter Tryz.func33, Tryz.ntmps33
      go_upto_region 1 with fail
      change Code.wp _ _ _ _ ((w.alloc (.cells (teC d x y z) 75)).alloc (.cells (dvC q) 40))
      generalize ((w.alloc (.cells (teC d x y z) 75)).alloc (.cells (dvC q) 40)) = W at *
      have b0 := hT.c12
      have b2 := hT.c13
      have b1 := hQ.c6
      have b3 := hQ.c11
      clear hT hQ
      go_wp2_with (first | (go_at_call_of 59 (Value.int .i64 q.ma); refine (HP.out _).mono ?_; rintro e w' ⟨rfl, rfl⟩) | (go_at_call_of 59 (Value.int .i64 q.mf); refine (HM.out _).mono ?_; rintro e w' ⟨rfl, rfl⟩))
      all_goals
        go_ret
        exact ⟨retB (by first | exact HV.out.symm | (rw [HV.out]; simp [*]; done)), HB.out⟩
  · rw [decide_eq_false h2] at HP
    rw [decide_eq_true (show q.ma < 0 by omega)] at HV
    clear h2
    by_cases h3 : 0 ≤ q.mf
    · rw [decide_eq_true h3] at HM
      rw [decide_eq_false (show ¬ q.mf < 0 by omega)] at HV
      clear h3
      go_enter Tryz.func33, Tryz.ntmps33
      go_upto_region 1 with fail
      change Code.wp _ _ _ _ ((w.alloc (.cells (teC d x y z) 75)).alloc (.cells (dvC q) 40))
      generalize ((w.alloc (.cells (teC d x y z) 75)).alloc (.cells (dvC q) 40)) = W at *
      have b0 := hT.c12
      have b2 := hT.c13
      have b1 := hQ.c6
      have b3 := hQ.c11
      clear hT hQ
      go_wp2_with (first | (go_at_call_of 59 (Value.int .i64 q.ma); refine (HP.out _).mono ?_; rintro e w' ⟨rfl, rfl⟩) | (go_at_call_of 59 (Value.int .i64 q.mf); refine (HM.out _).mono ?_; rintro e w' ⟨rfl, rfl⟩))
      all_goals
        go_ret
        exact ⟨retB (by first | exact HV.out.symm | (rw [HV.out]; simp [*]; done)), HB.out⟩
    · rw [decide_eq_false h3] at HM
      rw [decide_eq_true (show q.mf < 0 by omega)] at HV
      clear h3
      go_enter Tryz.func33, Tryz.ntmps33
      go_upto_region 1 with fail
      change Code.wp _ _ _ _ ((w.alloc (.cells (teC d x y z) 75)).alloc (.cells (dvC q) 40))
      generalize ((w.alloc (.cells (teC d x y z) 75)).alloc (.cells (dvC q) 40)) = W at *
      have b0 := hT.c12
      have b2 := hT.c13
      have b1 := hQ.c6
      have b3 := hQ.c11
      clear hT hQ
      go_wp2_with (first | (go_at_call_of 59 (Value.int .i64 q.ma); refine (HP.out _).mono ?_; rintro e w' ⟨rfl, rfl⟩) | (go_at_call_of 59 (Value.int .i64 q.mf); refine (HM.out _).mono ?_; rintro e w' ⟨rfl, rfl⟩))
      all_goals
        go_ret
        exact ⟨retB (by first | exact HV.out.symm | (rw [HV.out]; simp [*]; done)), HB.out⟩
end Go.Proofs.YtieolalohindgaaGreatDoor
