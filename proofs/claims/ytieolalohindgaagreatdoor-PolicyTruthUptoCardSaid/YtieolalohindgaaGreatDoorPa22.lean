import Derived.Test.YtieolalohindgaaGreatDoorPa21
import Derived.Test.YtieolalohindgaaGreatDoorPa0
import Derived.Deep.RegionHeld3
/- What isFreshEnough and mayBeStale return. -/
namespace Go.Proofs.YtieolalohindgaaGreatDoor
open Go.RowKit

/-- Both blocks, and what else is as it was. -/
structure TqS (N M : Nat) (d q : Dv) (x y z : Int) (w w' : World) : Prop where
  a : TeB N w' d x y z
  b : DvB M w' q
  l : Below w.heap.size w w'
theorem TqS.below {N M : Nat} {d q : Dv} {x y z : Int} {w w1 w2 : World} (h : TqS N M d q x y z w w1) (hb : Below w1.heap.size w1 w2) : TqS N M d q x y z w w2 := ⟨h.a.below hb, h.b.below hb, h.l.trans (hb.mono h.l.size)⟩
theorem tqS_all {N M : Nat} {d q : Dv} {x y z : Int} {w w' : World} (h : TqS N M d q x y z w w') : w'.cell? ⟨N, 0, none⟩ = some (.bool d.ns) ∧ w'.cell? ⟨N, 1, none⟩ = some (.bool d.nc) ∧ w'.cell? ⟨N, 2, none⟩ = some (.bool d.pr) ∧ w'.cell? ⟨N, 3, none⟩ = some (.bool d.pu) ∧ w'.cell? ⟨N, 4, none⟩ = some (.bool d.mr) ∧ w'.cell? ⟨N, 5, none⟩ = some (.bool d.oc) ∧ w'.cell? ⟨N, 6, none⟩ = some (.int .i64 d.ma) ∧ w'.cell? ⟨N, 7, none⟩ = some (.int .i64 d.sa) ∧ w'.cell? ⟨N, 8, none⟩ = some (.int .i64 d.ws) ∧ w'.cell? ⟨N, 9, none⟩ = some (.int .i64 d.oe) ∧ w'.cell? ⟨N, 10, none⟩ = some (.int .i64 d.ms) ∧ w'.cell? ⟨N, 11, none⟩ = some (.int .i64 d.mf) ∧ w'.cell? ⟨N, 12, none⟩ = some (.int .i64 x) ∧ w'.cell? ⟨N, 13, none⟩ = some (.int .i64 y) ∧ w'.cell? ⟨N, 14, none⟩ = some (.int .i64 z) ∧ w'.cell? ⟨M, 0, none⟩ = some (.bool q.ns) ∧ w'.cell? ⟨M, 1, none⟩ = some (.bool q.nc) ∧ w'.cell? ⟨M, 2, none⟩ = some (.bool q.pr) ∧ w'.cell? ⟨M, 3, none⟩ = some (.bool q.pu) ∧ w'.cell? ⟨M, 4, none⟩ = some (.bool q.mr) ∧ w'.cell? ⟨M, 5, none⟩ = some (.bool q.oc) ∧ w'.cell? ⟨M, 6, none⟩ = some (.int .i64 q.ma) ∧ w'.cell? ⟨M, 7, none⟩ = some (.int .i64 q.sa) ∧ w'.cell? ⟨M, 8, none⟩ = some (.int .i64 q.ws) ∧ w'.cell? ⟨M, 9, none⟩ = some (.int .i64 q.oe) ∧ w'.cell? ⟨M, 10, none⟩ = some (.int .i64 q.ms) ∧ w'.cell? ⟨M, 11, none⟩ = some (.int .i64 q.mf) ∧ TqS N M d q x y z w w' :=
  ⟨h.a.c0, h.a.c1, h.a.c2, h.a.c3, h.a.c4, h.a.c5, h.a.c6, h.a.c7, h.a.c8, h.a.c9, h.a.c10, h.a.c11, h.a.c12, h.a.c13, h.a.c14, h.b.c0, h.b.c1, h.b.c2, h.b.c3, h.b.c4, h.b.c5, h.b.c6, h.b.c7, h.b.c8, h.b.c9, h.b.c10, h.b.c11, h⟩
theorem tqS_new (w : World) (d q : Dv) (x y z : Int) (T U : TypeId) : TqS w.heap.size (w.heap.size + 1) d q x y z w ((w.alloc (.cells (teC d x y z) T)).alloc (.cells (dvC q) U)) := by
  have hQ := dvB_new (w.alloc (.cells (teC d x y z) T)) q U
  have e1 : (w.alloc (.cells (teC d x y z) T)).heap.size = w.heap.size + 1 := by simp
  rw [e1] at hQ
  exact ⟨(TeB.new w d x y z T).below (below_new _ _), hQ, (below_new w _).alloc (by simp) _⟩
theorem tqS_step {N M : Nat} {d q : Dv} {x y z : Int} {w w1 w2 : World} (h : w1.cell? ⟨N, 0, none⟩ = some (.bool d.ns) ∧ w1.cell? ⟨N, 1, none⟩ = some (.bool d.nc) ∧ w1.cell? ⟨N, 2, none⟩ = some (.bool d.pr) ∧ w1.cell? ⟨N, 3, none⟩ = some (.bool d.pu) ∧ w1.cell? ⟨N, 4, none⟩ = some (.bool d.mr) ∧ w1.cell? ⟨N, 5, none⟩ = some (.bool d.oc) ∧ w1.cell? ⟨N, 6, none⟩ = some (.int .i64 d.ma) ∧ w1.cell? ⟨N, 7, none⟩ = some (.int .i64 d.sa) ∧ w1.cell? ⟨N, 8, none⟩ = some (.int .i64 d.ws) ∧ w1.cell? ⟨N, 9, none⟩ = some (.int .i64 d.oe) ∧ w1.cell? ⟨N, 10, none⟩ = some (.int .i64 d.ms) ∧ w1.cell? ⟨N, 11, none⟩ = some (.int .i64 d.mf) ∧ w1.cell? ⟨N, 12, none⟩ = some (.int .i64 x) ∧ w1.cell? ⟨N, 13, none⟩ = some (.int .i64 y) ∧ w1.cell? ⟨N, 14, none⟩ = some (.int .i64 z) ∧ w1.cell? ⟨M, 0, none⟩ = some (.bool q.ns) ∧ w1.cell? ⟨M, 1, none⟩ = some (.bool q.nc) ∧ w1.cell? ⟨M, 2, none⟩ = some (.bool q.pr) ∧ w1.cell? ⟨M, 3, none⟩ = some (.bool q.pu) ∧ w1.cell? ⟨M, 4, none⟩ = some (.bool q.mr) ∧ w1.cell? ⟨M, 5, none⟩ = some (.bool q.oc) ∧ w1.cell? ⟨M, 6, none⟩ = some (.int .i64 q.ma) ∧ w1.cell? ⟨M, 7, none⟩ = some (.int .i64 q.sa) ∧ w1.cell? ⟨M, 8, none⟩ = some (.int .i64 q.ws) ∧ w1.cell? ⟨M, 9, none⟩ = some (.int .i64 q.oe) ∧ w1.cell? ⟨M, 10, none⟩ = some (.int .i64 q.ms) ∧ w1.cell? ⟨M, 11, none⟩ = some (.int .i64 q.mf) ∧ TqS N M d q x y z w w1) (hb : Below w1.heap.size w1 w2) : w2.cell? ⟨N, 0, none⟩ = some (.bool d.ns) ∧ w2.cell? ⟨N, 1, none⟩ = some (.bool d.nc) ∧ w2.cell? ⟨N, 2, none⟩ = some (.bool d.pr) ∧ w2.cell? ⟨N, 3, none⟩ = some (.bool d.pu) ∧ w2.cell? ⟨N, 4, none⟩ = some (.bool d.mr) ∧ w2.cell? ⟨N, 5, none⟩ = some (.bool d.oc) ∧ w2.cell? ⟨N, 6, none⟩ = some (.int .i64 d.ma) ∧ w2.cell? ⟨N, 7, none⟩ = some (.int .i64 d.sa) ∧ w2.cell? ⟨N, 8, none⟩ = some (.int .i64 d.ws) ∧ w2.cell? ⟨N, 9, none⟩ = some (.int .i64 d.oe) ∧ w2.cell? ⟨N, 10, none⟩ = some (.int .i64 d.ms) ∧ w2.cell? ⟨N, 11, none⟩ = some (.int .i64 d.mf) ∧ w2.cell? ⟨N, 12, none⟩ = some (.int .i64 x) ∧ w2.cell? ⟨N, 13, none⟩ = some (.int .i64 y) ∧ w2.cell? ⟨N, 14, none⟩ = some (.int .i64 z) ∧ w2.cell? ⟨M, 0, none⟩ = some (.bool q.ns) ∧ w2.cell? ⟨M, 1, none⟩ = some (.bool q.nc) ∧ w2.cell? ⟨M, 2, none⟩ = some (.bool q.pr) ∧ w2.cell? ⟨M, 3, none⟩ = some (.bool q.pu) ∧ w2.cell? ⟨M, 4, none⟩ = some (.bool q.mr) ∧ w2.cell? ⟨M, 5, none⟩ = some (.bool q.oc) ∧ w2.cell? ⟨M, 6, none⟩ = some (.int .i64 q.ma) ∧ w2.cell? ⟨M, 7, none⟩ = some (.int .i64 q.sa) ∧ w2.cell? ⟨M, 8, none⟩ = some (.int .i64 q.ws) ∧ w2.cell? ⟨M, 9, none⟩ = some (.int .i64 q.oe) ∧ w2.cell? ⟨M, 10, none⟩ = some (.int .i64 q.ms) ∧ w2.cell? ⟨M, 11, none⟩ = some (.int .i64 q.mf) ∧ TqS N M d q x y z w w2 :=
  tqS_all (TqS.below h.2.2.2.2.2.2.2.2.2.2.2.2.2.2.2.2.2.2.2.2.2.2.2.2.2.2.2 hb)
theorem tqS_low {N M : Nat} {d q : Dv} {x y z : Int} {w w1 : World} (h : w1.cell? ⟨N, 0, none⟩ = some (.bool d.ns) ∧ w1.cell? ⟨N, 1, none⟩ = some (.bool d.nc) ∧ w1.cell? ⟨N, 2, none⟩ = some (.bool d.pr) ∧ w1.cell? ⟨N, 3, none⟩ = some (.bool d.pu) ∧ w1.cell? ⟨N, 4, none⟩ = some (.bool d.mr) ∧ w1.cell? ⟨N, 5, none⟩ = some (.bool d.oc) ∧ w1.cell? ⟨N, 6, none⟩ = some (.int .i64 d.ma) ∧ w1.cell? ⟨N, 7, none⟩ = some (.int .i64 d.sa) ∧ w1.cell? ⟨N, 8, none⟩ = some (.int .i64 d.ws) ∧ w1.cell? ⟨N, 9, none⟩ = some (.int .i64 d.oe) ∧ w1.cell? ⟨N, 10, none⟩ = some (.int .i64 d.ms) ∧ w1.cell? ⟨N, 11, none⟩ = some (.int .i64 d.mf) ∧ w1.cell? ⟨N, 12, none⟩ = some (.int .i64 x) ∧ w1.cell? ⟨N, 13, none⟩ = some (.int .i64 y) ∧ w1.cell? ⟨N, 14, none⟩ = some (.int .i64 z) ∧ w1.cell? ⟨M, 0, none⟩ = some (.bool q.ns) ∧ w1.cell? ⟨M, 1, none⟩ = some (.bool q.nc) ∧ w1.cell? ⟨M, 2, none⟩ = some (.bool q.pr) ∧ w1.cell? ⟨M, 3, none⟩ = some (.bool q.pu) ∧ w1.cell? ⟨M, 4, none⟩ = some (.bool q.mr) ∧ w1.cell? ⟨M, 5, none⟩ = some (.bool q.oc) ∧ w1.cell? ⟨M, 6, none⟩ = some (.int .i64 q.ma) ∧ w1.cell? ⟨M, 7, none⟩ = some (.int .i64 q.sa) ∧ w1.cell? ⟨M, 8, none⟩ = some (.int .i64 q.ws) ∧ w1.cell? ⟨M, 9, none⟩ = some (.int .i64 q.oe) ∧ w1.cell? ⟨M, 10, none⟩ = some (.int .i64 q.ms) ∧ w1.cell? ⟨M, 11, none⟩ = some (.int .i64 q.mf) ∧ TqS N M d q x y z w w1) : Below w.heap.size w w1 := TqS.l h.2.2.2.2.2.2.2.2.2.2.2.2.2.2.2.2.2.2.2.2.2.2.2.2.2.2.2
theorem young_in {N M : Nat} {d q : Dv} {x y z t : Int} {b : Bool} {w w1 : World} (hY : ∀ W, Calls Tryz.prog 57 #[teV d x y z, dvV q, .int .i64 t] W fun e w' => e = .returned (.bool b) ∧ Below W.heap.size W w') (h : w1.cell? ⟨N, 0, none⟩ = some (.bool d.ns) ∧ w1.cell? ⟨N, 1, none⟩ = some (.bool d.nc) ∧ w1.cell? ⟨N, 2, none⟩ = some (.bool d.pr) ∧ w1.cell? ⟨N, 3, none⟩ = some (.bool d.pu) ∧ w1.cell? ⟨N, 4, none⟩ = some (.bool d.mr) ∧ w1.cell? ⟨N, 5, none⟩ = some (.bool d.oc) ∧ w1.cell? ⟨N, 6, none⟩ = some (.int .i64 d.ma) ∧ w1.cell? ⟨N, 7, none⟩ = some (.int .i64 d.sa) ∧ w1.cell? ⟨N, 8, none⟩ = some (.int .i64 d.ws) ∧ w1.cell? ⟨N, 9, none⟩ = some (.int .i64 d.oe) ∧ w1.cell? ⟨N, 10, none⟩ = some (.int .i64 d.ms) ∧ w1.cell? ⟨N, 11, none⟩ = some (.int .i64 d.mf) ∧ w1.cell? ⟨N, 12, none⟩ = some (.int .i64 x) ∧ w1.cell? ⟨N, 13, none⟩ = some (.int .i64 y) ∧ w1.cell? ⟨N, 14, none⟩ = some (.int .i64 z) ∧ w1.cell? ⟨M, 0, none⟩ = some (.bool q.ns) ∧ w1.cell? ⟨M, 1, none⟩ = some (.bool q.nc) ∧ w1.cell? ⟨M, 2, none⟩ = some (.bool q.pr) ∧ w1.cell? ⟨M, 3, none⟩ = some (.bool q.pu) ∧ w1.cell? ⟨M, 4, none⟩ = some (.bool q.mr) ∧ w1.cell? ⟨M, 5, none⟩ = some (.bool q.oc) ∧ w1.cell? ⟨M, 6, none⟩ = some (.int .i64 q.ma) ∧ w1.cell? ⟨M, 7, none⟩ = some (.int .i64 q.sa) ∧ w1.cell? ⟨M, 8, none⟩ = some (.int .i64 q.ws) ∧ w1.cell? ⟨M, 9, none⟩ = some (.int .i64 q.oe) ∧ w1.cell? ⟨M, 10, none⟩ = some (.int .i64 q.ms) ∧ w1.cell? ⟨M, 11, none⟩ = some (.int .i64 q.mf) ∧ TqS N M d q x y z w w1) :
    Calls Tryz.prog 57 #[teV d x y z, dvV q, .int .i64 t] w1 fun e w2 => e = .returned (.bool b) ∧ (w2.cell? ⟨N, 0, none⟩ = some (.bool d.ns) ∧ w2.cell? ⟨N, 1, none⟩ = some (.bool d.nc) ∧ w2.cell? ⟨N, 2, none⟩ = some (.bool d.pr) ∧ w2.cell? ⟨N, 3, none⟩ = some (.bool d.pu) ∧ w2.cell? ⟨N, 4, none⟩ = some (.bool d.mr) ∧ w2.cell? ⟨N, 5, none⟩ = some (.bool d.oc) ∧ w2.cell? ⟨N, 6, none⟩ = some (.int .i64 d.ma) ∧ w2.cell? ⟨N, 7, none⟩ = some (.int .i64 d.sa) ∧ w2.cell? ⟨N, 8, none⟩ = some (.int .i64 d.ws) ∧ w2.cell? ⟨N, 9, none⟩ = some (.int .i64 d.oe) ∧ w2.cell? ⟨N, 10, none⟩ = some (.int .i64 d.ms) ∧ w2.cell? ⟨N, 11, none⟩ = some (.int .i64 d.mf) ∧ w2.cell? ⟨N, 12, none⟩ = some (.int .i64 x) ∧ w2.cell? ⟨N, 13, none⟩ = some (.int .i64 y) ∧ w2.cell? ⟨N, 14, none⟩ = some (.int .i64 z) ∧ w2.cell? ⟨M, 0, none⟩ = some (.bool q.ns) ∧ w2.cell? ⟨M, 1, none⟩ = some (.bool q.nc) ∧ w2.cell? ⟨M, 2, none⟩ = some (.bool q.pr) ∧ w2.cell? ⟨M, 3, none⟩ = some (.bool q.pu) ∧ w2.cell? ⟨M, 4, none⟩ = some (.bool q.mr) ∧ w2.cell? ⟨M, 5, none⟩ = some (.bool q.oc) ∧ w2.cell? ⟨M, 6, none⟩ = some (.int .i64 q.ma) ∧ w2.cell? ⟨M, 7, none⟩ = some (.int .i64 q.sa) ∧ w2.cell? ⟨M, 8, none⟩ = some (.int .i64 q.ws) ∧ w2.cell? ⟨M, 9, none⟩ = some (.int .i64 q.oe) ∧ w2.cell? ⟨M, 10, none⟩ = some (.int .i64 q.ms) ∧ w2.cell? ⟨M, 11, none⟩ = some (.int .i64 q.mf) ∧ TqS N M d q x y z w w2) := by
  refine (hY w1).mono ?_
  rintro e w2 ⟨rfl, hB⟩
  exact ⟨rfl, tqS_step h hB⟩
set_option maxHeartbeats 4000000 in
set_option maxRecDepth 100000 in
theorem freshEnough_any (d q : Dv) (x y z t : Int) (w : World) (hq : Nor q) (ht : 0 ≤ t ∧ t ≤ 4398046511104) :
    Calls Tryz.prog 32 #[teV d x y z, dvV q, .int .i64 t] w fun e w' => e = .returned (.bool (freB q x t)) ∧ Below w.heap.size w w' := by
  have HS := Lib.hid (tqS_new w d q x y z 75 40)
  have HY := Lib.hid (fun W => young_any d q x y z t W hq.ma)
  have HT := Lib.hid (fun W => poTicks_any q.mf W (by have := hq.mf; omega) (by have := hq.mf; omega))
  have hmf := hq.mf
  have HV := Lib.hid (show freB q x t = (youB q x t && (decide (q.mf < 0) || decide (t + 1000 * q.mf < x))) from by unfold freB youB belB; rw [Int.add_zero])
  have hyx : youB q x t = true → t < x := fun h => by simp only [youB, Bool.and_eq_true, decide_eq_true_eq] at h; exact h.1
  generalize youB q x t = b at *
  generalize freB q x t = V at *
  have hwr : IntKind.i64.wrap (t + 1000 * q.mf) = t + 1000 * q.mf := Go.IntWalk.i64_in _ (by omega)
  clear hq
  cases b with
  | true =>
    have hyx := hyx rfl
    rw [Bool.true_and] at HV
    have HV := Lib.hid (show V = decide (t + 1000 * q.mf < x) by rw [HV.out]; by_cases h : q.mf < 0; (rw [decide_eq_true h, Bool.true_or]; exact (decide_eq_true (by omega)).symm); (rw [decide_eq_false h, Bool.false_or]))
    go_enter Tryz.func32, Tryz.ntmps32
    go_upto_region 1 with fail
    change Code.wp _ _ _ _ ((w.alloc (.cells (teC d x y z) 75)).alloc (.cells (dvC q) 40))
    generalize ((w.alloc (.cells (teC d x y z) 75)).alloc (.cells (dvC q) 40)) = W at *
    have hS := HS.out
    have hSd := tqS_all (hS.below (Below.refl W.heap.size W).drew)
    go_region_held3 (fun w' => w'.cell? ⟨w.heap.size, 0, none⟩ = some (.bool d.ns) ∧ w'.cell? ⟨w.heap.size, 1, none⟩ = some (.bool d.nc) ∧ w'.cell? ⟨w.heap.size, 2, none⟩ = some (.bool d.pr) ∧ w'.cell? ⟨w.heap.size, 3, none⟩ = some (.bool d.pu) ∧ w'.cell? ⟨w.heap.size, 4, none⟩ = some (.bool d.mr) ∧ w'.cell? ⟨w.heap.size, 5, none⟩ = some (.bool d.oc) ∧ w'.cell? ⟨w.heap.size, 6, none⟩ = some (.int .i64 d.ma) ∧ w'.cell? ⟨w.heap.size, 7, none⟩ = some (.int .i64 d.sa) ∧ w'.cell? ⟨w.heap.size, 8, none⟩ = some (.int .i64 d.ws) ∧ w'.cell? ⟨w.heap.size, 9, none⟩ = some (.int .i64 d.oe) ∧ w'.cell? ⟨w.heap.size, 10, none⟩ = some (.int .i64 d.ms) ∧ w'.cell? ⟨w.heap.size, 11, none⟩ = some (.int .i64 d.mf) ∧ w'.cell? ⟨w.heap.size, 12, none⟩ = some (.int .i64 x) ∧ w'.cell? ⟨w.heap.size, 13, none⟩ = some (.int .i64 y) ∧ w'.cell? ⟨w.heap.size, 14, none⟩ = some (.int .i64 z) ∧ w'.cell? ⟨(w.heap.size + 1), 0, none⟩ = some (.bool q.ns) ∧ w'.cell? ⟨(w.heap.size + 1), 1, none⟩ = some (.bool q.nc) ∧ w'.cell? ⟨(w.heap.size + 1), 2, none⟩ = some (.bool q.pr) ∧ w'.cell? ⟨(w.heap.size + 1), 3, none⟩ = some (.bool q.pu) ∧ w'.cell? ⟨(w.heap.size + 1), 4, none⟩ = some (.bool q.mr) ∧ w'.cell? ⟨(w.heap.size + 1), 5, none⟩ = some (.bool q.oc) ∧ w'.cell? ⟨(w.heap.size + 1), 6, none⟩ = some (.int .i64 q.ma) ∧ w'.cell? ⟨(w.heap.size + 1), 7, none⟩ = some (.int .i64 q.sa) ∧ w'.cell? ⟨(w.heap.size + 1), 8, none⟩ = some (.int .i64 q.ws) ∧ w'.cell? ⟨(w.heap.size + 1), 9, none⟩ = some (.int .i64 q.oe) ∧ w'.cell? ⟨(w.heap.size + 1), 10, none⟩ = some (.int .i64 q.ms) ∧ w'.cell? ⟨(w.heap.size + 1), 11, none⟩ = some (.int .i64 q.mf) ∧ TqS w.heap.size (w.heap.size + 1) d q x y z w w')
        (first | (with_reducible exact h5) | (with_reducible exact hSd))
        (first | (go_at_call 57; refine (young_in HY.out (by assumption)).mono ?_; rintro e w5 ⟨rfl, h5⟩) | (go_at_call 58; refine (HT.out _).mono ?_; rintro e w5 ⟨rfl, rfl⟩))
    all_goals
      go_wp2_with fail
      go_ret
      exact ⟨retB (by first | exact HV.out.symm | (rw [HV.out]; simp [*]; done)), tqS_low h5⟩
  | false =>
    rw [Bool.false_and] at HV
    clear hyx
    go_enter Tryz.func32, Tryz.ntmps32
    go_upto_region 1 with fail
    change Code.wp _ _ _ _ ((w.alloc (.cells (teC d x y z) 75)).alloc (.cells (dvC q) 40))
    generalize ((w.alloc (.cells (teC d x y z) 75)).alloc (.cells (dvC q) 40)) = W at *
    have hS := HS.out
    have hSd := tqS_all (hS.below (Below.refl W.heap.size W).drew)
    refine wp_region_held_drew (S := fun w' => w'.cell? ⟨w.heap.size, 0, none⟩ = some (.bool d.ns) ∧ w'.cell? ⟨w.heap.size, 1, none⟩ = some (.bool d.nc) ∧ w'.cell? ⟨w.heap.size, 2, none⟩ = some (.bool d.pr) ∧ w'.cell? ⟨w.heap.size, 3, none⟩ = some (.bool d.pu) ∧ w'.cell? ⟨w.heap.size, 4, none⟩ = some (.bool d.mr) ∧ w'.cell? ⟨w.heap.size, 5, none⟩ = some (.bool d.oc) ∧ w'.cell? ⟨w.heap.size, 6, none⟩ = some (.int .i64 d.ma) ∧ w'.cell? ⟨w.heap.size, 7, none⟩ = some (.int .i64 d.sa) ∧ w'.cell? ⟨w.heap.size, 8, none⟩ = some (.int .i64 d.ws) ∧ w'.cell? ⟨w.heap.size, 9, none⟩ = some (.int .i64 d.oe) ∧ w'.cell? ⟨w.heap.size, 10, none⟩ = some (.int .i64 d.ms) ∧ w'.cell? ⟨w.heap.size, 11, none⟩ = some (.int .i64 d.mf) ∧ w'.cell? ⟨w.heap.size, 12, none⟩ = some (.int .i64 x) ∧ w'.cell? ⟨w.heap.size, 13, none⟩ = some (.int .i64 y) ∧ w'.cell? ⟨w.heap.size, 14, none⟩ = some (.int .i64 z) ∧ w'.cell? ⟨(w.heap.size + 1), 0, none⟩ = some (.bool q.ns) ∧ w'.cell? ⟨(w.heap.size + 1), 1, none⟩ = some (.bool q.nc) ∧ w'.cell? ⟨(w.heap.size + 1), 2, none⟩ = some (.bool q.pr) ∧ w'.cell? ⟨(w.heap.size + 1), 3, none⟩ = some (.bool q.pu) ∧ w'.cell? ⟨(w.heap.size + 1), 4, none⟩ = some (.bool q.mr) ∧ w'.cell? ⟨(w.heap.size + 1), 5, none⟩ = some (.bool q.oc) ∧ w'.cell? ⟨(w.heap.size + 1), 6, none⟩ = some (.int .i64 q.ma) ∧ w'.cell? ⟨(w.heap.size + 1), 7, none⟩ = some (.int .i64 q.sa) ∧ w'.cell? ⟨(w.heap.size + 1), 8, none⟩ = some (.int .i64 q.ws) ∧ w'.cell? ⟨(w.heap.size + 1), 9, none⟩ = some (.int .i64 q.oe) ∧ w'.cell? ⟨(w.heap.size + 1), 10, none⟩ = some (.int .i64 q.ms) ∧ w'.cell? ⟨(w.heap.size + 1), 11, none⟩ = some (.int .i64 q.mf) ∧ TqS w.heap.size (w.heap.size + 1) d q x y z w w') (by kernel_rfl) (hSd) (fun h0 => ?_)
    refine wpAnyH_take (i := 0) (oi := { dst := some 7, op := _, type := _, pos := _, after := _, guard := _ }) (v := ?_) rfl (by kernel_rfl) (by kernel_rfl) (by kernel_rfl) (fun _ _ _ h => h) (Or.inl ⟨by rfl, ?_⟩) (by assumption) ?_
    rotate_left
    focus (intro w hSw; (try dsimp only at hSw); first | (go_simp; done) | (go_simp; with_reducible rfl))
    (try simp only [Act.put, List.setIfInBounds_toArray, List.set_cons_zero, List.set_cons_succ])
    refine wpAnyH_take (i := 1) (oi := { dst := some 8, op := _, type := _, pos := _, after := _, guard := _ }) (v := ?_) rfl (by kernel_rfl) (by kernel_rfl) (by kernel_rfl) (fun _ _ _ h => h) (Or.inl ⟨by rfl, ?_⟩) (by assumption) ?_
    rotate_left
    focus (intro w hSw; (try dsimp only at hSw); first | (go_simp; done) | (go_simp; with_reducible rfl))
    (try simp only [Act.put, List.setIfInBounds_toArray, List.set_cons_zero, List.set_cons_succ])
    refine wpAnyH_take (i := 2) (oi := { dst := some 9, op := _, type := _, pos := _, after := _, guard := _ }) (v := ?_) rfl (by kernel_rfl) (by kernel_rfl) (by kernel_rfl) (fun _ _ _ h => h) (Or.inl ⟨by rfl, ?_⟩) (by assumption) ?_
    rotate_left
    focus (intro w hSw; (try dsimp only at hSw); first | (go_simp; done) | (go_simp; with_reducible rfl))
    (try simp only [Act.put, List.setIfInBounds_toArray, List.set_cons_zero, List.set_cons_succ])
    refine wpAnyH_ready (rs := [3]) (by kernel_rfl) (by simp) ?_
    refine AllReadyH.cons (o := { dst := some 10, op := _, type := _, pos := _, after := _, guard := _ }) rfl (fun K hK => ?_) AllReadyH.nil
    go_simp
    refine (young_in HY.out h0).mono ?_
    rintro e w5 ⟨rfl, h5⟩
    refine hK.out _ _ (h5) (fun h6 => ?_)
    clear hK K 
    (try simp only [Act.put, List.setIfInBounds_toArray, List.set_cons_zero, List.set_cons_succ])
    refine wpAnyH_take (i := 4) (oi := { dst := some 11, op := _, type := _, pos := _, after := _, guard := _ }) (v := ?_) rfl (by kernel_rfl) (by kernel_rfl) (by kernel_rfl) (fun _ _ _ h => h) (Or.inl ⟨by rfl, ?_⟩) (by assumption) ?_
    rotate_left
    focus (intro w hSw; (try dsimp only at hSw); first | (go_simp; done) | (go_simp; with_reducible rfl))
    (try simp only [Act.put, List.setIfInBounds_toArray, List.set_cons_zero, List.set_cons_succ])
    refine wpAnyH_take (i := 5) (oi := { dst := some 12, op := _, type := _, pos := _, after := _, guard := _ }) (v := undef) rfl (by kernel_rfl) (by kernel_rfl) (by kernel_rfl) (fun _ _ _ h => h) (Or.inr ⟨by rfl, rfl⟩) (by assumption) ?_
    (try simp only [Act.put, List.setIfInBounds_toArray, List.set_cons_zero, List.set_cons_succ])
    refine wpAnyH_take (i := 6) (oi := { dst := some 13, op := _, type := _, pos := _, after := _, guard := _ }) (v := undef) rfl (by kernel_rfl) (by kernel_rfl) (by kernel_rfl) (fun _ _ _ h => h) (Or.inr ⟨by rfl, rfl⟩) (by assumption) ?_
    (try simp only [Act.put, List.setIfInBounds_toArray, List.set_cons_zero, List.set_cons_succ])
    refine wpAnyH_take (i := 7) (oi := { dst := some 14, op := _, type := _, pos := _, after := _, guard := _ }) (v := undef) rfl (by kernel_rfl) (by kernel_rfl) (by kernel_rfl) (fun _ _ _ h => h) (Or.inr ⟨by rfl, rfl⟩) (by assumption) ?_
    (try simp only [Act.put, List.setIfInBounds_toArray, List.set_cons_zero, List.set_cons_succ])
    refine wpAnyH_take (i := 8) (oi := { dst := some 15, op := _, type := _, pos := _, after := _, guard := _ }) (v := undef) rfl (by kernel_rfl) (by kernel_rfl) (by kernel_rfl) (fun _ _ _ h => h) (Or.inr ⟨by rfl, rfl⟩) (by assumption) ?_
    (try simp only [Act.put, List.setIfInBounds_toArray, List.set_cons_zero, List.set_cons_succ])
    refine wpAnyH_take (i := 9) (oi := { dst := some 16, op := _, type := _, pos := _, after := _, guard := _ }) (v := undef) rfl (by kernel_rfl) (by kernel_rfl) (by kernel_rfl) (fun _ _ _ h => h) (Or.inr ⟨by rfl, rfl⟩) (by assumption) ?_
    (try simp only [Act.put, List.setIfInBounds_toArray, List.set_cons_zero, List.set_cons_succ])
    refine wpAnyH_take (i := 10) (oi := { dst := some 17, op := _, type := _, pos := _, after := _, guard := _ }) (v := undef) rfl (by kernel_rfl) (by kernel_rfl) (by kernel_rfl) (fun _ _ _ h => h) (Or.inr ⟨by rfl, rfl⟩) (by assumption) ?_
    (try simp only [Act.put, List.setIfInBounds_toArray, List.set_cons_zero, List.set_cons_succ])
    refine wpAnyH_take (i := 11) (oi := { dst := some 18, op := _, type := _, pos := _, after := _, guard := _ }) (v := undef) rfl (by kernel_rfl) (by kernel_rfl) (by kernel_rfl) (fun _ _ _ h => h) (Or.inr ⟨by rfl, rfl⟩) (by assumption) ?_
    (try simp only [Act.put, List.setIfInBounds_toArray, List.set_cons_zero, List.set_cons_succ])
    refine wpAnyH_take (i := 12) (oi := { dst := some 19, op := _, type := _, pos := _, after := _, guard := _ }) (v := undef) rfl (by kernel_rfl) (by kernel_rfl) (by kernel_rfl) (fun _ _ _ h => h) (Or.inr ⟨by rfl, rfl⟩) (by assumption) ?_
    (try simp only [Act.put, List.setIfInBounds_toArray, List.set_cons_zero, List.set_cons_succ])
    refine wpAnyH_take (i := 13) (oi := { dst := some 20, op := _, type := _, pos := _, after := _, guard := _ }) (v := ?_) rfl (by kernel_rfl) (by kernel_rfl) (by kernel_rfl) (fun _ _ _ h => h) (Or.inl ⟨by rfl, ?_⟩) (by assumption) ?_
    rotate_left
    focus (intro w hSw; (try dsimp only at hSw); first | (go_simp; done) | (go_simp; with_reducible rfl))
    (try simp only [Act.put, List.setIfInBounds_toArray, List.set_cons_zero, List.set_cons_succ])
    refine wpAnyH_take (i := 14) (oi := { dst := some 6, op := _, type := _, pos := _, after := _, guard := _ }) (v := ?_) rfl (by kernel_rfl) (by kernel_rfl) (by kernel_rfl) (fun _ _ _ h => h) (Or.inl ⟨by rfl, ?_⟩) (by assumption) ?_
    rotate_left
    focus (intro w hSw; (try dsimp only at hSw); first | (go_simp; done) | (go_simp; with_reducible rfl))
    (try simp only [Act.put, List.setIfInBounds_toArray, List.set_cons_zero, List.set_cons_succ])
    refine wpAnyH_done (by kernel_rfl) ?_ _
    (try simp only [Exit.then])
    go_wp2_with fail
    go_ret
    exact ⟨retB HV.out.symm, tqS_low h6⟩
end Go.Proofs.YtieolalohindgaaGreatDoor

/- What mayBeStale returns. -/
namespace Go.Proofs.YtieolalohindgaaGreatDoor
open Go.RowKit

set_option maxHeartbeats 4000000 in
set_option maxRecDepth 100000 in
theorem mayStale_any (d q : Dv) (x y z t : Int) (w : World) (hq : Nor q) (ht : 0 ≤ t ∧ t ≤ 4398046511104) (_hx : 0 ≤ x ∧ x ≤ 253402300799000) :
    Calls Tryz.prog 34 #[teV d x y z, dvV q, .int .i64 t] w fun e w' => e = .returned (.bool (staB d q x t)) ∧ Below w.heap.size w w' := by
  have HS := Lib.hid (tqS_new w d q x y z 75 40)
  have HY := Lib.hid (fun W => young_any d q x y z (t - 1000 * q.ms) W hq.ma)
  have HT := Lib.hid (fun W => poTicks_any q.ms W (by have := hq.ms; omega) (by have := hq.ms; omega))
  have HPs := Lib.hid (fun W => poPresent_any q.ms W)
  have HPf := Lib.hid (fun W => poPresent_any q.mf W)
  have HPa := Lib.hid (fun W => poPresent_any d.sa W)
  have hms := hq.ms
  have HV := Lib.hid (show staB d q x t = (decide (0 ≤ q.ms) && decide (q.mf < 0) && !d.mr && decide (d.sa < 0) && youB q x (t - 1000 * q.ms)) from by
    unfold staB youB belB
    rw [Bool.and_assoc _ (decide (t < x + 1000 * q.ms)) _, show decide (t < x + 1000 * q.ms) = decide (t - 1000 * q.ms < x) from decide_eq_decide.mpr (by omega), show decide (t < 1000 * q.ma + 1000 * q.ms) = decide (t - 1000 * q.ms < 1000 * q.ma) from decide_eq_decide.mpr (by omega)])
  have hwr : IntKind.i64.wrap (t - 1000 * q.ms) = t - 1000 * q.ms := Go.IntWalk.i64_in _ (by omega)
  generalize youB q x (t - 1000 * q.ms) = b at *
  generalize staB d q x t = V at *
  clear hq
  by_cases h1 : 0 ≤ q.ms
  · rw [decide_eq_true h1] at HPs HV
    rw [Bool.true_and] at HV
    by_cases h2 : 0 ≤ q.mf
    · rw [decide_eq_true h2] at HPf
      rw [decide_eq_false (show ¬ q.mf < 0 by omega), Bool.false_and, Bool.false_and, Bool.false_and] at HV
      clear h1 h2
      go_enter Tryz.func34, Tryz.ntmps34
      go_upto_region 1 with fail
      change Code.wp _ _ _ _ ((w.alloc (.cells (teC d x y z) 75)).alloc (.cells (dvC q) 40))
      generalize ((w.alloc (.cells (teC d x y z) 75)).alloc (.cells (dvC q) 40)) = W at *
      have hS := HS.out
      have b0 := hS.b.c10
      have b1 := hS.b.c11
      have b2 := hS.a.c4
      have b3 := hS.a.c7
      go_wp2_with (first | (go_at_call_of 59 (Value.int .i64 q.ms); refine (HPs.out _).mono ?_; rintro e w' ⟨rfl, rfl⟩) | (go_at_call_of 59 (Value.int .i64 q.mf); refine (HPf.out _).mono ?_; rintro e w' ⟨rfl, rfl⟩) | (go_at_call_of 59 (Value.int .i64 d.sa); refine (HPa.out _).mono ?_; rintro e w' ⟨rfl, rfl⟩))
      all_goals
        go_ret
        exact ⟨retB (by first | exact HV.out.symm | (rw [HV.out]; simp [*]; done)), HS.out.l⟩
    · rw [decide_eq_false h2] at HPf
      rw [decide_eq_true (show q.mf < 0 by omega), Bool.true_and] at HV
      clear h1 h2
      generalize hm0 : d.mr = mr at HV
      have hm := Lib.hid hm0
      clear hm0
      cases mr with
      | true =>
        rw [Bool.not_true, Bool.false_and, Bool.false_and] at HV
        go_enter Tryz.func34, Tryz.ntmps34
        go_upto_region 1 with fail
        change Code.wp _ _ _ _ ((w.alloc (.cells (teC d x y z) 75)).alloc (.cells (dvC q) 40))
        generalize ((w.alloc (.cells (teC d x y z) 75)).alloc (.cells (dvC q) 40)) = W at *
        have hS := HS.out
        have b0 := hS.b.c10
        have b1 := hS.b.c11
        have b2 := hS.a.c4
        rw [hm.out] at b2
        have b3 := hS.a.c7
        go_wp2_with (first | (go_at_call_of 59 (Value.int .i64 q.ms); refine (HPs.out _).mono ?_; rintro e w' ⟨rfl, rfl⟩) | (go_at_call_of 59 (Value.int .i64 q.mf); refine (HPf.out _).mono ?_; rintro e w' ⟨rfl, rfl⟩) | (go_at_call_of 59 (Value.int .i64 d.sa); refine (HPa.out _).mono ?_; rintro e w' ⟨rfl, rfl⟩))
        all_goals
          go_ret
          exact ⟨retB (by first | exact HV.out.symm | (rw [HV.out]; simp [*]; done)), HS.out.l⟩
      | false =>
        rw [Bool.not_false, Bool.true_and] at HV
        by_cases h3 : 0 ≤ d.sa
        · rw [decide_eq_true h3] at HPa
          rw [decide_eq_false (show ¬ d.sa < 0 by omega), Bool.false_and] at HV
          clear h3
          go_enter Tryz.func34, Tryz.ntmps34
          go_upto_region 1 with fail
          change Code.wp _ _ _ _ ((w.alloc (.cells (teC d x y z) 75)).alloc (.cells (dvC q) 40))
          generalize ((w.alloc (.cells (teC d x y z) 75)).alloc (.cells (dvC q) 40)) = W at *
          have hS := HS.out
          have b0 := hS.b.c10
          have b1 := hS.b.c11
          have b2 := hS.a.c4
          rw [hm.out] at b2
          have b3 := hS.a.c7
          go_wp2_with (first | (go_at_call_of 59 (Value.int .i64 q.ms); refine (HPs.out _).mono ?_; rintro e w' ⟨rfl, rfl⟩) | (go_at_call_of 59 (Value.int .i64 q.mf); refine (HPf.out _).mono ?_; rintro e w' ⟨rfl, rfl⟩) | (go_at_call_of 59 (Value.int .i64 d.sa); refine (HPa.out _).mono ?_; rintro e w' ⟨rfl, rfl⟩))
          all_goals
            go_ret
            exact ⟨retB (by first | exact HV.out.symm | (rw [HV.out]; simp [*]; done)), HS.out.l⟩
        · rw [decide_eq_false h3] at HPa
          rw [decide_eq_true (show d.sa < 0 by omega), Bool.true_and] at HV
          clear h3
          go_enter Tryz.func34, Tryz.ntmps34
          go_upto_region 1 with fail
          change Code.wp _ _ _ _ ((w.alloc (.cells (teC d x y z) 75)).alloc (.cells (dvC q) 40))
          generalize ((w.alloc (.cells (teC d x y z) 75)).alloc (.cells (dvC q) 40)) = W at *
          have hS := HS.out
          have b0 := hS.b.c10
          have b1 := hS.b.c11
          have b2 := hS.a.c4
          have b3 := hS.a.c7
          rw [hm.out] at b2
          go_upto_region 5 with (first | (go_at_call_of 59 (Value.int .i64 q.ms); refine (HPs.out _).mono ?_; rintro e w' ⟨rfl, rfl⟩) | (go_at_call_of 59 (Value.int .i64 q.mf); refine (HPf.out _).mono ?_; rintro e w' ⟨rfl, rfl⟩) | (go_at_call_of 59 (Value.int .i64 d.sa); refine (HPa.out _).mono ?_; rintro e w' ⟨rfl, rfl⟩))
          clear b0 b1 b2 b3
          have hSd := tqS_all (hS.below (Below.refl W.heap.size W).drew)
          refine wp_region_held_drew (S := fun w' => w'.cell? ⟨w.heap.size, 0, none⟩ = some (.bool d.ns) ∧ w'.cell? ⟨w.heap.size, 1, none⟩ = some (.bool d.nc) ∧ w'.cell? ⟨w.heap.size, 2, none⟩ = some (.bool d.pr) ∧ w'.cell? ⟨w.heap.size, 3, none⟩ = some (.bool d.pu) ∧ w'.cell? ⟨w.heap.size, 4, none⟩ = some (.bool d.mr) ∧ w'.cell? ⟨w.heap.size, 5, none⟩ = some (.bool d.oc) ∧ w'.cell? ⟨w.heap.size, 6, none⟩ = some (.int .i64 d.ma) ∧ w'.cell? ⟨w.heap.size, 7, none⟩ = some (.int .i64 d.sa) ∧ w'.cell? ⟨w.heap.size, 8, none⟩ = some (.int .i64 d.ws) ∧ w'.cell? ⟨w.heap.size, 9, none⟩ = some (.int .i64 d.oe) ∧ w'.cell? ⟨w.heap.size, 10, none⟩ = some (.int .i64 d.ms) ∧ w'.cell? ⟨w.heap.size, 11, none⟩ = some (.int .i64 d.mf) ∧ w'.cell? ⟨w.heap.size, 12, none⟩ = some (.int .i64 x) ∧ w'.cell? ⟨w.heap.size, 13, none⟩ = some (.int .i64 y) ∧ w'.cell? ⟨w.heap.size, 14, none⟩ = some (.int .i64 z) ∧ w'.cell? ⟨(w.heap.size + 1), 0, none⟩ = some (.bool q.ns) ∧ w'.cell? ⟨(w.heap.size + 1), 1, none⟩ = some (.bool q.nc) ∧ w'.cell? ⟨(w.heap.size + 1), 2, none⟩ = some (.bool q.pr) ∧ w'.cell? ⟨(w.heap.size + 1), 3, none⟩ = some (.bool q.pu) ∧ w'.cell? ⟨(w.heap.size + 1), 4, none⟩ = some (.bool q.mr) ∧ w'.cell? ⟨(w.heap.size + 1), 5, none⟩ = some (.bool q.oc) ∧ w'.cell? ⟨(w.heap.size + 1), 6, none⟩ = some (.int .i64 q.ma) ∧ w'.cell? ⟨(w.heap.size + 1), 7, none⟩ = some (.int .i64 q.sa) ∧ w'.cell? ⟨(w.heap.size + 1), 8, none⟩ = some (.int .i64 q.ws) ∧ w'.cell? ⟨(w.heap.size + 1), 9, none⟩ = some (.int .i64 q.oe) ∧ w'.cell? ⟨(w.heap.size + 1), 10, none⟩ = some (.int .i64 q.ms) ∧ w'.cell? ⟨(w.heap.size + 1), 11, none⟩ = some (.int .i64 q.mf) ∧ TqS w.heap.size (w.heap.size + 1) d q x y z w w') (by kernel_rfl) (hSd) (fun h0 => ?_)
          refine wpAnyH_take (i := 0) (oi := { dst := some 25, op := _, type := _, pos := _, after := _, guard := _ }) (v := ?_) rfl (by kernel_rfl) (by kernel_rfl) (by kernel_rfl) (fun _ _ _ h => h) (Or.inl ⟨by rfl, ?_⟩) (by assumption) ?_
          rotate_left
          focus (intro w hSw; (try dsimp only at hSw); first | (go_simp; done) | (go_simp; with_reducible rfl))
          (try simp only [Act.put, List.setIfInBounds_toArray, List.set_cons_zero, List.set_cons_succ])
          refine wpAnyH_take (i := 1) (oi := { dst := some 26, op := _, type := _, pos := _, after := _, guard := _ }) (v := ?_) rfl (by kernel_rfl) (by kernel_rfl) (by kernel_rfl) (fun _ _ _ h => h) (Or.inl ⟨by rfl, ?_⟩) (by assumption) ?_
          rotate_left
          focus (intro w hSw; (try dsimp only at hSw); first | (go_simp; done) | (go_simp; with_reducible rfl))
          (try simp only [Act.put, List.setIfInBounds_toArray, List.set_cons_zero, List.set_cons_succ])
          refine wpAnyH_take (i := 2) (oi := { dst := some 27, op := _, type := _, pos := _, after := _, guard := _ }) (v := ?_) rfl (by kernel_rfl) (by kernel_rfl) (by kernel_rfl) (fun _ _ _ h => h) (Or.inl ⟨by rfl, ?_⟩) (by assumption) ?_
          rotate_left
          focus (intro w hSw; (try dsimp only at hSw); first | (go_simp; done) | (go_simp; with_reducible rfl))
          (try simp only [Act.put, List.setIfInBounds_toArray, List.set_cons_zero, List.set_cons_succ])
          refine wpAnyH_take (i := 3) (oi := { dst := some 28, op := _, type := _, pos := _, after := _, guard := _ }) (v := ?_) rfl (by kernel_rfl) (by kernel_rfl) (by kernel_rfl) (fun _ _ _ h => h) (Or.inl ⟨by rfl, ?_⟩) (by assumption) ?_
          rotate_left
          focus (intro w hSw; (try dsimp only at hSw); first | (go_simp; done) | (go_simp; with_reducible rfl))
          (try simp only [Act.put, List.setIfInBounds_toArray, List.set_cons_zero, List.set_cons_succ])
          refine wpAnyH_take (i := 4) (oi := { dst := some 29, op := _, type := _, pos := _, after := _, guard := _ }) (v := ?_) rfl (by kernel_rfl) (by kernel_rfl) (by kernel_rfl) (fun _ _ _ h => h) (Or.inl ⟨by rfl, ?_⟩) (by assumption) ?_
          rotate_left
          focus (intro w hSw; (try dsimp only at hSw); first | (go_simp; done) | (go_simp; with_reducible rfl))
          (try simp only [Act.put, List.setIfInBounds_toArray, List.set_cons_zero, List.set_cons_succ])
          refine wpAnyH_ready (rs := [5]) (by kernel_rfl) (by simp) ?_
          refine AllReadyH.cons (o := { dst := some 30, op := _, type := _, pos := _, after := _, guard := _ }) rfl (fun K hK => ?_) AllReadyH.nil
          go_simp
          refine (HT.out _).mono ?_
          rintro e w5 ⟨rfl, rfl⟩
          refine hK.out _ _ (h0) (fun h5 => ?_)
          clear hK K 
          (try simp only [Act.put, List.setIfInBounds_toArray, List.set_cons_zero, List.set_cons_succ])
          refine wpAnyH_take (i := 6) (oi := { dst := some 31, op := _, type := _, pos := _, after := _, guard := _ }) (v := ?_) rfl (by kernel_rfl) (by kernel_rfl) (by kernel_rfl) (fun _ _ _ h => h) (Or.inl ⟨by rfl, ?_⟩) (by assumption) ?_
          rotate_left
          focus (intro w hSw; (try dsimp only at hSw); first | (go_simp; done) | (go_simp; with_reducible rfl))
          (try simp only [Act.put, List.setIfInBounds_toArray, List.set_cons_zero, List.set_cons_succ])
          refine wpAnyH_ready (rs := [7]) (by kernel_rfl) (by simp) ?_
          refine AllReadyH.cons (o := { dst := some 32, op := _, type := _, pos := _, after := _, guard := _ }) rfl (fun K hK => ?_) AllReadyH.nil
          go_simp
          refine (young_in HY.out h5).mono ?_
          rintro e w6 ⟨rfl, h6⟩
          refine hK.out _ _ (h6) (fun h7 => ?_)
          clear hK K 
          (try simp only [Act.put, List.setIfInBounds_toArray, List.set_cons_zero, List.set_cons_succ])
          refine wpAnyH_take (i := 8) (oi := { dst := some 6, op := _, type := _, pos := _, after := _, guard := _ }) (v := ?_) rfl (by kernel_rfl) (by kernel_rfl) (by kernel_rfl) (fun _ _ _ h => h) (Or.inl ⟨by rfl, ?_⟩) (by assumption) ?_
          rotate_left
          focus (intro w hSw; (try dsimp only at hSw); first | (go_simp; done) | (go_simp; with_reducible rfl))
          (try simp only [Act.put, List.setIfInBounds_toArray, List.set_cons_zero, List.set_cons_succ])
          refine wpAnyH_done (by kernel_rfl) ?_ _
          (try simp only [Exit.then])
          go_wp2_with fail
          go_ret
          exact ⟨retB HV.out.symm, tqS_low h7⟩
  · rw [decide_eq_false h1] at HPs HV
    rw [Bool.false_and, Bool.false_and, Bool.false_and, Bool.false_and] at HV
    clear h1
    go_enter Tryz.func34, Tryz.ntmps34
    go_upto_region 1 with fail
    change Code.wp _ _ _ _ ((w.alloc (.cells (teC d x y z) 75)).alloc (.cells (dvC q) 40))
    generalize ((w.alloc (.cells (teC d x y z) 75)).alloc (.cells (dvC q) 40)) = W at *
    have hS := HS.out
    have b0 := hS.b.c10
    have b1 := hS.b.c11
    have b2 := hS.a.c4
    have b3 := hS.a.c7
    go_wp2_with (first | (go_at_call_of 59 (Value.int .i64 q.ms); refine (HPs.out _).mono ?_; rintro e w' ⟨rfl, rfl⟩) | (go_at_call_of 59 (Value.int .i64 q.mf); refine (HPf.out _).mono ?_; rintro e w' ⟨rfl, rfl⟩) | (go_at_call_of 59 (Value.int .i64 d.sa); refine (HPa.out _).mono ?_; rintro e w' ⟨rfl, rfl⟩))
    all_goals
      go_ret
      exact ⟨retB (by first | exact HV.out.symm | (rw [HV.out]; simp [*]; done)), HS.out.l⟩
end Go.Proofs.YtieolalohindgaaGreatDoor

/- A region that draws its order and at last writes the cells that it reads ('x, y = f(x), g(y)'): what it reads holds until the first of its stores comes up. -/
namespace Go.Proofs.YtieolalohindgaaGreatDoor
open Go.RowKit

section
variable {P : Program} {ops : Array Oper} {Q : Exit → Act → World → Prop} {md : Region.Mode} {S : World → Prop} {s : Nat}

/-- Until number s has come up S holds behind each operation; from then on nothing is asked but the end. -/
def heldU (P : Program) (md : Region.Mode) (ops : Array Oper) (Q : Exit → Act → World → Prop) (S : World → Prop) (s : Nat) : Nat → Array Bool → Act → World → Prop
  | 0, done, a, w => Region.ready md ops done = [] ∧ Q .normal a w
  | n + 1, done, a, w => (Region.ready md ops done = [] → Q .normal a w) ∧
      ∀ i ∈ Region.ready md ops done, wpOp P ops Q i (fun a' w' => if i = s then wpAny P md ops Q n (done.setIfInBounds i true) a' w' else S w' ∧ heldU P md ops Q S s n (done.setIfInBounds i true) a' w') a w
theorem heldU.any : ∀ (n : Nat) (done : Array Bool) (a : Act) (w : World), heldU P md ops Q S s n done a w → wpAny P md ops Q n done a w
  | 0, _, _, _, h => h
  | n + 1, _, _, _, h => ⟨h.1, fun i hi => wpOp_mono (fun a' w' h' => by
      by_cases his : i = s
      · rw [if_pos his] at h'; exact h'
      · rw [if_neg his] at h'; exact heldU.any n _ _ _ h'.2) (h.2 i hi)⟩
/-- Number j waits for number i, by itself. -/
def waitsB (md : Region.Mode) (ops : Array Oper) (j i : Nat) : Bool := match ops[j]? with
  | some o => o.after.toList.any fun e => Region.binds md e && e.on == i
  | none => false
theorem waits_not {j i : Nat} {done : Array Bool} (h : waitsB md ops j i = true) (hi : done.getD i true = false) : j ∉ Region.ready md ops done := by
  intro hj
  obtain ⟨_, o, ho, hall⟩ := mem_ready.1 hj
  unfold waitsB at h
  rw [ho] at h
  obtain ⟨e, he, hb⟩ := List.any_eq_true.1 h
  rw [Bool.and_eq_true, beq_iff_eq] at hb
  have h1 := hall e (by simpa using he) hb.1
  rw [hb.2] at h1
  rcases Nat.lt_or_ge i done.size with h' | h'
  · simp [h'] at hi h1; rw [hi] at h1; cases h1
  · simp [Array.getElem?_eq_none h'] at h1
/-- An operation that the first store waits for (or that one waits for which it waits for) may be taken first. -/
theorem heldU_first {i k : Nat} {oi : Oper} {v : Value} (hi : ops[i]? = some oi) (hsel : ∀ (j : Nat) (o : Oper) cs b, ops[j]? = some o → o.op ≠ .select cs b)
    (hQ : ∀ c a w, Q (.panic c) (a.put oi.dst v) w → Q (.panic c) a w) (hsk : waitsB md ops s k = true) (hki : k = i ∨ waitsB md ops k i = true) :
    ∀ (n : Nat) (done : Array Bool) (a : Act) (w : World),
      (∀ j oj, ops[j]? = some oj → j ≠ i → done.getD j true = false → (∀ e ∈ oj.after, Region.binds md e = true → e.on ≠ i) → oi.apart ops oj = true) →
      done.getD k true = false → i ∈ Region.ready md ops done → YieldsIf P ops S oi v a → S w →
      heldU P md ops Q S s n (done.setIfInBounds i true) (a.put oi.dst v) w → heldU P md ops Q S s (n + 1) done a w := by
  have his : ∀ done : Array Bool, done.getD k true = false → i ∈ Region.ready md ops done → i ≠ s := by
    intro done hk hr e
    subst e
    exact waits_not hsk hk hr
  intro n
  induction n with
  | zero =>
    intro done a w _ hk hr hy hS H
    refine ⟨fun h => (by rw [h] at hr; cases hr), fun j hj => ?_⟩
    by_cases hji : j = i
    · subst hji
      refine hy.wpOp hi hS ?_
      rw [if_neg (his _ hk hr)]
      exact ⟨hS, H⟩
    · have := ready_mono hj hji
      rw [H.1] at this
      cases this
  | succ n ih =>
    intro done a w hfree hk hr hy hS H
    refine ⟨fun h => (by rw [h] at hr; cases hr), fun j hj => ?_⟩
    by_cases hji : j = i
    · subst hji
      refine hy.wpOp hi hS ?_
      rw [if_neg (his _ hk hr)]
      exact ⟨hS, H⟩
    · have hjs : j ≠ s := by
        intro e
        subst e
        exact waits_not hsk hk hj
      have hjk : j ≠ k := by
        intro e
        subst e
        rcases hki with e | e
        · exact hji e
        · exact waits_not e (mem_ready.1 hr).1 hj
      have h1 := H.2 j (ready_mono hj hji)
      obtain ⟨hjun, oj, hoj, hall⟩ := mem_ready.1 hj
      have hnot : ∀ e ∈ oj.after, Region.binds md e = true → e.on ≠ i := fun e he hb heq => by
        have g1 := hall e he hb
        have g0 := (mem_ready.1 hr).1
        rw [heq] at g1
        rcases Nat.lt_or_ge i done.size with h' | h'
        · simp [h'] at g0 g1; rw [g0] at g1; cases g1
        · simp [Array.getElem?_eq_none h'] at g1
      have h2 := wpOp_putIf hoj (hfree j oj hoj hji hjun hnot) (fun cs b => hsel i oi cs b hi) (fun cs b => hsel j oj cs b hoj) hQ hy h1
      have hfree' : ∀ m om, ops[m]? = some om → m ≠ i → (done.setIfInBounds j true).getD m true = false →
          (∀ e ∈ om.after, Region.binds md e = true → e.on ≠ i) → oi.apart ops om = true := fun m om hm hmi hun hno => by
        refine hfree m om hm hmi ?_ hno
        by_cases hjm : j = m
        · subst hjm; exact hjun
        · rw [getD_set_ne true hjm] at hun; exact hun
      refine wpOp_mono (fun a' w' h3 => ?_) h2
      rw [if_neg hjs] at h3 ⊢
      refine ⟨h3.2.1, ih (done.setIfInBounds j true) a' w' hfree' (by rw [getD_set_ne true hjk]; exact hk) (ready_mono hr (Ne.symm hji)) h3.1 h3.2.1 ?_⟩
      rw [Array.setIfInBounds_comm _ _ hji]
      exact h3.2.2
/-- Take number i first. -/
theorem heldU_take {i k : Nat} {oi : Oper} {v : Value} {n : Nat} {done : Array Bool} {a : Act} {w : World} (hi : ops[i]? = some oi)
    (hs : Region.noSelect ops = true) (hf : Region.free md ops done i = true) (hr : (Region.ready md ops done).contains i = true)
    (hsk : waitsB md ops s k = true) (hki : (decide (k = i) || waitsB md ops k i) = true) (hk : done.getD k true = false)
    (hQ : ∀ c a w, Q (.panic c) (a.put oi.dst v) w → Q (.panic c) a w) (hy : YieldsIf P ops S oi v a) (hS : S w)
    (h : heldU P md ops Q S s n (done.setIfInBounds i true) (a.put oi.dst v) w) : heldU P md ops Q S s (n + 1) done a w :=
  heldU_first hi (Region.noSelect_spec hs) hQ hsk (by simpa using hki) n done a w (Region.free_spec hi hf) hk (by simpa using hr) hy hS h
/-- The one that may come up comes up; it is not the first store. -/
theorem heldU_one {i : Nat} {o : Oper} {n : Nat} {done : Array Bool} {a : Act} {w : World} (hr : Region.ready md ops done = [i]) (ho : ops[i]? = some o) (hs : i ≠ s)
    (h : ∀ K' : Act → World → Prop, Shut (∀ a w, S w → (S w → heldU P md ops Q S s n (done.setIfInBounds i true) a w) → K' a w) → if Region.wanted o (yielded ops a.tmps) = true then Oper.wp P o a w K' Q else K' (a.put o.dst undef) w) :
    heldU P md ops Q S s (n + 1) done a w := by
  refine ⟨fun h0 => (by rw [hr] at h0; cases h0), fun j hj => ?_⟩
  rw [hr] at hj
  obtain rfl := List.mem_singleton.1 hj
  refine wpOp_step ho (fun K' hK => h K' (fun a w hS hW => hK a w ?_))
  rw [if_neg hs]
  exact ⟨hS, hW hS⟩
/-- Two may come up, neither the first store. -/
theorem heldU_two {i j : Nat} {oi oj : Oper} {n : Nat} {done : Array Bool} {a : Act} {w : World} (hr : Region.ready md ops done = [i, j]) (hi : ops[i]? = some oi) (hj : ops[j]? = some oj) (his : i ≠ s) (hjs : j ≠ s)
    (h1 : ∀ K' : Act → World → Prop, Shut (∀ a w, S w → (S w → heldU P md ops Q S s n (done.setIfInBounds i true) a w) → K' a w) → if Region.wanted oi (yielded ops a.tmps) = true then Oper.wp P oi a w K' Q else K' (a.put oi.dst undef) w)
    (h2 : ∀ K' : Act → World → Prop, Shut (∀ a w, S w → (S w → heldU P md ops Q S s n (done.setIfInBounds j true) a w) → K' a w) → if Region.wanted oj (yielded ops a.tmps) = true then Oper.wp P oj a w K' Q else K' (a.put oj.dst undef) w) :
    heldU P md ops Q S s (n + 1) done a w := by
  refine ⟨fun h0 => (by rw [hr] at h0; cases h0), fun k hk => ?_⟩
  rw [hr] at hk
  rcases List.mem_cons.1 hk with rfl | hk
  · refine wpOp_step hi (fun K' hK => h1 K' (fun a w hS hW => hK a w ?_))
    rw [if_neg his]
    exact ⟨hS, hW hS⟩
  · obtain rfl := List.mem_singleton.1 hk
    refine wpOp_step hj (fun K' hK => h2 K' (fun a w hS hW => hK a w ?_))
    rw [if_neg hjs]
    exact ⟨hS, hW hS⟩
/-- The first store comes up: what follows is a region of which nothing is held. -/
theorem heldU_store {o : Oper} {n : Nat} {done : Array Bool} {a : Act} {w : World} (hr : Region.ready md ops done = [s]) (ho : ops[s]? = some o)
    (h : ∀ K' : Act → World → Prop, Shut (∀ a w, wpAnyH P md ops Q (fun _ => True) n (done.setIfInBounds s true) a w → K' a w) → if Region.wanted o (yielded ops a.tmps) = true then Oper.wp P o a w K' Q else K' (a.put o.dst undef) w) :
    heldU P md ops Q S s (n + 1) done a w := by
  refine ⟨fun h0 => (by rw [hr] at h0; cases h0), fun j hj => ?_⟩
  rw [hr] at hj
  obtain rfl := List.mem_singleton.1 hj
  refine wpOp_step ho (fun K' hK => h K' (fun a w hW => hK a w ?_))
  rw [if_pos rfl]
  exact wpAny_of_held _ _ _ _ hW
/-- The beginning. -/
theorem heldU_begin {id : Nat} {a : Act} {w : World} (s : Nat) (hm : P.follows .mixedOrders = true) (hS : S w.drew)
    (h : S w.drew → heldU P .any ops Q S s ops.size (Array.replicate ops.size false) a w.drew) : (Code.region id ops true).wp P Q a w :=
  wp_region_any hm (heldU.any _ _ _ _ (h hS))
end
end Go.Proofs.YtieolalohindgaaGreatDoor
