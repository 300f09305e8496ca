/- Directives in memory: a block of twelve cells. -/
import Derived.Test.YtnjjjfbklgdgpaaDoorDPure
import Derived.Test.YtnjjjfbklgdgpaaDoorKOnly
namespace Go.Proofs.YtnjjjfbklgdgpaaDoor
open Go.RowKit

abbrev dvC (d : Dv) : Array Value := #[.bool d.ns, .bool d.nc, .bool d.pr, .bool d.pu, .bool d.mr, .bool d.oc, .int .i64 d.ma, .int .i64 d.sa, .int .i64 d.ws, .int .i64 d.oe, .int .i64 d.ms, .int .i64 d.mf]
abbrev dvV (d : Dv) : Value := .agg #[.bool d.ns, .bool d.nc, .bool d.pr, .bool d.pu, .bool d.mr, .bool d.oc, .int .i64 d.ma, .int .i64 d.sa, .int .i64 d.ws, .int .i64 d.oe, .int .i64 d.ms, .int .i64 d.mf]
/-- A block of the twelve cells. -/
structure DvB (N : Nat) (w : World) (d : Dv) : Prop where
  c0 : w.cell? ⟨N, 0, none⟩ = some (.bool d.ns)
  c1 : w.cell? ⟨N, 1, none⟩ = some (.bool d.nc)
  c2 : w.cell? ⟨N, 2, none⟩ = some (.bool d.pr)
  c3 : w.cell? ⟨N, 3, none⟩ = some (.bool d.pu)
  c4 : w.cell? ⟨N, 4, none⟩ = some (.bool d.mr)
  c5 : w.cell? ⟨N, 5, none⟩ = some (.bool d.oc)
  c6 : w.cell? ⟨N, 6, none⟩ = some (.int .i64 d.ma)
  c7 : w.cell? ⟨N, 7, none⟩ = some (.int .i64 d.sa)
  c8 : w.cell? ⟨N, 8, none⟩ = some (.int .i64 d.ws)
  c9 : w.cell? ⟨N, 9, none⟩ = some (.int .i64 d.oe)
  c10 : w.cell? ⟨N, 10, none⟩ = some (.int .i64 d.ms)
  c11 : w.cell? ⟨N, 11, none⟩ = some (.int .i64 d.mf)
  fr : ∀ j, w.frozen? ⟨N, j, none⟩ = false
  lt : N < w.heap.size
theorem DvB.below {N : Nat} {w w' : World} {d : Dv} (h : DvB N w d) (hb : Below w.heap.size w w') : DvB N w' d :=
  ⟨(hb.cell (p := ⟨N, 0, none⟩) h.lt).trans h.c0, (hb.cell (p := ⟨N, 1, none⟩) h.lt).trans h.c1, (hb.cell (p := ⟨N, 2, none⟩) h.lt).trans h.c2, (hb.cell (p := ⟨N, 3, none⟩) h.lt).trans h.c3, (hb.cell (p := ⟨N, 4, none⟩) h.lt).trans h.c4, (hb.cell (p := ⟨N, 5, none⟩) h.lt).trans h.c5, (hb.cell (p := ⟨N, 6, none⟩) h.lt).trans h.c6, (hb.cell (p := ⟨N, 7, none⟩) h.lt).trans h.c7, (hb.cell (p := ⟨N, 8, none⟩) h.lt).trans h.c8, (hb.cell (p := ⟨N, 9, none⟩) h.lt).trans h.c9, (hb.cell (p := ⟨N, 10, none⟩) h.lt).trans h.c10, (hb.cell (p := ⟨N, 11, none⟩) h.lt).trans h.c11, fun j => (hb.frozen (p := ⟨N, j, none⟩) h.lt).trans (h.fr j), Nat.lt_of_lt_of_le h.lt hb.size⟩
theorem DvB.only {X : Nat → Prop} {N : Nat} {w w' : World} {d : Dv} (h : DvB N w d) (hb : Only X w w') (hx : ¬ X N) : DvB N w' d :=
  ⟨(hb.cell (p := ⟨N, 0, none⟩) h.lt hx).trans h.c0, (hb.cell (p := ⟨N, 1, none⟩) h.lt hx).trans h.c1, (hb.cell (p := ⟨N, 2, none⟩) h.lt hx).trans h.c2, (hb.cell (p := ⟨N, 3, none⟩) h.lt hx).trans h.c3, (hb.cell (p := ⟨N, 4, none⟩) h.lt hx).trans h.c4, (hb.cell (p := ⟨N, 5, none⟩) h.lt hx).trans h.c5, (hb.cell (p := ⟨N, 6, none⟩) h.lt hx).trans h.c6, (hb.cell (p := ⟨N, 7, none⟩) h.lt hx).trans h.c7, (hb.cell (p := ⟨N, 8, none⟩) h.lt hx).trans h.c8, (hb.cell (p := ⟨N, 9, none⟩) h.lt hx).trans h.c9, (hb.cell (p := ⟨N, 10, none⟩) h.lt hx).trans h.c10, (hb.cell (p := ⟨N, 11, none⟩) h.lt hx).trans h.c11, fun j => (hb.frozen (p := ⟨N, j, none⟩) h.lt hx).trans (h.fr j), Nat.lt_of_lt_of_le h.lt hb.size⟩
theorem dvB_new (w : World) (d : Dv) (T : TypeId) : DvB w.heap.size (w.alloc (.cells (dvC d) T)) d :=
  ⟨by rw [World.cell?_alloc_at _ _ _ _ rfl]; rfl, by rw [World.cell?_alloc_at _ _ _ _ rfl]; rfl, by rw [World.cell?_alloc_at _ _ _ _ rfl]; rfl, by rw [World.cell?_alloc_at _ _ _ _ rfl]; rfl, by rw [World.cell?_alloc_at _ _ _ _ rfl]; rfl, by rw [World.cell?_alloc_at _ _ _ _ rfl]; rfl, by rw [World.cell?_alloc_at _ _ _ _ rfl]; rfl, by rw [World.cell?_alloc_at _ _ _ _ rfl]; rfl, by rw [World.cell?_alloc_at _ _ _ _ rfl]; rfl, by rw [World.cell?_alloc_at _ _ _ _ rfl]; rfl, by rw [World.cell?_alloc_at _ _ _ _ rfl]; rfl, by rw [World.cell?_alloc_at _ _ _ _ rfl]; rfl, fun j => World.frozen?_alloc_new _ _ _ _, by simp⟩
theorem below_dv {B N : Nat} {w w1 : World} (h : Below B w w1) (hN : B ≤ N) (v0 v1 v2 v3 v4 v5 v6 v7 v8 v9 v10 v11 : Value) : Below B w (((((((((((((w1).setCell ⟨N, 0, none⟩ v0).setCell ⟨N, 1, none⟩ v1).setCell ⟨N, 2, none⟩ v2).setCell ⟨N, 3, none⟩ v3).setCell ⟨N, 4, none⟩ v4).setCell ⟨N, 5, none⟩ v5).setCell ⟨N, 6, none⟩ v6).setCell ⟨N, 7, none⟩ v7).setCell ⟨N, 8, none⟩ v8).setCell ⟨N, 9, none⟩ v9).setCell ⟨N, 10, none⟩ v10).setCell ⟨N, 11, none⟩ v11) :=
  ((((((((((((h).setCell (p := ⟨N, 0, none⟩) hN _).setCell (p := ⟨N, 1, none⟩) hN _).setCell (p := ⟨N, 2, none⟩) hN _).setCell (p := ⟨N, 3, none⟩) hN _).setCell (p := ⟨N, 4, none⟩) hN _).setCell (p := ⟨N, 5, none⟩) hN _).setCell (p := ⟨N, 6, none⟩) hN _).setCell (p := ⟨N, 7, none⟩) hN _).setCell (p := ⟨N, 8, none⟩) hN _).setCell (p := ⟨N, 9, none⟩) hN _).setCell (p := ⟨N, 10, none⟩) hN _).setCell (p := ⟨N, 11, none⟩) hN _
theorem DvB.set {N : Nat} {w : World} {e : Dv} (h : DvB N w e) (d : Dv) : DvB N (((((((((((((w).setCell ⟨N, 0, none⟩ (.bool d.ns)).setCell ⟨N, 1, none⟩ (.bool d.nc)).setCell ⟨N, 2, none⟩ (.bool d.pr)).setCell ⟨N, 3, none⟩ (.bool d.pu)).setCell ⟨N, 4, none⟩ (.bool d.mr)).setCell ⟨N, 5, none⟩ (.bool d.oc)).setCell ⟨N, 6, none⟩ (.int .i64 d.ma)).setCell ⟨N, 7, none⟩ (.int .i64 d.sa)).setCell ⟨N, 8, none⟩ (.int .i64 d.ws)).setCell ⟨N, 9, none⟩ (.int .i64 d.oe)).setCell ⟨N, 10, none⟩ (.int .i64 d.ms)).setCell ⟨N, 11, none⟩ (.int .i64 d.mf)) d := by
  obtain ⟨c0, c1, c2, c3, c4, c5, c6, c7, c8, c9, c10, c11, fr, lt⟩ := h
  refine ⟨?_, ?_, ?_, ?_, ?_, ?_, ?_, ?_, ?_, ?_, ?_, ?_, fun j => by simpa using fr j, by simpa using lt⟩
  all_goals simp (maxDischargeDepth := 15) [go_sem, c0, c1, c2, c3, c4, c5, c6, c7, c8, c9, c10, c11]
theorem DvB.set0 {N : Nat} {w : World} {d : Dv} (h : DvB N w d) (x : Bool) : DvB N (w.setCell ⟨N, 0, none⟩ (.bool x)) { d with ns := x } := by
  obtain ⟨c0, c1, c2, c3, c4, c5, c6, c7, c8, c9, c10, c11, fr, lt⟩ := h
  refine ⟨?_, ?_, ?_, ?_, ?_, ?_, ?_, ?_, ?_, ?_, ?_, ?_, fun j => by simpa using fr j, by simpa using lt⟩
  all_goals simp [go_sem, c0, c1, c2, c3, c4, c5, c6, c7, c8, c9, c10, c11]
theorem DvB.set1 {N : Nat} {w : World} {d : Dv} (h : DvB N w d) (x : Bool) : DvB N (w.setCell ⟨N, 1, none⟩ (.bool x)) { d with nc := x } := by
  obtain ⟨c0, c1, c2, c3, c4, c5, c6, c7, c8, c9, c10, c11, fr, lt⟩ := h
  refine ⟨?_, ?_, ?_, ?_, ?_, ?_, ?_, ?_, ?_, ?_, ?_, ?_, fun j => by simpa using fr j, by simpa using lt⟩
  all_goals simp [go_sem, c0, c1, c2, c3, c4, c5, c6, c7, c8, c9, c10, c11]
theorem DvB.set2 {N : Nat} {w : World} {d : Dv} (h : DvB N w d) (x : Bool) : DvB N (w.setCell ⟨N, 2, none⟩ (.bool x)) { d with pr := x } := by
  obtain ⟨c0, c1, c2, c3, c4, c5, c6, c7, c8, c9, c10, c11, fr, lt⟩ := h
  refine ⟨?_, ?_, ?_, ?_, ?_, ?_, ?_, ?_, ?_, ?_, ?_, ?_, fun j => by simpa using fr j, by simpa using lt⟩
  all_goals simp [go_sem, c0, c1, c2, c3, c4, c5, c6, c7, c8, c9, c10, c11]
theorem DvB.set3 {N : Nat} {w : World} {d : Dv} (h : DvB N w d) (x : Bool) : DvB N (w.setCell ⟨N, 3, none⟩ (.bool x)) { d with pu := x } := by
  obtain ⟨c0, c1, c2, c3, c4, c5, c6, c7, c8, c9, c10, c11, fr, lt⟩ := h
  refine ⟨?_, ?_, ?_, ?_, ?_, ?_, ?_, ?_, ?_, ?_, ?_, ?_, fun j => by simpa using fr j, by simpa using lt⟩
  all_goals simp [go_sem, c0, c1, c2, c3, c4, c5, c6, c7, c8, c9, c10, c11]
theorem DvB.set4 {N : Nat} {w : World} {d : Dv} (h : DvB N w d) (x : Bool) : DvB N (w.setCell ⟨N, 4, none⟩ (.bool x)) { d with mr := x } := by
  obtain ⟨c0, c1, c2, c3, c4, c5, c6, c7, c8, c9, c10, c11, fr, lt⟩ := h
  refine ⟨?_, ?_, ?_, ?_, ?_, ?_, ?_, ?_, ?_, ?_, ?_, ?_, fun j => by simpa using fr j, by simpa using lt⟩
  all_goals simp [go_sem, c0, c1, c2, c3, c4, c5, c6, c7, c8, c9, c10, c11]
theorem DvB.set5 {N : Nat} {w : World} {d : Dv} (h : DvB N w d) (x : Bool) : DvB N (w.setCell ⟨N, 5, none⟩ (.bool x)) { d with oc := x } := by
  obtain ⟨c0, c1, c2, c3, c4, c5, c6, c7, c8, c9, c10, c11, fr, lt⟩ := h
  refine ⟨?_, ?_, ?_, ?_, ?_, ?_, ?_, ?_, ?_, ?_, ?_, ?_, fun j => by simpa using fr j, by simpa using lt⟩
  all_goals simp [go_sem, c0, c1, c2, c3, c4, c5, c6, c7, c8, c9, c10, c11]
theorem DvB.set6 {N : Nat} {w : World} {d : Dv} (h : DvB N w d) (x : Int) : DvB N (w.setCell ⟨N, 6, none⟩ (.int .i64 x)) { d with ma := x } := by
  obtain ⟨c0, c1, c2, c3, c4, c5, c6, c7, c8, c9, c10, c11, fr, lt⟩ := h
  refine ⟨?_, ?_, ?_, ?_, ?_, ?_, ?_, ?_, ?_, ?_, ?_, ?_, fun j => by simpa using fr j, by simpa using lt⟩
  all_goals simp [go_sem, c0, c1, c2, c3, c4, c5, c6, c7, c8, c9, c10, c11]
theorem DvB.set7 {N : Nat} {w : World} {d : Dv} (h : DvB N w d) (x : Int) : DvB N (w.setCell ⟨N, 7, none⟩ (.int .i64 x)) { d with sa := x } := by
  obtain ⟨c0, c1, c2, c3, c4, c5, c6, c7, c8, c9, c10, c11, fr, lt⟩ := h
  refine ⟨?_, ?_, ?_, ?_, ?_, ?_, ?_, ?_, ?_, ?_, ?_, ?_, fun j => by simpa using fr j, by simpa using lt⟩
  all_goals simp [go_sem, c0, c1, c2, c3, c4, c5, c6, c7, c8, c9, c10, c11]
theorem DvB.set8 {N : Nat} {w : World} {d : Dv} (h : DvB N w d) (x : Int) : DvB N (w.setCell ⟨N, 8, none⟩ (.int .i64 x)) { d with ws := x } := by
  obtain ⟨c0, c1, c2, c3, c4, c5, c6, c7, c8, c9, c10, c11, fr, lt⟩ := h
  refine ⟨?_, ?_, ?_, ?_, ?_, ?_, ?_, ?_, ?_, ?_, ?_, ?_, fun j => by simpa using fr j, by simpa using lt⟩
  all_goals simp [go_sem, c0, c1, c2, c3, c4, c5, c6, c7, c8, c9, c10, c11]
theorem DvB.set9 {N : Nat} {w : World} {d : Dv} (h : DvB N w d) (x : Int) : DvB N (w.setCell ⟨N, 9, none⟩ (.int .i64 x)) { d with oe := x } := by
  obtain ⟨c0, c1, c2, c3, c4, c5, c6, c7, c8, c9, c10, c11, fr, lt⟩ := h
  refine ⟨?_, ?_, ?_, ?_, ?_, ?_, ?_, ?_, ?_, ?_, ?_, ?_, fun j => by simpa using fr j, by simpa using lt⟩
  all_goals simp [go_sem, c0, c1, c2, c3, c4, c5, c6, c7, c8, c9, c10, c11]
theorem DvB.set10 {N : Nat} {w : World} {d : Dv} (h : DvB N w d) (x : Int) : DvB N (w.setCell ⟨N, 10, none⟩ (.int .i64 x)) { d with ms := x } := by
  obtain ⟨c0, c1, c2, c3, c4, c5, c6, c7, c8, c9, c10, c11, fr, lt⟩ := h
  refine ⟨?_, ?_, ?_, ?_, ?_, ?_, ?_, ?_, ?_, ?_, ?_, ?_, fun j => by simpa using fr j, by simpa using lt⟩
  all_goals simp [go_sem, c0, c1, c2, c3, c4, c5, c6, c7, c8, c9, c10, c11]
theorem DvB.set11 {N : Nat} {w : World} {d : Dv} (h : DvB N w d) (x : Int) : DvB N (w.setCell ⟨N, 11, none⟩ (.int .i64 x)) { d with mf := x } := by
  obtain ⟨c0, c1, c2, c3, c4, c5, c6, c7, c8, c9, c10, c11, fr, lt⟩ := h
  refine ⟨?_, ?_, ?_, ?_, ?_, ?_, ?_, ?_, ?_, ?_, ?_, ?_, fun j => by simpa using fr j, by simpa using lt⟩
  all_goals simp [go_sem, c0, c1, c2, c3, c4, c5, c6, c7, c8, c9, c10, c11]
theorem DvB.other {N M : Nat} {w : World} {d : Dv} (h : DvB N w d) (hn : M ≠ N) (v0 v1 v2 v3 v4 v5 v6 v7 v8 v9 v10 v11 : Value) : DvB N (((((((((((((w).setCell ⟨M, 0, none⟩ v0).setCell ⟨M, 1, none⟩ v1).setCell ⟨M, 2, none⟩ v2).setCell ⟨M, 3, none⟩ v3).setCell ⟨M, 4, none⟩ v4).setCell ⟨M, 5, none⟩ v5).setCell ⟨M, 6, none⟩ v6).setCell ⟨M, 7, none⟩ v7).setCell ⟨M, 8, none⟩ v8).setCell ⟨M, 9, none⟩ v9).setCell ⟨M, 10, none⟩ v10).setCell ⟨M, 11, none⟩ v11) d :=
  h.only (((((((((((((Only.refl (· = M) w).trans' (Only.set (X := (· = M)) rfl _ 0 v0)).trans' (Only.set (X := (· = M)) rfl _ 1 v1)).trans' (Only.set (X := (· = M)) rfl _ 2 v2)).trans' (Only.set (X := (· = M)) rfl _ 3 v3)).trans' (Only.set (X := (· = M)) rfl _ 4 v4)).trans' (Only.set (X := (· = M)) rfl _ 5 v5)).trans' (Only.set (X := (· = M)) rfl _ 6 v6)).trans' (Only.set (X := (· = M)) rfl _ 7 v7)).trans' (Only.set (X := (· = M)) rfl _ 8 v8)).trans' (Only.set (X := (· = M)) rfl _ 9 v9)).trans' (Only.set (X := (· = M)) rfl _ 10 v10)).trans' (Only.set (X := (· = M)) rfl _ 11 v11)) (fun e => hn e.symm)
theorem dv_eq (d e : Dv) : d = e ↔ d.ns = e.ns ∧ d.nc = e.nc ∧ d.pr = e.pr ∧ d.pu = e.pu ∧ d.mr = e.mr ∧ d.oc = e.oc ∧ d.ma = e.ma ∧ d.sa = e.sa ∧ d.ws = e.ws ∧ d.oe = e.oe ∧ d.ms = e.ms ∧ d.mf = e.mf := by
  cases d; cases e; simp
end Go.Proofs.YtnjjjfbklgdgpaaDoor
