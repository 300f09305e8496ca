import Derived.Test.YtieolalohindgaaGreatDoorPa0
import Derived.Lib.Builder
import Derived.Test.YtieolalohindgaaGreatDoorPa4
/- Worlds in which only the blocks of a set have changed. -/
namespace Go.Proofs.YtieolalohindgaaGreatDoor
open Go.RowKit

/-- Of what was there in w only the blocks of X may have changed in w'. -/
structure Only (X : Nat → Prop) (w w' : World) : Prop where
  os : w'.os = w.os
  tape : w'.tape = w.tape
  output : w'.output = w.output
  size : w.heap.size ≤ w'.heap.size
  block : ∀ k, k < w.heap.size → ¬ X k → w'.heap[k]? = w.heap[k]?
theorem Only.refl (X : Nat → Prop) (w : World) : Only X w w := ⟨rfl, rfl, rfl, Nat.le_refl _, fun _ _ _ => rfl⟩
theorem Only.trans {X Y : Nat → Prop} {a b c : World} (h : Only X a b) (k : Only Y b c) (hY : ∀ i, Y i → X i ∨ a.heap.size ≤ i) : Only X a c :=
  ⟨k.os.trans h.os, k.tape.trans h.tape, k.output.trans h.output, Nat.le_trans h.size k.size, fun i hi hx =>
    (k.block i (Nat.lt_of_lt_of_le hi h.size) (fun hy => by rcases hY i hy with h' | h'; exact hx h'; omega)).trans (h.block i hi hx)⟩
theorem Only.trans' {X : Nat → Prop} {a b c : World} (h : Only X a b) (k : Only X b c) : Only X a c := h.trans k fun _ h => .inl h
theorem Only.set {X : Nat → Prop} {b : Nat} (hb : X b) (w : World) (j : Nat) (u : Value) : Only X w (w.setCell ⟨b, j, none⟩ u) :=
  ⟨rfl, rfl, rfl, by simp, fun k _ hk => Below.heap_setCell _ _ _ _ (fun e => hk (by rw [e]; exact hb))⟩
theorem Only.below {X : Nat → Prop} {w w' : World} (h : Below w.heap.size w w') : Only X w w' := ⟨h.os, h.tape, h.output, h.size, fun k hk _ => h.block k hk⟩
theorem Only.alloc (X : Nat → Prop) (w : World) (o : Obj) : Only X w (w.alloc o) := Only.below (below_new w o)
theorem Only.drew (X : Nat → Prop) (w : World) : Only X w w.drew := Only.below (Below.refl _ _).drew
theorem Only.drewN (X : Nat → Prop) (w : World) (n : Nat) : Only X w (w.drewN n) := Only.below (below_drewN (Below.refl _ _) n)
theorem Only.grown {X : Nat → Prop} {w w' : World} {row : Option Nat} (h : w.grownBy w' row) (hr : ∀ k, row = some k → X k ∨ w.heap.size ≤ k) : Only X w w' :=
  ⟨h.os, h.tape, h.output, h.size, fun k hk hx => h.block k hk (fun e => by rcases hr k e.symm with h' | h'; exact hx h'; omega)⟩
theorem Only.to {X : Nat → Prop} {w w' : World} {B : Nat} (h : Only X w w') (hX : ∀ k, X k → B ≤ k) (hB : B ≤ w.heap.size) : Below B w w' :=
  ⟨h.os, h.tape, h.output, h.size, fun k hk => h.block k (Nat.lt_of_lt_of_le hk hB) (fun hx => by have := hX k hx; omega)⟩
theorem Only.mono {X Y : Nat → Prop} {w w' : World} (h : Only X w w') (hY : ∀ k, X k → Y k) : Only Y w w' :=
  ⟨h.os, h.tape, h.output, h.size, fun k hk hy => h.block k hk (fun hx => hy (hY k hx))⟩
theorem Only.cell {X : Nat → Prop} {w w' : World} (h : Only X w w') {p : Addr} (hp : p.block < w.heap.size) (hx : ¬ X p.block) : w'.cell? p = w.cell? p := World.cell?_of_block (h.block _ hp hx)
theorem Only.frozen {X : Nat → Prop} {w w' : World} (h : Only X w w') {p : Addr} (hp : p.block < w.heap.size) (hx : ¬ X p.block) : w'.frozen? p = w.frozen? p := World.frozen?_of_block (h.block _ hp hx)
theorem Only.owns {X : Nat → Prop} {w w' : World} (h : Only X w w') {B : Nat} {e : TypeId} {size : Nat} {v : Value} {n : Nat} {xs : List Value} (ho : w.ownsRow B e size v n xs) (hv : ∀ k, v.ownBlock = some k → ¬ X k) : w'.ownsRow B e size v n xs := by
  obtain ⟨hl, hv' | ⟨g, cap, cur, rfl, hb, hg, rest⟩⟩ := ho
  · exact ⟨hl, .inl hv'⟩
  · refine ⟨hl, .inr ⟨g, cap, cur, rfl, hb, ?_, rest⟩⟩
    rw [h.block g (Array.getElem?_eq_some_iff.1 hg).1 (hv g rfl)]; exact hg
theorem ownsRow_base {B C : Nat} {w : World} {e : TypeId} {size : Nat} {v : Value} {n : Nat} {xs : List Value} (h : w.ownsRow B e size v n xs) (hC : ∀ k, v.ownBlock = some k → C ≤ k) : w.ownsRow C e size v n xs := by
  obtain ⟨hl, hv' | ⟨g, cap, cur, rfl, hb, rest⟩⟩ := h
  · exact ⟨hl, .inl hv'⟩
  · exact ⟨hl, .inr ⟨g, cap, cur, rfl, hC g rfl, rest⟩⟩
/-- The block of a row is no block of another type. -/
theorem ownBlock_other {w : World} {B : Nat} {e T : TypeId} {size : Nat} {v : Value} {n : Nat} {xs : List Value} {b : Nat} {cs : Array Value} {fr : Nat × Nat} (hown : w.ownsRow B e size v n xs) (hb : w.heap[b]? = some (.cells cs T fr)) (hTe : T ≠ e) : v.ownBlock ≠ some b := by
  rcases hown.2 with ⟨rfl, _⟩ | ⟨g, cap, cur, rfl, _, hg, _⟩
  · simp [Value.ownBlock]
  · intro h
    simp only [Value.ownBlock, Option.some.injEq] at h
    subst h
    rw [hg] at hb
    simp only [Option.some.injEq, Obj.cells.injEq] at hb
    exact hTe hb.2.1.symm
end Go.Proofs.YtieolalohindgaaGreatDoor

/- Directives in memory: a block of twelve cells. -/
namespace Go.Proofs.YtieolalohindgaaGreatDoor
open Go.RowKit

abbrev dvC (d : Dv) : Array Value := #[.bool d.ns, .bool d.nc, .bool d.pr, .bool d.pu, .bool d.mr, .bool d.oc, .int .i64 d.ma, .int .i64 d.sa, .int .i64 d.ws, .int .i64 d.oe, .int .i64 d.ms, .int .i64 d.mf]
abbrev dvV (d : Dv) : Value := .agg #[.bool d.ns, .bool d.nc, .bool d.pr, .bool d.pu, .bool d.mr, .bool d.oc, .int .i64 d.ma, .int .i64 d.sa, .int .i64 d.ws, .int .i64 d.oe, .int .i64 d.ms, .int .i64 d.mf]
/-- A block of the twelve cells. -/
structure DvB (N : Nat) (w : World) (d : Dv) : Prop where
  c0 : w.cell? ⟨N, 0, none⟩ = some (.bool d.ns)
  c1 : w.cell? ⟨N, 1, none⟩ = some (.bool d.nc)
  c2 : w.cell? ⟨N, 2, none⟩ = some (.bool d.pr)
  c3 : w.cell? ⟨N, 3, none⟩ = some (.bool d.pu)
  c4 : w.cell? ⟨N, 4, none⟩ = some (.bool d.mr)
  c5 : w.cell? ⟨N, 5, none⟩ = some (.bool d.oc)
  c6 : w.cell? ⟨N, 6, none⟩ = some (.int .i64 d.ma)
  c7 : w.cell? ⟨N, 7, none⟩ = some (.int .i64 d.sa)
  c8 : w.cell? ⟨N, 8, none⟩ = some (.int .i64 d.ws)
  c9 : w.cell? ⟨N, 9, none⟩ = some (.int .i64 d.oe)
  c10 : w.cell? ⟨N, 10, none⟩ = some (.int .i64 d.ms)
  c11 : w.cell? ⟨N, 11, none⟩ = some (.int .i64 d.mf)
  fr : ∀ j, w.frozen? ⟨N, j, none⟩ = false
  lt : N < w.heap.size
theorem DvB.below {N : Nat} {w w' : World} {d : Dv} (h : DvB N w d) (hb : Below w.heap.size w w') : DvB N w' d :=
  ⟨(hb.cell (p := ⟨N, 0, none⟩) h.lt).trans h.c0, (hb.cell (p := ⟨N, 1, none⟩) h.lt).trans h.c1, (hb.cell (p := ⟨N, 2, none⟩) h.lt).trans h.c2, (hb.cell (p := ⟨N, 3, none⟩) h.lt).trans h.c3, (hb.cell (p := ⟨N, 4, none⟩) h.lt).trans h.c4, (hb.cell (p := ⟨N, 5, none⟩) h.lt).trans h.c5, (hb.cell (p := ⟨N, 6, none⟩) h.lt).trans h.c6, (hb.cell (p := ⟨N, 7, none⟩) h.lt).trans h.c7, (hb.cell (p := ⟨N, 8, none⟩) h.lt).trans h.c8, (hb.cell (p := ⟨N, 9, none⟩) h.lt).trans h.c9, (hb.cell (p := ⟨N, 10, none⟩) h.lt).trans h.c10, (hb.cell (p := ⟨N, 11, none⟩) h.lt).trans h.c11, fun j => (hb.frozen (p := ⟨N, j, none⟩) h.lt).trans (h.fr j), Nat.lt_of_lt_of_le h.lt hb.size⟩
theorem DvB.only {X : Nat → Prop} {N : Nat} {w w' : World} {d : Dv} (h : DvB N w d) (hb : Only X w w') (hx : ¬ X N) : DvB N w' d :=
  ⟨(hb.cell (p := ⟨N, 0, none⟩) h.lt hx).trans h.c0, (hb.cell (p := ⟨N, 1, none⟩) h.lt hx).trans h.c1, (hb.cell (p := ⟨N, 2, none⟩) h.lt hx).trans h.c2, (hb.cell (p := ⟨N, 3, none⟩) h.lt hx).trans h.c3, (hb.cell (p := ⟨N, 4, none⟩) h.lt hx).trans h.c4, (hb.cell (p := ⟨N, 5, none⟩) h.lt hx).trans h.c5, (hb.cell (p := ⟨N, 6, none⟩) h.lt hx).trans h.c6, (hb.cell (p := ⟨N, 7, none⟩) h.lt hx).trans h.c7, (hb.cell (p := ⟨N, 8, none⟩) h.lt hx).trans h.c8, (hb.cell (p := ⟨N, 9, none⟩) h.lt hx).trans h.c9, (hb.cell (p := ⟨N, 10, none⟩) h.lt hx).trans h.c10, (hb.cell (p := ⟨N, 11, none⟩) h.lt hx).trans h.c11, fun j => (hb.frozen (p := ⟨N, j, none⟩) h.lt hx).trans (h.fr j), Nat.lt_of_lt_of_le h.lt hb.size⟩
theorem dvB_new (w : World) (d : Dv) (T : TypeId) : DvB w.heap.size (w.alloc (.cells (dvC d) T)) d :=
  ⟨by rw [World.cell?_alloc_at _ _ _ _ rfl]; rfl, by rw [World.cell?_alloc_at _ _ _ _ rfl]; rfl, by rw [World.cell?_alloc_at _ _ _ _ rfl]; rfl, by rw [World.cell?_alloc_at _ _ _ _ rfl]; rfl, by rw [World.cell?_alloc_at _ _ _ _ rfl]; rfl, by rw [World.cell?_alloc_at _ _ _ _ rfl]; rfl, by rw [World.cell?_alloc_at _ _ _ _ rfl]; rfl, by rw [World.cell?_alloc_at _ _ _ _ rfl]; rfl, by rw [World.cell?_alloc_at _ _ _ _ rfl]; rfl, by rw [World.cell?_alloc_at _ _ _ _ rfl]; rfl, by rw [World.cell?_alloc_at _ _ _ _ rfl]; rfl, by rw [World.cell?_alloc_at _ _ _ _ rfl]; rfl, fun j => World.frozen?_alloc_new _ _ _ _, by simp⟩
theorem below_dv {B N : Nat} {w w1 : World} (h : Below B w w1) (hN : B ≤ N) (v0 v1 v2 v3 v4 v5 v6 v7 v8 v9 v10 v11 : Value) : Below B w (((((((((((((w1).setCell ⟨N, 0, none⟩ v0).setCell ⟨N, 1, none⟩ v1).setCell ⟨N, 2, none⟩ v2).setCell ⟨N, 3, none⟩ v3).setCell ⟨N, 4, none⟩ v4).setCell ⟨N, 5, none⟩ v5).setCell ⟨N, 6, none⟩ v6).setCell ⟨N, 7, none⟩ v7).setCell ⟨N, 8, none⟩ v8).setCell ⟨N, 9, none⟩ v9).setCell ⟨N, 10, none⟩ v10).setCell ⟨N, 11, none⟩ v11) :=
  ((((((((((((h).setCell (p := ⟨N, 0, none⟩) hN _).setCell (p := ⟨N, 1, none⟩) hN _).setCell (p := ⟨N, 2, none⟩) hN _).setCell (p := ⟨N, 3, none⟩) hN _).setCell (p := ⟨N, 4, none⟩) hN _).setCell (p := ⟨N, 5, none⟩) hN _).setCell (p := ⟨N, 6, none⟩) hN _).setCell (p := ⟨N, 7, none⟩) hN _).setCell (p := ⟨N, 8, none⟩) hN _).setCell (p := ⟨N, 9, none⟩) hN _).setCell (p := ⟨N, 10, none⟩) hN _).setCell (p := ⟨N, 11, none⟩) hN _
theorem DvB.set {N : Nat} {w : World} {e : Dv} (h : DvB N w e) (d : Dv) : DvB N (((((((((((((w).setCell ⟨N, 0, none⟩ (.bool d.ns)).setCell ⟨N, 1, none⟩ (.bool d.nc)).setCell ⟨N, 2, none⟩ (.bool d.pr)).setCell ⟨N, 3, none⟩ (.bool d.pu)).setCell ⟨N, 4, none⟩ (.bool d.mr)).setCell ⟨N, 5, none⟩ (.bool d.oc)).setCell ⟨N, 6, none⟩ (.int .i64 d.ma)).setCell ⟨N, 7, none⟩ (.int .i64 d.sa)).setCell ⟨N, 8, none⟩ (.int .i64 d.ws)).setCell ⟨N, 9, none⟩ (.int .i64 d.oe)).setCell ⟨N, 10, none⟩ (.int .i64 d.ms)).setCell ⟨N, 11, none⟩ (.int .i64 d.mf)) d := by
  obtain ⟨c0, c1, c2, c3, c4, c5, c6, c7, c8, c9, c10, c11, fr, lt⟩ := h
  refine ⟨?_, ?_, ?_, ?_, ?_, ?_, ?_, ?_, ?_, ?_, ?_, ?_, fun j => by simpa using fr j, by simpa using lt⟩
  all_goals simp (maxDischargeDepth := 15) [go_sem, c0, c1, c2, c3, c4, c5, c6, c7, c8, c9, c10, c11]
theorem DvB.set0 {N : Nat} {w : World} {d : Dv} (h : DvB N w d) (x : Bool) : DvB N (w.setCell ⟨N, 0, none⟩ (.bool x)) { d with ns := x } := by
  obtain ⟨c0, c1, c2, c3, c4, c5, c6, c7, c8, c9, c10, c11, fr, lt⟩ := h
  refine ⟨?_, ?_, ?_, ?_, ?_, ?_, ?_, ?_, ?_, ?_, ?_, ?_, fun j => by simpa using fr j, by simpa using lt⟩
  all_goals simp [go_sem, c0, c1, c2, c3, c4, c5, c6, c7, c8, c9, c10, c11]
theorem DvB.set1 {N : Nat} {w : World} {d : Dv} (h : DvB N w d) (x : Bool) : DvB N (w.setCell ⟨N, 1, none⟩ (.bool x)) { d with nc := x } := by
  obtain ⟨c0, c1, c2, c3, c4, c5, c6, c7, c8, c9, c10, c11, fr, lt⟩ := h
  refine ⟨?_, ?_, ?_, ?_, ?_, ?_, ?_, ?_, ?_, ?_, ?_, ?_, fun j => by simpa using fr j, by simpa using lt⟩
  all_goals simp [go_sem, c0, c1, c2, c3, c4, c5, c6, c7, c8, c9, c10, c11]
theorem DvB.set2 {N : Nat} {w : World} {d : Dv} (h : DvB N w d) (x : Bool) : DvB N (w.setCell ⟨N, 2, none⟩ (.bool x)) { d with pr := x } := by
  obtain ⟨c0, c1, c2, c3, c4, c5, c6, c7, c8, c9, c10, c11, fr, lt⟩ := h
  refine ⟨?_, ?_, ?_, ?_, ?_, ?_, ?_, ?_, ?_, ?_, ?_, ?_, fun j => by simpa using fr j, by simpa using lt⟩
  all_goals simp [go_sem, c0, c1, c2, c3, c4, c5, c6, c7, c8, c9, c10, c11]
theorem DvB.set3 {N : Nat} {w : World} {d : Dv} (h : DvB N w d) (x : Bool) : DvB N (w.setCell ⟨N, 3, none⟩ (.bool x)) { d with pu := x } := by
  obtain ⟨c0, c1, c2, c3, c4, c5, c6, c7, c8, c9, c10, c11, fr, lt⟩ := h
  refine ⟨?_, ?_, ?_, ?_, ?_, ?_, ?_, ?_, ?_, ?_, ?_, ?_, fun j => by simpa using fr j, by simpa using lt⟩
  all_goals simp [go_sem, c0, c1, c2, c3, c4, c5, c6, c7, c8, c9, c10, c11]
theorem DvB.set4 {N : Nat} {w : World} {d : Dv} (h : DvB N w d) (x : Bool) : DvB N (w.setCell ⟨N, 4, none⟩ (.bool x)) { d with mr := x } := by
  obtain ⟨c0, c1, c2, c3, c4, c5, c6, c7, c8, c9, c10, c11, fr, lt⟩ := h
  refine ⟨?_, ?_, ?_, ?_, ?_, ?_, ?_, ?_, ?_, ?_, ?_, ?_, fun j => by simpa using fr j, by simpa using lt⟩
  all_goals simp [go_sem, c0, c1, c2, c3, c4, c5, c6, c7, c8, c9, c10, c11]
theorem DvB.set5 {N : Nat} {w : World} {d : Dv} (h : DvB N w d) (x : Bool) : DvB N (w.setCell ⟨N, 5, none⟩ (.bool x)) { d with oc := x } := by
  obtain ⟨c0, c1, c2, c3, c4, c5, c6, c7, c8, c9, c10, c11, fr, lt⟩ := h
  refine ⟨?_, ?_, ?_, ?_, ?_, ?_, ?_, ?_, ?_, ?_, ?_, ?_, fun j => by simpa using fr j, by simpa using lt⟩
  all_goals simp [go_sem, c0, c1, c2, c3, c4, c5, c6, c7, c8, c9, c10, c11]
theorem DvB.set6 {N : Nat} {w : World} {d : Dv} (h : DvB N w d) (x : Int) : DvB N (w.setCell ⟨N, 6, none⟩ (.int .i64 x)) { d with ma := x } := by
  obtain ⟨c0, c1, c2, c3, c4, c5, c6, c7, c8, c9, c10, c11, fr, lt⟩ := h
  refine ⟨?_, ?_, ?_, ?_, ?_, ?_, ?_, ?_, ?_, ?_, ?_, ?_, fun j => by simpa using fr j, by simpa using lt⟩
  all_goals simp [go_sem, c0, c1, c2, c3, c4, c5, c6, c7, c8, c9, c10, c11]
theorem DvB.set7 {N : Nat} {w : World} {d : Dv} (h : DvB N w d) (x : Int) : DvB N (w.setCell ⟨N, 7, none⟩ (.int .i64 x)) { d with sa := x } := by
  obtain ⟨c0, c1, c2, c3, c4, c5, c6, c7, c8, c9, c10, c11, fr, lt⟩ := h
  refine ⟨?_, ?_, ?_, ?_, ?_, ?_, ?_, ?_, ?_, ?_, ?_, ?_, fun j => by simpa using fr j, by simpa using lt⟩
  all_goals simp [go_sem, c0, c1, c2, c3, c4, c5, c6, c7, c8, c9, c10, c11]
theorem DvB.set8 {N : Nat} {w : World} {d : Dv} (h : DvB N w d) (x : Int) : DvB N (w.setCell ⟨N, 8, none⟩ (.int .i64 x)) { d with ws := x } := by
  obtain ⟨c0, c1, c2, c3, c4, c5, c6, c7, c8, c9, c10, c11, fr, lt⟩ := h
  refine ⟨?_, ?_, ?_, ?_, ?_, ?_, ?_, ?_, ?_, ?_, ?_, ?_, fun j => by simpa using fr j, by simpa using lt⟩
  all_goals simp [go_sem, c0, c1, c2, c3, c4, c5, c6, c7, c8, c9, c10, c11]
theorem DvB.set9 {N : Nat} {w : World} {d : Dv} (h : DvB N w d) (x : Int) : DvB N (w.setCell ⟨N, 9, none⟩ (.int .i64 x)) { d with oe := x } := by
  obtain ⟨c0, c1, c2, c3, c4, c5, c6, c7, c8, c9, c10, c11, fr, lt⟩ := h
  refine ⟨?_, ?_, ?_, ?_, ?_, ?_, ?_, ?_, ?_, ?_, ?_, ?_, fun j => by simpa using fr j, by simpa using lt⟩
  all_goals simp [go_sem, c0, c1, c2, c3, c4, c5, c6, c7, c8, c9, c10, c11]
theorem DvB.set10 {N : Nat} {w : World} {d : Dv} (h : DvB N w d) (x : Int) : DvB N (w.setCell ⟨N, 10, none⟩ (.int .i64 x)) { d with ms := x } := by
  obtain ⟨c0, c1, c2, c3, c4, c5, c6, c7, c8, c9, c10, c11, fr, lt⟩ := h
  refine ⟨?_, ?_, ?_, ?_, ?_, ?_, ?_, ?_, ?_, ?_, ?_, ?_, fun j => by simpa using fr j, by simpa using lt⟩
  all_goals simp [go_sem, c0, c1, c2, c3, c4, c5, c6, c7, c8, c9, c10, c11]
theorem DvB.set11 {N : Nat} {w : World} {d : Dv} (h : DvB N w d) (x : Int) : DvB N (w.setCell ⟨N, 11, none⟩ (.int .i64 x)) { d with mf := x } := by
  obtain ⟨c0, c1, c2, c3, c4, c5, c6, c7, c8, c9, c10, c11, fr, lt⟩ := h
  refine ⟨?_, ?_, ?_, ?_, ?_, ?_, ?_, ?_, ?_, ?_, ?_, ?_, fun j => by simpa using fr j, by simpa using lt⟩
  all_goals simp [go_sem, c0, c1, c2, c3, c4, c5, c6, c7, c8, c9, c10, c11]
theorem DvB.other {N M : Nat} {w : World} {d : Dv} (h : DvB N w d) (hn : M ≠ N) (v0 v1 v2 v3 v4 v5 v6 v7 v8 v9 v10 v11 : Value) : DvB N (((((((((((((w).setCell ⟨M, 0, none⟩ v0).setCell ⟨M, 1, none⟩ v1).setCell ⟨M, 2, none⟩ v2).setCell ⟨M, 3, none⟩ v3).setCell ⟨M, 4, none⟩ v4).setCell ⟨M, 5, none⟩ v5).setCell ⟨M, 6, none⟩ v6).setCell ⟨M, 7, none⟩ v7).setCell ⟨M, 8, none⟩ v8).setCell ⟨M, 9, none⟩ v9).setCell ⟨M, 10, none⟩ v10).setCell ⟨M, 11, none⟩ v11) d :=
  h.only (((((((((((((Only.refl (· = M) w).trans' (Only.set (X := (· = M)) rfl _ 0 v0)).trans' (Only.set (X := (· = M)) rfl _ 1 v1)).trans' (Only.set (X := (· = M)) rfl _ 2 v2)).trans' (Only.set (X := (· = M)) rfl _ 3 v3)).trans' (Only.set (X := (· = M)) rfl _ 4 v4)).trans' (Only.set (X := (· = M)) rfl _ 5 v5)).trans' (Only.set (X := (· = M)) rfl _ 6 v6)).trans' (Only.set (X := (· = M)) rfl _ 7 v7)).trans' (Only.set (X := (· = M)) rfl _ 8 v8)).trans' (Only.set (X := (· = M)) rfl _ 9 v9)).trans' (Only.set (X := (· = M)) rfl _ 10 v10)).trans' (Only.set (X := (· = M)) rfl _ 11 v11)) (fun e => hn e.symm)
theorem dv_eq (d e : Dv) : d = e ↔ d.ns = e.ns ∧ d.nc = e.nc ∧ d.pr = e.pr ∧ d.pu = e.pu ∧ d.mr = e.mr ∧ d.oc = e.oc ∧ d.ma = e.ma ∧ d.sa = e.sa ∧ d.ws = e.ws ∧ d.oe = e.oe ∧ d.ms = e.ms ∧ d.mf = e.mf := by
  cases d; cases e; simp
end Go.Proofs.YtieolalohindgaaGreatDoor

/- What the functions of package clock return, and those of the reference. -/
namespace Go.Proofs.YtieolalohindgaaGreatDoor
open Go.RowKit

theorem wrap_in {x : Int} (h0 : -9223372036854775808 ≤ x) (h1 : x < 9223372036854775808) : wrap64 x = x := by unfold wrap64; omega
theorem ret_i {k : IntKind} {a b : Int} (h : a = b) : Ending.returned (.int k a) = .returned (.int k b) := by rw [h]
set_option maxHeartbeats 400000 in
theorem clipTime_any (n : Int) (w : World) :
    Calls Tryz.prog 48 #[.int .i64 n] w fun e w' => e = .returned (.int .i64 (tk n)) ∧ w = w' := by
  go_enter Tryz.func48, Tryz.ntmps48
  go_wp2
  all_goals
    go_ret
    exact ⟨ret_i (by unfold tk; omega), rfl⟩
set_option maxHeartbeats 400000 in
theorem clipDrift_any (n : Int) (w : World) :
    Calls Tryz.prog 74 #[.int .i64 n] w fun e w' => e = .returned (.int .i64 (pm n)) ∧ w = w' := by
  go_enter Tryz.func74, Tryz.ntmps74
  go_wp2
  all_goals
    go_ret
    exact ⟨ret_i (by unfold pm; omega), rfl⟩
set_option maxHeartbeats 400000 in
theorem quotientUp_any (n b : Int) (hn : 0 ≤ n) (hn1 : n < 4611686018427387904) (hb : 0 < b) (hb1 : b < 4611686018427387904) (w : World) :
    Calls Tryz.prog 75 #[.int .i64 n, .int .i64 b] w fun e w' => e = .returned (.int .i64 ((n + b - 1) / b)) ∧ w = w' := by
  have hq : wrap64 ((n + b - 1) / b) = (n + b - 1) / b := wrap_in (by have := Int.ediv_nonneg (a := n + b - 1) (b := b) (by omega) (by omega); omega) (by have := Int.ediv_le_self (a := n + b - 1) b (by omega); omega)
  go_enter Tryz.func75, Tryz.ntmps75
  go_wp2
  go_ret
  exact ⟨rfl, rfl⟩
/-- A result of two ints. -/
theorem ret_ii {a b c d : Int} (h : a = c ∧ b = d) : Ending.returned (.tuple #[.int .i64 a, .int .i64 b]) = .returned (.tuple #[.int .i64 c, .int .i64 d]) := by rw [h.1, h.2]
set_option maxHeartbeats 1000000 in
theorem elapsed_any (d q : Int) (w : World) :
    Calls Tryz.prog 49 #[.int .i64 d, .int .i64 q] w fun e w' => e = .returned (.tuple #[.int .i64 (loE (tk d) (pm q)), .int .i64 (hiE (tk d) (pm q))]) ∧ w = w' := by
  have H1 := Lib.hid (fun W => clipTime_any d W)
  have H2 := Lib.hid (fun W => clipDrift_any q W)
  have b1 := tk_bd d
  have b2 := pm_bd q
  obtain ⟨n, hn⟩ : ∃ n, tk d = n := ⟨_, rfl⟩
  obtain ⟨p, hp⟩ : ∃ p, pm q = p := ⟨_, rfl⟩
  rw [hn] at H1 b1 ⊢
  rw [hp] at H2 b2 ⊢
  clear hn hp
  have hb := hi_bd n p b1.1 b2.1 b2.2
  have hl := lo_bd n p b1.1 b2.1 b2.2
  have eh : Hid (hiE n p = ((n + 1) * 1000000 + (1000000 - p) - 1) / (1000000 - p) - 1) := by show _ = _; rfl
  obtain ⟨X, hX⟩ : ∃ X, ((n + 1) * 1000000 + (1000000 - p) - 1) / (1000000 - p) = X := ⟨_, rfl⟩
  have H3 := Lib.hid (fun W => quotientUp_any ((n + 1) * 1000000) (1000000 - p) (by omega) (by omega) (by omega) (by omega) W)
  rw [hX] at H3
  have eh := Lib.hid (show hiE n p = X - 1 by rw [← hX]; rfl)
  have hX2 : n ≤ X - 1 ∧ (X - 1) * 9 < (n + 1) * 10 := by rw [← eh.out]; exact hb
  clear hX hb
  by_cases h : n = 0
  · subst h
    go_enter Tryz.func49, Tryz.ntmps49
    go_wp2_with fail
    refine (H1.out _).mono ?_
    rintro e w' ⟨rfl, rfl⟩
    go_wp2_with fail
    refine (H2.out _).mono ?_
    rintro e w' ⟨rfl, rfl⟩
    go_wp2_with fail
    refine (H3.out _).mono ?_
    rintro e w' ⟨rfl, rfl⟩
    go_wp2_with fail
    go_ret2
    exact ⟨ret_ii ⟨by rw [lo_zero], eh.out.symm⟩, rfl⟩
  · have el := Lib.hid (show loE n p = (n - 1) * 1000000 / (1000000 + p) + 1 from if_neg h)
    have hq : wrap64 ((n - 1) * 1000000 / (1000000 + p)) = (n - 1) * 1000000 / (1000000 + p) := by
      rw [el.out] at hl
      exact wrap_in (by omega) (by omega)
    rw [el.out] at hl
    go_enter Tryz.func49, Tryz.ntmps49
    go_wp2_with fail
    refine (H1.out _).mono ?_
    rintro e w' ⟨rfl, rfl⟩
    go_wp2_with fail
    refine (H2.out _).mono ?_
    rintro e w' ⟨rfl, rfl⟩
    go_wp2_with fail
    refine (H3.out _).mono ?_
    rintro e w' ⟨rfl, rfl⟩
    go_wp2_with fail
    go_ret2
    exact ⟨ret_ii ⟨el.out.symm, eh.out.symm⟩, rfl⟩
set_option maxHeartbeats 400000 in
theorem isTime_any (n : Int) (w : World) : Calls Tryz.prog 67 #[.int .i64 n] w fun e w' => e = .returned (.bool (decide (0 ≤ n ∧ n ≤ 1099511627776))) ∧ w = w' := by
  by_cases h : 0 ≤ n
  · by_cases h2 : n ≤ 1099511627776
    all_goals
      go_enter Tryz.func67, Tryz.ntmps67
      go_wp2
      go_ret
      exact ⟨ret_bool (by simp; omega), rfl⟩
  · go_enter Tryz.func67, Tryz.ntmps67
    go_wp2
    go_ret
    exact ⟨ret_bool (by simp; omega), rfl⟩
set_option maxHeartbeats 400000 in
theorem isTerm_any (n : Int) (w : World) : Calls Tryz.prog 89 #[.int .i64 n] w fun e w' => e = .returned (.bool (decide (1 ≤ n ∧ n ≤ 1048576))) ∧ w = w' := by
  by_cases h : 1 ≤ n
  · by_cases h2 : n ≤ 1048576
    all_goals
      go_enter Tryz.func89, Tryz.ntmps89
      go_wp2
      go_ret
      exact ⟨ret_bool (by simp; omega), rfl⟩
  · go_enter Tryz.func89, Tryz.ntmps89
    go_wp2
    go_ret
    exact ⟨ret_bool (by simp; omega), rfl⟩
/- The reference's. -/
set_option maxHeartbeats 400000 in
theorem clip_any (n a b : Int) (w : World) : Calls Tryz.prog 47 #[.int .i64 n, .int .i64 a, .int .i64 b] w fun e w' => e = .returned (.int .i64 (max a (min n b))) ∧ w = w' := by
  go_enter Tryz.func47, Tryz.ntmps47
  go_wp2
  all_goals
    go_ret
    exact ⟨ret_i (by omega), rfl⟩
set_option maxHeartbeats 400000 in
theorem refTime_any (n : Int) (w : World) : Calls Tryz.prog 25 #[.int .i64 n] w fun e w' => e = .returned (.int .i64 (tk n)) ∧ w = w' := by
  go_enter Tryz.func25, Tryz.ntmps25
  go_wp2_with fail
  refine (clip_any _ _ _ _).mono ?_
  rintro e w' ⟨rfl, rfl⟩
  go_wp2_with fail
  all_goals
    go_ret
    exact ⟨rfl, rfl⟩
set_option maxHeartbeats 400000 in
theorem refPpm_any (n : Int) (w : World) : Calls Tryz.prog 41 #[.int .i64 n] w fun e w' => e = .returned (.int .i64 (pm n)) ∧ w = w' := by
  go_enter Tryz.func41, Tryz.ntmps41
  go_wp2_with fail
  refine (clip_any _ _ _ _).mono ?_
  rintro e w' ⟨rfl, rfl⟩
  go_wp2_with fail
  all_goals
    go_ret
    exact ⟨rfl, rfl⟩
end Go.Proofs.YtieolalohindgaaGreatDoor
