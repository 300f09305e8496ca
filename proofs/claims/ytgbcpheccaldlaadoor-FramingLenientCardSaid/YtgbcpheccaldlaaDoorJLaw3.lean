/- FramingLenient: for every request the statement's function returns true: the walk. -/
import Derived.Test.YtgbcpheccaldlaaDoorJLaw2
import Derived.Test.YtgbcpheccaldlaaDoorJRefLen
import Derived.Deep.RegionHeld3
namespace Go.Proofs.YtgbcpheccaldlaaDoor
open Go.RowKit

/-- The law's request and the program's lie in their variables, and their fields are read. -/
def LenS (M Q : Nat) (m t : List UInt8) (lv qv : Value) (ps : Flds) (w w' : World) : Prop :=
  w'.cell? ⟨M, 0, none⟩ = some (.string (strB m)) ∧ w'.cell? ⟨M, 1, none⟩ = some (.string (strB t)) ∧ w'.cell? ⟨M, 2, none⟩ = some lv ∧
  w'.cell? ⟨Q, 0, none⟩ = some (.string (strB m)) ∧ w'.cell? ⟨Q, 1, none⟩ = some (.string (strB t)) ∧ w'.cell? ⟨Q, 2, none⟩ = some qv ∧
    M < w'.heap.size ∧ Q < w'.heap.size ∧ ReadsQ w' lv ps ∧ ReadsQ w' qv ps ∧ HasMax w' ∧ Below w.heap.size w w'
theorem LenS.below {M Q : Nat} {m t : List UInt8} {lv qv : Value} {ps : Flds} {w w1 w2 : World} (h : LenS M Q m t lv qv ps w w1) (hb : Below w1.heap.size w1 w2) : LenS M Q m t lv qv ps w w2 := by
  obtain ⟨a0, a1, a2, b0, b1, b2, hM, hQ, r1, r2, hx, hB⟩ := h
  exact ⟨(hb.cell (p := ⟨M, 0, none⟩) hM).trans a0, (hb.cell (p := ⟨M, 1, none⟩) hM).trans a1, (hb.cell (p := ⟨M, 2, none⟩) hM).trans a2,
    (hb.cell (p := ⟨Q, 0, none⟩) hQ).trans b0, (hb.cell (p := ⟨Q, 1, none⟩) hQ).trans b1, (hb.cell (p := ⟨Q, 2, none⟩) hQ).trans b2,
    Nat.lt_of_lt_of_le hM hb.size, Nat.lt_of_lt_of_le hQ hb.size, r1.below hb, r2.below hb, hx.below hb, hB.trans (hb.mono hB.size)⟩
theorem LenS.alloc {M Q : Nat} {m t : List UInt8} {lv qv : Value} {ps : Flds} {w w1 : World} (h : LenS M Q m t lv qv ps w w1) (o : Obj) : LenS M Q m t lv qv ps w (w1.alloc o) := h.below (below_new w1 o)
theorem LenS.drew {M Q : Nat} {m t : List UInt8} {lv qv : Value} {ps : Flds} {w w1 : World} (h : LenS M Q m t lv qv ps w w1) : LenS M Q m t lv qv ps w w1.drew := h.below (Below.refl _ _).drew
theorem refLen_S {M Q : Nat} {m t : List UInt8} {lv qv : Value} {ps : Flds} {w w1 : World} (f : Bool) (h : LenS M Q m t lv qv ps w w1) (hf : Fits ps) :
    Calls Tryd.prog 23 #[.agg #[.string (strB m), .string (strB t), lv], .bool f] w1 (fun e w' => e = .returned (frV (lenP ps f).1 (lenP ps f).2) ∧ LenS M Q m t lv qv ps w w' ∧ Below w1.heap.size w1 w') :=
  (refLenient_any m t lv ps f w1 h.2.2.2.2.2.2.2.2.1 hf).mono fun _ _ ⟨he, hb⟩ => ⟨he, h.below hb, hb⟩
/-- A new frame lies in its variable, empty and writable. -/
def FrS (N : Nat) (w : World) : Prop := w.cell? ⟨N, 0, none⟩ = some (.int .i64 0) ∧ w.cell? ⟨N, 1, none⟩ = some (.int .i64 0) ∧ w.frozen? ⟨N, 0, none⟩ = false ∧ w.frozen? ⟨N, 1, none⟩ = false ∧ N < w.heap.size
theorem FrS.below {N : Nat} {w w' : World} (h : FrS N w) (hb : Below w.heap.size w w') : FrS N w' := by
  obtain ⟨a, b, c, d, e⟩ := h
  exact ⟨(hb.cell (p := ⟨N, 0, none⟩) e).trans a, (hb.cell (p := ⟨N, 1, none⟩) e).trans b, (hb.frozen (p := ⟨N, 0, none⟩) e).trans c, (hb.frozen (p := ⟨N, 1, none⟩) e).trans d, Nat.lt_of_lt_of_le e hb.size⟩
theorem fr_new (w : World) : FrS w.heap.size (w.alloc (.cells #[.int .i64 0, .int .i64 0] 48)) := by
  obtain ⟨a, b, c⟩ := frame_new w 48 0 0
  exact ⟨a, b, c 0, c 1, by simp⟩
theorem FrS.alloc {N : Nat} {w : World} (h : FrS N w) (o : Obj) : FrS N (w.alloc o) := h.below (below_new w o)
theorem fr_new2 (w : World) : FrS (w.heap.size + 1) ((w.alloc (.cells #[.int .i64 0, .int .i64 0] 48)).alloc (.cells #[.int .i64 0, .int .i64 0] 48)) := by
  have := fr_new (w.alloc (.cells #[.int .i64 0, .int .i64 0] 48))
  rwa [show (w.alloc (.cells #[.int .i64 0, .int .i64 0] 48)).heap.size = w.heap.size + 1 by simp] at this
/-- One frame was made before a call, or two. -/
theorem fr1 {w w' : World} (h : Below (w.alloc (.cells #[.int .i64 0, .int .i64 0] 48)).heap.size (w.alloc (.cells #[.int .i64 0, .int .i64 0] 48)) w') : FrS w.heap.size w' := (fr_new w).below h
theorem fr1d {w w' : World} (h : Below (w.alloc (.cells #[.int .i64 0, .int .i64 0] 48)).drew.heap.size (w.alloc (.cells #[.int .i64 0, .int .i64 0] 48)).drew w') : FrS w.heap.size w' := (show FrS w.heap.size (w.alloc (.cells #[.int .i64 0, .int .i64 0] 48)).drew from fr_new w).below h
theorem fr2 {w w' : World} (h : Below ((w.alloc (.cells #[.int .i64 0, .int .i64 0] 48)).alloc (.cells #[.int .i64 0, .int .i64 0] 48)).heap.size ((w.alloc (.cells #[.int .i64 0, .int .i64 0] 48)).alloc (.cells #[.int .i64 0, .int .i64 0] 48)) w') : FrS w.heap.size w' ∧ FrS (w.heap.size + 1) w' := ⟨((fr_new w).alloc _).below h, (fr_new2 w).below h⟩
theorem fr2d {w w' : World} (h : Below ((w.alloc (.cells #[.int .i64 0, .int .i64 0] 48)).alloc (.cells #[.int .i64 0, .int .i64 0] 48)).drew.heap.size ((w.alloc (.cells #[.int .i64 0, .int .i64 0] 48)).alloc (.cells #[.int .i64 0, .int .i64 0] 48)).drew w') : FrS w.heap.size w' ∧ FrS (w.heap.size + 1) w' :=
  ⟨(show FrS w.heap.size ((w.alloc (.cells #[.int .i64 0, .int .i64 0] 48)).alloc (.cells #[.int .i64 0, .int .i64 0] 48)).drew from (fr_new w).alloc _).below h, (show FrS (w.heap.size + 1) ((w.alloc (.cells #[.int .i64 0, .int .i64 0] 48)).alloc (.cells #[.int .i64 0, .int .i64 0] 48)).drew from fr_new2 w).below h⟩
/-- A frame that was there, behind a call ahead of which frames were made. -/
theorem FrS.over1 {N : Nat} {w w' : World} {o : Obj} (h : FrS N w) (hb : Below (w.alloc o).heap.size (w.alloc o) w') : FrS N w' := (h.alloc o).below hb
def FrV (N : Nat) (q : Nat × Nat) (w : World) : Prop := w.cell? ⟨N, 0, none⟩ = some (.int .i64 (q.1 : Int)) ∧ w.cell? ⟨N, 1, none⟩ = some (.int .i64 (q.2 : Int)) ∧ N < w.heap.size
theorem bcellJ {W w1 : World} (hb : Below W.heap.size W w1) : (∀ b o, b < W.heap.size → w1.cell? ⟨b, o, none⟩ = W.cell? ⟨b, o, none⟩) ∧ (∀ b o, b < W.heap.size → w1.frozen? ⟨b, o, none⟩ = W.frozen? ⟨b, o, none⟩) :=
  ⟨fun b o h => hb.cell (p := ⟨b, o, none⟩) h, fun b o h => hb.frozen (p := ⟨b, o, none⟩) h⟩
theorem lenB {M Q : Nat} {m t : List UInt8} {lv qv : Value} {ps : Flds} {w W0 : World} {v : Value} {a : Array Value} (hL : ∀ W, LenS M Q m t lv qv ps w W → Calls Tryd.prog 23 a W (fun e w' => e = .returned v ∧ LenS M Q m t lv qv ps w w' ∧ Below W.heap.size W w')) (h0 : LenS M Q m t lv qv ps w W0) :
    ∀ W, Below W0.heap.size W0 W → Calls Tryd.prog 23 a W (fun e w' => e = .returned v ∧ Below W0.heap.size W0 w' ∧ Below W.heap.size W w' ∧ W.heap.size ≤ w'.heap.size) := fun W hb =>
  (hL W (h0.below hb)).mono fun _ _ ⟨he, _, hb2⟩ => ⟨he, hb.trans (hb2.mono hb.size), hb2, hb2.size⟩
/-- Behind the reference's two readings: both requests and both frames lie in their variables. -/
def RstS (M Q N1 N2 : Nat) (m t : List UInt8) (lv qv : Value) (ps : Flds) (x0 x1 y0 y1 : Nat) (w w' : World) : Prop :=
  LenS M Q m t lv qv ps w w' ∧ FrV N1 (x0, x1) w' ∧ FrV N2 (y0, y1) w'
theorem FrV.below {N : Nat} {q : Nat × Nat} {w w' : World} (h : FrV N q w) (hb : Below w.heap.size w w') : FrV N q w' :=
  ⟨(hb.cell (p := ⟨N, 0, none⟩) h.2.2).trans h.1, (hb.cell (p := ⟨N, 1, none⟩) h.2.2).trans h.2.1, Nat.lt_of_lt_of_le h.2.2 hb.size⟩
theorem RstS.below {M Q N1 N2 : Nat} {m t : List UInt8} {lv qv : Value} {ps : Flds} {x0 x1 y0 y1 : Nat} {w w1 w2 : World} (h : RstS M Q N1 N2 m t lv qv ps x0 x1 y0 y1 w w1) (hb : Below w1.heap.size w1 w2) : RstS M Q N1 N2 m t lv qv ps x0 x1 y0 y1 w w2 :=
  ⟨h.1.below hb, h.2.1.below hb, h.2.2.below hb⟩
theorem rst_all {M Q N1 N2 : Nat} {m t : List UInt8} {lv qv : Value} {ps : Flds} {x0 x1 y0 y1 : Nat} {w w' : World} (h : RstS M Q N1 N2 m t lv qv ps x0 x1 y0 y1 w w') :
    w'.cell? ⟨Q, 0, none⟩ = some (.string (strB m)) ∧ w'.cell? ⟨Q, 1, none⟩ = some (.string (strB t)) ∧ w'.cell? ⟨Q, 2, none⟩ = some qv ∧
    w'.cell? ⟨N1, 0, none⟩ = some (.int .i64 (x0 : Int)) ∧ w'.cell? ⟨N1, 1, none⟩ = some (.int .i64 (x1 : Int)) ∧ w'.cell? ⟨N2, 0, none⟩ = some (.int .i64 (y0 : Int)) ∧ w'.cell? ⟨N2, 1, none⟩ = some (.int .i64 (y1 : Int)) ∧
    RstS M Q N1 N2 m t lv qv ps x0 x1 y0 y1 w w' :=
  ⟨h.1.2.2.2.1, h.1.2.2.2.2.1, h.1.2.2.2.2.2.1, h.2.1.1, h.2.1.2.1, h.2.2.1, h.2.2.2.1, h⟩
theorem rst_lenient {M Q N1 N2 : Nat} {m t : List UInt8} {lv qv : Value} {ps : Flds} {x0 x1 y0 y1 : Nat} {w w1 : World} (f : Bool) (h : RstS M Q N1 N2 m t lv qv ps x0 x1 y0 y1 w w1) (hf : Fits ps) :
    Calls Tryd.prog 25 #[.agg #[.string (strB m), .string (strB t), qv], .bool f] w1 (fun e w' => e = .returned (frV (lenP ps f).1 (lenP ps f).2) ∧ RstS M Q N1 N2 m t lv qv ps x0 x1 y0 y1 w w') :=
  (lenient_any m t qv ps f w1 h.1.2.2.2.2.2.2.2.2.2.1 hf h.1.2.2.2.2.2.2.2.2.2.2.1).mono fun _ _ ⟨he, hb⟩ => ⟨he, h.below hb⟩
theorem rst_ambiguous {M Q N1 N2 : Nat} {m t : List UInt8} {lv qv : Value} {ps : Flds} {x0 x1 y0 y1 : Nat} {w w1 : World} {b : Bool} (h : RstS M Q N1 N2 m t lv qv ps x0 x1 y0 y1 w w1) (hf : Fits ps) (hb : decide (lenP ps true ≠ lenP ps false) = b) :
    Calls Tryd.prog 26 #[.agg #[.string (strB m), .string (strB t), qv]] w1 (fun e w' => e = .returned (.bool b) ∧ RstS M Q N1 N2 m t lv qv ps x0 x1 y0 y1 w w') :=
  (ambiguous_any m t qv ps w1 h.1.2.2.2.2.2.2.2.2.2.1 hf h.1.2.2.2.2.2.2.2.2.2.2.1).mono fun _ _ ⟨he, hb'⟩ => ⟨by rw [he, hb], h.below hb'⟩
theorem rst_is {M Q N1 N2 : Nat} {m t : List UInt8} {lv qv : Value} {ps : Flds} {x0 x1 y0 y1 : Nat} {w w1 : World} (k n : Nat) (h : RstS M Q N1 N2 m t lv qv ps x0 x1 y0 y1 w w1) :
    Calls Tryd.prog 24 #[frV k n, frV k n] w1 (fun e w' => e = .returned (.bool true) ∧ RstS M Q N1 N2 m t lv qv ps x0 x1 y0 y1 w w') :=
  (is_same k n w1).mono fun _ _ ⟨he, hb⟩ => ⟨he, h.below hb⟩
theorem cA0 {w : World} {N : Nat} {u a b : Value} {o : Obj} (z : w.cell? ⟨N, 0, none⟩ = some u) (h : N < w.heap.size) : (((w.setCell ⟨N, 0, none⟩ a).setCell ⟨N, 1, none⟩ b).alloc o).cell? ⟨N, 0, none⟩ = some a := by
  refine (World.cell?_alloc_lt _ _ _ ?_).trans ((World.cell?_setCell_other _ _ _ _ (by intro e; simp at e)).trans (World.cell?_setCell_same _ _ _ z))
  simp; exact h
theorem cA1 {w : World} {N : Nat} {u a b : Value} {o : Obj} (z : w.cell? ⟨N, 1, none⟩ = some u) (h : N < w.heap.size) : (((w.setCell ⟨N, 0, none⟩ a).setCell ⟨N, 1, none⟩ b).alloc o).cell? ⟨N, 1, none⟩ = some b := by
  refine (World.cell?_alloc_lt _ _ _ ?_).trans (World.cell?_setCell_same _ _ _ ((World.cell?_setCell_other _ _ _ _ (by intro e; simp at e)).trans z))
  simp; exact h
theorem cB0 {w : World} {N : Nat} {a b c d : Value} {t : TypeId} : (((w.setCell ⟨N, 0, none⟩ a).setCell ⟨N, 1, none⟩ b).alloc (.cells #[c, d] t)).cell? ⟨w.heap.size, 0, none⟩ = some c := by
  rw [World.cell?_alloc_at _ _ _ _ (by simp)]; rfl
theorem cB1 {w : World} {N : Nat} {a b c d : Value} {t : TypeId} : (((w.setCell ⟨N, 0, none⟩ a).setCell ⟨N, 1, none⟩ b).alloc (.cells #[c, d] t)).cell? ⟨w.heap.size, 1, none⟩ = some d := by
  rw [World.cell?_alloc_at _ _ _ _ (by simp)]; rfl
theorem cC0 {w : World} {N M : Nat} {u a b c d : Value} (z : w.cell? ⟨N, 0, none⟩ = some u) (h : N ≠ M) : ((((w.setCell ⟨N, 0, none⟩ a).setCell ⟨N, 1, none⟩ b).setCell ⟨M, 0, none⟩ c).setCell ⟨M, 1, none⟩ d).cell? ⟨N, 0, none⟩ = some a := by
  rw [World.cell?_setCell_other _ _ _ _ (by intro e; simp at e; try omega), World.cell?_setCell_other _ _ _ _ (by intro e; simp at e; try omega), World.cell?_setCell_other _ _ _ _ (by intro e; simp at e), World.cell?_setCell_same _ _ _ z]
theorem cC1 {w : World} {N M : Nat} {u a b c d : Value} (z : w.cell? ⟨N, 1, none⟩ = some u) (h : N ≠ M) : ((((w.setCell ⟨N, 0, none⟩ a).setCell ⟨N, 1, none⟩ b).setCell ⟨M, 0, none⟩ c).setCell ⟨M, 1, none⟩ d).cell? ⟨N, 1, none⟩ = some b := by
  rw [World.cell?_setCell_other _ _ _ _ (by intro e; simp at e; try omega), World.cell?_setCell_other _ _ _ _ (by intro e; simp at e; try omega)]
  exact World.cell?_setCell_same _ _ _ ((World.cell?_setCell_other _ _ _ _ (by intro e; simp at e)).trans z)
theorem cC2 {w : World} {N M : Nat} {u a b c d : Value} (z : w.cell? ⟨M, 0, none⟩ = some u) (h : N ≠ M) : ((((w.setCell ⟨N, 0, none⟩ a).setCell ⟨N, 1, none⟩ b).setCell ⟨M, 0, none⟩ c).setCell ⟨M, 1, none⟩ d).cell? ⟨M, 0, none⟩ = some c := by
  rw [World.cell?_setCell_other _ _ _ _ (by intro e; simp at e)]
  exact World.cell?_setCell_same _ _ _ ((World.cell?_setCell_other _ _ _ _ (by intro e; simp at e; try omega)).trans ((World.cell?_setCell_other _ _ _ _ (by intro e; simp at e; try omega)).trans z))
theorem cC3 {w : World} {N M : Nat} {u a b c d : Value} (z : w.cell? ⟨M, 1, none⟩ = some u) (h : N ≠ M) : ((((w.setCell ⟨N, 0, none⟩ a).setCell ⟨N, 1, none⟩ b).setCell ⟨M, 0, none⟩ c).setCell ⟨M, 1, none⟩ d).cell? ⟨M, 1, none⟩ = some d :=
  World.cell?_setCell_same _ _ _ ((World.cell?_setCell_other _ _ _ _ (by intro e; simp at e)).trans ((World.cell?_setCell_other _ _ _ _ (by intro e; simp at e; try omega)).trans ((World.cell?_setCell_other _ _ _ _ (by intro e; simp at e; try omega)).trans z)))
theorem bel_alloc {Z w : World} {o : Obj} (h : Below Z.heap.size Z w) : Below Z.heap.size Z (w.alloc o) := h.alloc h.size o
theorem bel_set2 {Z w : World} {N : Nat} {a b : Value} (h : Below Z.heap.size Z w) (hN : Z.heap.size ≤ N) : Below Z.heap.size Z ((w.setCell ⟨N, 0, none⟩ a).setCell ⟨N, 1, none⟩ b) := (h.setCell (p := ⟨N, 0, none⟩) hN a).setCell (p := ⟨N, 1, none⟩) hN b
theorem belS4 {M Q : Nat} {m t : List UInt8} {lv qv : Value} {ps : Flds} {w W0 w' : World} (h0 : LenS M Q m t lv qv ps w W0) (hb : Below W0.heap.size W0 w') : Below W0.heap.size W0 w' ∧ w'.cell? ⟨M, 0, none⟩ = some (.string (strB m)) ∧ w'.cell? ⟨M, 1, none⟩ = some (.string (strB t)) ∧ w'.cell? ⟨M, 2, none⟩ = some lv :=
  have h := h0.below hb
  ⟨hb, h.1, h.2.1, h.2.2.1⟩
theorem lenS4 {M Q : Nat} {m t : List UInt8} {lv qv : Value} {ps : Flds} {w w' : World} (h : LenS M Q m t lv qv ps w w') : LenS M Q m t lv qv ps w w' ∧ w'.cell? ⟨M, 0, none⟩ = some (.string (strB m)) ∧ w'.cell? ⟨M, 1, none⟩ = some (.string (strB t)) ∧ w'.cell? ⟨M, 2, none⟩ = some lv := ⟨h, h.1, h.2.1, h.2.2.1⟩
/-- Lenient's contract over two numbers of each reading. -/
def LenC (M Q : Nat) (m t : List UInt8) (lv qv : Value) (ps : Flds) (w : World) (x0 x1 y0 y1 : Nat) : Prop :=
  (∀ W, LenS M Q m t lv qv ps w W → Calls Tryd.prog 23 #[.agg #[.string (strB m), .string (strB t), lv], .bool true] W (fun e w' => e = .returned (frV x0 x1) ∧ LenS M Q m t lv qv ps w w' ∧ Below W.heap.size W w')) ∧
  (∀ W, LenS M Q m t lv qv ps w W → Calls Tryd.prog 23 #[.agg #[.string (strB m), .string (strB t), lv], .bool false] W (fun e w' => e = .returned (frV y0 y1) ∧ LenS M Q m t lv qv ps w w' ∧ Below W.heap.size W w'))
set_option maxHeartbeats 4000000 in
set_option maxRecDepth 100000 in
theorem fr_lenient_walk (m t : List UInt8) (v : Value) (ps : List (List UInt8 × List UInt8)) (w : World) (hM : HasMax w)
    (hg : m.length ≤ 140737488355328 ∧ t.length ≤ 140737488355328 ∧ ReadsQ w v ps ∧ ps.length ≤ maxLen ∧ (∀ q ∈ ps, q.1.length ≤ 140737488355328 ∧ q.2.length ≤ 140737488355328)) :
    Calls Tryd.prog 4 #[.agg #[.string (strB m), .string (strB t), v]] w fun e w' => e = .returned (.bool true) ∧ Below w.heap.size w w' := by
  obtain ⟨hm, ht, hr, hpl, hpb⟩ := hg
  have HR := Lib.hid hr
  have HM := Lib.hid hM
  have F := Lib.hid (fun W (hr : ReadsQ W v ps) => fits6_any v ps W hr (by unfold maxLen at hpl; omega) hpb)
  obtain ⟨ao, cap, rfl, hc⟩ := hr
  have hB0 : Below w.heap.size w (w.alloc (.cells #[.string (strB m), .string (strB t), .slice ao ps.length cap] 43)) := below_new _ _
  clear hc hpl hpb hM
  go_enter Tryd.func4, Tryd.ntmps4
  go_wp2_with fail
  refine (awake6_any _).mono ?_
  rintro e w1 ⟨rfl, hB1⟩
  obtain ⟨b0, b1, b2, bz⟩ := trio_kept w hB1
  have hBx := hB0.trans (hB1.mono hB0.size)
  go_wp2_with fail
  refine (F.out _ (HR.out.below hBx)).mono ?_
  rintro e w2 ⟨rfl, hB2⟩
  have hB12 := hB1.trans (hB2.mono hB1.size)
  have hBy := hB0.trans (hB12.mono hB0.size)
  clear b0 b1 b2 bz hB1 hB2 hBx
  obtain ⟨b0, b1, b2, bz⟩ := trio_kept w hB12
  cases hfit : fits6B ps with
  | false =>
    go_wp2_with fail
    refine (awake6_any _).mono ?_
    rintro e w3 ⟨rfl, hB3⟩
    go_wp2_with fail
    go_ret
    exact ⟨rfl, hBy.trans (hB3.mono hBy.size)⟩
  | true =>
    have hf := fits6_Fits hfit
    have hfe := hf.each
    have hf1 : ps.length ≤ 100 := hf.1
    have Q := Lib.hid (fun W (hr : ReadsQ W (.slice ao ps.length cap) ps) => request_any m t (.slice ao ps.length cap) ps W hr (by omega) hfe)
    have HF := Lib.hid hf
    clear hf hfe hf1 hfit
    go_wp2_with fail
    refine (Q.out _ (HR.out.below hBy)).mono ?_
    rintro e w3 ⟨a3, n3, c3, rfl, hO3, hB3⟩
    have hB13 := hB12.trans (hB3.mono hB12.size)
    have hBz := hBy.trans (hB3.mono hBy.size)
    have hbn := below_new w3 (.cells #[.string (strB m), .string (strB t), .slice a3 n3 c3] 45)
    have hx : ∀ j, (w3.alloc (.cells #[.string (strB m), .string (strB t), .slice a3 n3 c3] 45)).cell? ⟨w3.heap.size, j, none⟩ = (#[.string (strB m), .string (strB t), .slice a3 n3 c3] : Array Value)[j]? := fun j => by rw [World.cell?_alloc_at _ _ _ _ rfl]
    have hR3 := hO3.q.below hbn
    clear b0 b1 b2 bz hB12 hB3 hBy hO3
    obtain ⟨b0, b1, b2, bz⟩ := trio_kept w hB13
    have hS0 : LenS w.heap.size w3.heap.size m t (.slice ao ps.length cap) (.slice a3 n3 c3) ps w (w3.alloc (.cells #[.string (strB m), .string (strB t), .slice a3 n3 c3] 45)) :=
      ⟨(hbn.cell (p := ⟨w.heap.size, 0, none⟩) bz).trans b0, (hbn.cell (p := ⟨w.heap.size, 1, none⟩) bz).trans b1, (hbn.cell (p := ⟨w.heap.size, 2, none⟩) bz).trans b2,
        hx 0, hx 1, hx 2, by simp; omega, by simp, (HR.out.below hBz).below hbn, hR3, (HM.out.below hBz).below hbn, hBz.trans (hbn.mono hBz.size)⟩
    have L : Hid (∀ (f : Bool) W (h : LenS w.heap.size w3.heap.size m t (.slice ao ps.length cap) (.slice a3 n3 c3) ps w W), Calls Tryd.prog 23 #[.agg #[.string (strB m), .string (strB t), .slice ao ps.length cap], .bool f] W (fun e w' => e = .returned (frV (lenP ps f).1 (lenP ps f).2) ∧ LenS w.heap.size w3.heap.size m t (.slice ao ps.length cap) (.slice a3 n3 c3) ps w w' ∧ Below W.heap.size W w')) := Lib.hid fun f W h => refLen_S f h HF.out
    have HF2 := Lib.hid HF.out
    have L1 := Lib.hid (fun W (h : LenS w.heap.size w3.heap.size m t (.slice ao ps.length cap) (.slice a3 n3 c3) ps w W) => refLen_S true h HF2.out)
    have L2 := Lib.hid (fun W (h : LenS w.heap.size w3.heap.size m t (.slice ao ps.length cap) (.slice a3 n3 c3) ps w W) => refLen_S false h HF2.out)
    obtain ⟨x0, hx0⟩ : ∃ x, x = (lenP ps true).1 := ⟨_, rfl⟩
    obtain ⟨x1, hx1⟩ : ∃ x, x = (lenP ps true).2 := ⟨_, rfl⟩
    obtain ⟨y0, hy0⟩ : ∃ x, x = (lenP ps false).1 := ⟨_, rfl⟩
    obtain ⟨y1, hy1⟩ : ∃ x, x = (lenP ps false).2 := ⟨_, rfl⟩
    rw [← hx0, ← hx1] at L1
    rw [← hy0, ← hy1] at L2
    have HP := Lib.hid (And.intro (And.intro hx0 hx1) (And.intro hy0 hy1))
    clear L hx0 hx1 hy0 hy1 hbn hx hR3 b0 b1 b2 bz hB13 hBz Q F
    go_upto_region 4 with fail
    generalize (w3.alloc (.cells #[.string (strB m), .string (strB t), .slice a3 n3 c3] 45)) = W0 at *
    generalize w3.heap.size = Q at *
    obtain ⟨a0, a1, a2, hbb⟩ := id hS0
    have HBB := Lib.hid hbb
    clear hbb
    have C1 := Lib.hid (lenB L1.out hS0)
    have C2 := Lib.hid (lenB L2.out hS0)
    have HS0 := Lib.hid hS0
    have qA : Below W0.heap.size W0 W0.drew := (Below.refl _ _).drew
    clear L1 L2 hS0
    go_cut [4, 5] (fun u4 u5 wx => ∃ N1 N2, u4 = .pointer (some ⟨N1, 0, none⟩) ∧ u5 = .pointer (some ⟨N2, 0, none⟩) ∧ FrV N1 (x0, x1) wx ∧ FrV N2 (y0, y1) wx ∧ Below W0.heap.size W0 wx)
    case first =>
      clear HP HM HR HF HF2
      go_region_held3 (fun w' => Below W0.heap.size W0 w' ∧ w'.cell? ⟨w.heap.size, 0, none⟩ = some (.string (strB m)) ∧ w'.cell? ⟨w.heap.size, 1, none⟩ = some (.string (strB t)) ∧ w'.cell? ⟨w.heap.size, 2, none⟩ = some (.slice ao ps.length cap))
        ((refine belS4 HS0.out ?_; (repeat' (first | assumption | (exact Below.refl _ _) | (with_reducible apply bel_alloc) | (with_reducible apply Below.drew) | (with_reducible apply bel_set2) | omega))))
        (first
          | (go_at_call 23; (with_reducible refine (C1.out _ (And.left ‹_›)).mono ?_); rintro e wA ⟨rfl, hA, hBA, hzA⟩; (try (have ya0 := ((hBA.cell (p := ⟨W0.heap.size, 0, none⟩) ?_).trans (show _ = some (Value.int .i64 0) from ?_)); rotate_left; (simp <;> omega); (first | (simp <;> fail) | (rw [frozen?_alloc_cells]; simp <;> fail)); rotate_right; have yaf0 := ((hBA.frozen (p := ⟨W0.heap.size, 0, none⟩) ?_).trans (show _ = false from ?_)); rotate_left; (simp <;> omega); (first | (simp <;> fail) | (rw [frozen?_alloc_cells]; simp <;> fail)); rotate_right; have ya1 := ((hBA.cell (p := ⟨W0.heap.size, 1, none⟩) ?_).trans (show _ = some (Value.int .i64 0) from ?_)); rotate_left; (simp <;> omega); (first | (simp <;> fail) | (rw [frozen?_alloc_cells]; simp <;> fail)); rotate_right; have yaf1 := ((hBA.frozen (p := ⟨W0.heap.size, 1, none⟩) ?_).trans (show _ = false from ?_)); rotate_left; (simp <;> omega); (first | (simp <;> fail) | (rw [frozen?_alloc_cells]; simp <;> fail)); rotate_right)); (try (have yb0 := ((hBA.cell (p := ⟨W0.heap.size + 1, 0, none⟩) ?_).trans (show _ = some (Value.int .i64 0) from ?_)); rotate_left; (simp <;> omega); (first | (simp <;> fail) | (rw [frozen?_alloc_cells]; simp <;> fail)); rotate_right; have ybf0 := ((hBA.frozen (p := ⟨W0.heap.size + 1, 0, none⟩) ?_).trans (show _ = false from ?_)); rotate_left; (simp <;> omega); (first | (simp <;> fail) | (rw [frozen?_alloc_cells]; simp <;> fail)); rotate_right; have yb1 := ((hBA.cell (p := ⟨W0.heap.size + 1, 1, none⟩) ?_).trans (show _ = some (Value.int .i64 0) from ?_)); rotate_left; (simp <;> omega); (first | (simp <;> fail) | (rw [frozen?_alloc_cells]; simp <;> fail)); rotate_right; have ybf1 := ((hBA.frozen (p := ⟨W0.heap.size + 1, 1, none⟩) ?_).trans (show _ = false from ?_)); rotate_left; (simp <;> omega); (first | (simp <;> fail) | (rw [frozen?_alloc_cells]; simp <;> fail)); rotate_right)); (try simp at hzA); (try (have lA0 : W0.heap.size < wA.heap.size := ?_; rotate_left; omega; rotate_right)); (try (have lA1 : W0.heap.size + 1 < wA.heap.size := ?_; rotate_left; omega; rotate_right)))
          | (go_at_call 23; (with_reducible refine (C2.out _ (And.left ‹_›)).mono ?_); rintro e wB ⟨rfl, hB, hBB, hzB⟩; (try (have hAB : Below wA.heap.size wA wB := Below.trans ?_ (hBB.mono ?_); rotate_left; (focus (repeat' (first | exact Below.refl _ _ | with_reducible apply bel_alloc))); (focus (simp <;> omega)); rotate_right)); (try (have za0 := ((hAB.cell (p := ⟨W0.heap.size, 0, none⟩) ?_).trans ya0); rotate_left; omega; rotate_right; have zaf0 := ((hAB.frozen (p := ⟨W0.heap.size, 0, none⟩) ?_).trans yaf0); rotate_left; omega; rotate_right; have za1 := ((hAB.cell (p := ⟨W0.heap.size, 1, none⟩) ?_).trans ya1); rotate_left; omega; rotate_right; have zaf1 := ((hAB.frozen (p := ⟨W0.heap.size, 1, none⟩) ?_).trans yaf1); rotate_left; omega; rotate_right)); (try (have zb0 := ((hAB.cell (p := ⟨W0.heap.size + 1, 0, none⟩) ?_).trans yb0); rotate_left; omega; rotate_right; have zbf0 := ((hAB.frozen (p := ⟨W0.heap.size + 1, 0, none⟩) ?_).trans ybf0); rotate_left; omega; rotate_right; have zb1 := ((hAB.cell (p := ⟨W0.heap.size + 1, 1, none⟩) ?_).trans yb1); rotate_left; omega; rotate_right; have zbf1 := ((hAB.frozen (p := ⟨W0.heap.size + 1, 1, none⟩) ?_).trans ybf1); rotate_left; omega; rotate_right)); (try (have zc0 := ((hBB.cell (p := ⟨wA.heap.size, 0, none⟩) ?_).trans (show _ = some (Value.int .i64 0) from ?_)); rotate_left; (simp <;> omega); (first | (simp <;> fail) | (rw [frozen?_alloc_cells]; simp <;> fail)); rotate_right; have zcf0 := ((hBB.frozen (p := ⟨wA.heap.size, 0, none⟩) ?_).trans (show _ = false from ?_)); rotate_left; (simp <;> omega); (first | (simp <;> fail) | (rw [frozen?_alloc_cells]; simp <;> fail)); rotate_right; have zc1 := ((hBB.cell (p := ⟨wA.heap.size, 1, none⟩) ?_).trans (show _ = some (Value.int .i64 0) from ?_)); rotate_left; (simp <;> omega); (first | (simp <;> fail) | (rw [frozen?_alloc_cells]; simp <;> fail)); rotate_right; have zcf1 := ((hBB.frozen (p := ⟨wA.heap.size, 1, none⟩) ?_).trans (show _ = false from ?_)); rotate_left; (simp <;> omega); (first | (simp <;> fail) | (rw [frozen?_alloc_cells]; simp <;> fail)); rotate_right)); (try (have zd0 := ((hBB.cell (p := ⟨wA.heap.size + 1, 0, none⟩) ?_).trans (show _ = some (Value.int .i64 0) from ?_)); rotate_left; (simp <;> omega); (first | (simp <;> fail) | (rw [frozen?_alloc_cells]; simp <;> fail)); rotate_right; have zdf0 := ((hBB.frozen (p := ⟨wA.heap.size + 1, 0, none⟩) ?_).trans (show _ = false from ?_)); rotate_left; (simp <;> omega); (first | (simp <;> fail) | (rw [frozen?_alloc_cells]; simp <;> fail)); rotate_right; have zd1 := ((hBB.cell (p := ⟨wA.heap.size + 1, 1, none⟩) ?_).trans (show _ = some (Value.int .i64 0) from ?_)); rotate_left; (simp <;> omega); (first | (simp <;> fail) | (rw [frozen?_alloc_cells]; simp <;> fail)); rotate_right; have zdf1 := ((hBB.frozen (p := ⟨wA.heap.size + 1, 1, none⟩) ?_).trans (show _ = false from ?_)); rotate_left; (simp <;> omega); (first | (simp <;> fail) | (rw [frozen?_alloc_cells]; simp <;> fail)); rotate_right)); (try simp at hzB); (try (have lB0 : W0.heap.size < wB.heap.size := ?_; rotate_left; omega; rotate_right)); (try (have lB1 : W0.heap.size + 1 < wB.heap.size := ?_; rotate_left; omega; rotate_right)); (try (have lB2 : wA.heap.size < wB.heap.size := ?_; rotate_left; omega; rotate_right)); (try (have lB3 : wA.heap.size + 1 < wB.heap.size := ?_; rotate_left; omega; rotate_right))))
      all_goals (try go_wp2_with fail)
      all_goals go_meet
      all_goals (refine ⟨_, _, rfl, rfl, ⟨?_, ?_, ?_⟩, ⟨?_, ?_, ?_⟩, (by with_reducible exact And.left ‹_›)⟩)
      all_goals clear HS0 hB0
      all_goals (simp; try omega)
      all_goals (first | ((with_reducible apply cA0) <;> (first | assumption | omega)) | ((with_reducible apply cA1) <;> (first | assumption | omega)) | ((with_reducible apply cB0) <;> (first | assumption | omega)) | ((with_reducible apply cB1) <;> (first | assumption | omega)) | ((with_reducible apply cC0) <;> (first | assumption | omega)) | ((with_reducible apply cC1) <;> (first | assumption | omega)) | ((with_reducible apply cC2) <;> (first | assumption | omega)) | ((with_reducible apply cC3) <;> (first | assumption | omega)))
    case rest =>
      obtain ⟨N1, N2, rfl, rfl, hF1, hF2, hbx⟩ := hcut
      have hS : RstS w.heap.size Q N1 N2 m t (.slice ao ps.length cap) (.slice a3 n3 c3) ps x0 x1 y0 y1 w _ := ⟨HS0.out.below hbx, hF1, hF2⟩
      have L1 : Hid (∀ W (h : RstS w.heap.size Q N1 N2 m t (.slice ao ps.length cap) (.slice a3 n3 c3) ps x0 x1 y0 y1 w W), Calls Tryd.prog 25 #[.agg #[.string (strB m), .string (strB t), .slice a3 n3 c3], .bool true] W (fun e w' => e = .returned (.agg #[.int .i64 (x0 : Int), .int .i64 (x1 : Int)]) ∧ RstS w.heap.size Q N1 N2 m t (.slice ao ps.length cap) (.slice a3 n3 c3) ps x0 x1 y0 y1 w w')) :=
        Lib.hid (fun W h => by have h3 := rst_lenient true h HF.out; rw [← HP.out.1.1, ← HP.out.1.2] at h3; exact h3)
      have L2 : Hid (∀ W (h : RstS w.heap.size Q N1 N2 m t (.slice ao ps.length cap) (.slice a3 n3 c3) ps x0 x1 y0 y1 w W), Calls Tryd.prog 25 #[.agg #[.string (strB m), .string (strB t), .slice a3 n3 c3], .bool false] W (fun e w' => e = .returned (.agg #[.int .i64 (y0 : Int), .int .i64 (y1 : Int)]) ∧ RstS w.heap.size Q N1 N2 m t (.slice ao ps.length cap) (.slice a3 n3 c3) ps x0 x1 y0 y1 w w')) :=
        Lib.hid (fun W h => by have h3 := rst_lenient false h HF.out; rw [← HP.out.2.1, ← HP.out.2.2] at h3; exact h3)
      have e0 : lenP ps true = (x0, x1) := Prod.ext HP.out.1.1.symm HP.out.1.2.symm
      have e9 : lenP ps false = (y0, y1) := Prod.ext HP.out.2.1.symm HP.out.2.2.symm
      have hcase : (((x0 : Int) == (y0 : Int)) = true ∧ ((x1 : Int) == (y1 : Int)) = true ∧ decide (lenP ps true ≠ lenP ps false) = false) ∨ (((x0 : Int) == (y0 : Int)) = false ∧ decide (lenP ps true ≠ lenP ps false) = true) ∨
          (((x0 : Int) == (y0 : Int)) = true ∧ ((x1 : Int) == (y1 : Int)) = false ∧ decide (lenP ps true ≠ lenP ps false) = true) := by
        rw [e0, e9]
        by_cases h1 : x0 = y0
        · by_cases h2 : x1 = y1
          · exact .inl ⟨by rw [h1]; simp, by rw [h2]; simp, by rw [h1, h2]; simp⟩
          · exact .inr (.inr ⟨by rw [h1]; simp, by simp; omega, by simp; exact .inr h2⟩)
        · exact .inr (.inl ⟨by simp; omega, by simp; exact .inl h1⟩)
      clear e0 e9 HP hF1 hF2 C1 C2 a0 a1 a2 qA
      rcases hcase with ⟨e1, e2, hb⟩ | ⟨e1, hb⟩ | ⟨e1, e2, hb⟩
      all_goals
        have AM := Lib.hid (fun W (h : RstS w.heap.size Q N1 N2 m t (.slice ao ps.length cap) (.slice a3 n3 c3) ps x0 x1 y0 y1 w W) => rst_ambiguous h HF.out hb)
        have I1 : Hid (∀ W (h : RstS w.heap.size Q N1 N2 m t (.slice ao ps.length cap) (.slice a3 n3 c3) ps x0 x1 y0 y1 w W), Calls Tryd.prog 24 #[.agg #[.int .i64 (x0 : Int), .int .i64 (x1 : Int)], .agg #[.int .i64 (x0 : Int), .int .i64 (x1 : Int)]] W (fun e w' => e = .returned (.bool true) ∧ RstS w.heap.size Q N1 N2 m t (.slice ao ps.length cap) (.slice a3 n3 c3) ps x0 x1 y0 y1 w w')) := Lib.hid (fun W h => rst_is x0 x1 h)
        have I2 : Hid (∀ W (h : RstS w.heap.size Q N1 N2 m t (.slice ao ps.length cap) (.slice a3 n3 c3) ps x0 x1 y0 y1 w W), Calls Tryd.prog 24 #[.agg #[.int .i64 (y0 : Int), .int .i64 (y1 : Int)], .agg #[.int .i64 (y0 : Int), .int .i64 (y1 : Int)]] W (fun e w' => e = .returned (.bool true) ∧ RstS w.heap.size Q N1 N2 m t (.slice ao ps.length cap) (.slice a3 n3 c3) ps x0 x1 y0 y1 w w')) := Lib.hid (fun W h => rst_is y0 y1 h)
        clear hb
        go_upto_region 5 with fail
        have hSd := hS.below (Below.refl _ _).drew
        clear hbx
        go_region_held3 (fun w' => w'.cell? ⟨Q, 0, none⟩ = some (.string (strB m)) ∧ w'.cell? ⟨Q, 1, none⟩ = some (.string (strB t)) ∧ w'.cell? ⟨Q, 2, none⟩ = some (.slice a3 n3 c3) ∧ w'.cell? ⟨N1, 0, none⟩ = some (.int .i64 (x0 : Int)) ∧ w'.cell? ⟨N1, 1, none⟩ = some (.int .i64 (x1 : Int)) ∧ w'.cell? ⟨N2, 0, none⟩ = some (.int .i64 (y0 : Int)) ∧ w'.cell? ⟨N2, 1, none⟩ = some (.int .i64 (y1 : Int)) ∧ RstS w.heap.size Q N1 N2 m t (.slice ao ps.length cap) (.slice a3 n3 c3) ps x0 x1 y0 y1 w w')
          (first | exact rst_all hK | exact rst_all hSd)
          (first
            | (go_at_call 25; (with_reducible refine (L1.out _ (by first | exact hSd | assumption)).mono ?_); rintro e w10 ⟨rfl, hK⟩)
            | (go_at_call 25; (with_reducible refine (L2.out _ (by first | exact hSd | assumption)).mono ?_); rintro e w10 ⟨rfl, hK⟩)
            | (go_at_call 24; (with_reducible refine (I1.out _ (by first | exact hSd | assumption)).mono ?_); rintro e w10 ⟨rfl, hK⟩)
            | (go_at_call 24; (with_reducible refine (I2.out _ (by first | exact hSd | assumption)).mono ?_); rintro e w10 ⟨rfl, hK⟩)
            | (go_at_call 26; (with_reducible refine (AM.out _ (by first | exact hSd | assumption)).mono ?_); rintro e w10 ⟨rfl, hK⟩))
        have hBf := hK.1.2.2.2.2.2.2.2.2.2.2.2
        go_wp2_with fail
        go_ret
        exact ⟨rfl, hBf⟩
end Go.Proofs.YtgbcpheccaldlaaDoor
