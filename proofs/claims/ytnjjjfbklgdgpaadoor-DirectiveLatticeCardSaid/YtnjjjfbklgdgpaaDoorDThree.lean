/- Three directives' cells in memory; blocks that come in any order. -/
import Derived.Test.YtnjjjfbklgdgpaaDoorDMem
import Derived.Test.YtnjjjfbklgdgpaaDoorDNorm
import Derived.Deep.RegionHeld3
namespace Go.Proofs.YtnjjjfbklgdgpaaDoor
open Go.RowKit

/-- Three directives' cells. -/
structure ThS (N : Nat) (d e f : Dv) (w w' : World) : Prop where
  a : DvB N w' d
  b : DvB (N + 1) w' e
  c : DvB (N + 2) w' f
  l : Below w.heap.size w w'
theorem ThS.below {N : Nat} {d e f : Dv} {w w1 w2 : World} (h : ThS N d e f w w1) (hb : Below w1.heap.size w1 w2) : ThS N d e f w w2 := ⟨h.a.below hb, h.b.below hb, h.c.below hb, h.l.trans (hb.mono h.l.size)⟩
/-- Four directives' cells. -/
structure FoS (N M R X : Nat) (d e f m : Dv) (w w' : World) : Prop where
  a : DvB N w' d
  b : DvB M w' e
  c : DvB R w' f
  m : DvB X w' m
  l : Below w.heap.size w w'
theorem FoS.below {N M R X : Nat} {d e f m : Dv} {w w1 w2 : World} (h : FoS N M R X d e f m w w1) (hb : Below w1.heap.size w1 w2) : FoS N M R X d e f m w w2 := ⟨h.a.below hb, h.b.below hb, h.c.below hb, h.m.below hb, h.l.trans (hb.mono h.l.size)⟩
/-- Where the bit is set: the value is the block's address; the block's cells are zero. -/
def Blk (b : Bool) (s : Value) (N B : Nat) (V : World) : Prop := b = true → s = .pointer (some ⟨N, 0, none⟩) ∧ DvB N V zD ∧ B ≤ N
theorem Blk.below {b : Bool} {s : Value} {N B : Nat} {V W : World} (h : Blk b s N B V) (hb : Below V.heap.size V W) : Blk b s N B W := fun e => ⟨(h e).1, (h e).2.1.below hb, (h e).2.2⟩
theorem Blk.lt {b : Bool} {s : Value} {N B : Nat} {V : World} (h : Blk b s N B V) (e : b = true) : N < V.heap.size := (h e).2.1.lt
theorem blk_new (B : Nat) (V : World) (T : TypeId) (h : B ≤ V.heap.size) : Blk true (.pointer (some ⟨V.heap.size, 0, none⟩)) V.heap.size B (V.alloc (.cells (dvC zD) T)) := fun _ => ⟨rfl, dvB_new V zD T, h⟩
/-- The operations that may come up next: one of three calls in their order, and three that wait for nothing. -/
def rdy (c1 c3 c5 a6 a7 a8 : Bool) : List Nat := (if c1 then (if c3 then (if c5 then [] else [5]) else [3]) else [1]) ++ ((if a6 then [] else [6]) ++ ((if a7 then [] else [7]) ++ (if a8 then [] else [8])))
theorem mem_rdy {c1 c3 c5 a6 a7 a8 : Bool} {i : Nat} (h : i ∈ rdy c1 c3 c5 a6 a7 a8) : (i = 1 ∧ c1 = false) ∨ (i = 3 ∧ c1 = true ∧ c3 = false) ∨ (i = 5 ∧ c3 = true ∧ c5 = false) ∨ (i = 6 ∧ a6 = false) ∨ (i = 7 ∧ a7 = false) ∨ (i = 8 ∧ a8 = false) := by
  unfold rdy at h
  rcases List.mem_append.1 h with h | h
  · cases c1
    · exact .inl ⟨by simpa using h, rfl⟩
    · cases c3
      · exact .inr (.inl ⟨by simpa using h, rfl, rfl⟩)
      · cases c5
        · exact .inr (.inr (.inl ⟨by simpa using h, rfl, rfl⟩))
        · simp at h
  · rcases List.mem_append.1 h with h | h
    · cases a6
      · exact .inr (.inr (.inr (.inl ⟨by simpa using h, rfl⟩)))
      · simp at h
    · rcases List.mem_append.1 h with h | h
      · cases a7
        · exact .inr (.inr (.inr (.inr (.inl ⟨by simpa using h, rfl⟩))))
        · simp at h
      · cases a8
        · exact .inr (.inr (.inr (.inr (.inr ⟨by simpa using h, rfl⟩))))
        · simp at h
/-- How many are still to come. -/
def cnt (c1 c3 c5 a6 a7 a8 : Bool) : Nat := (!c1).toNat + (!c3).toNat + (!c5).toNat + (!a6).toNat + (!a7).toNat + (!a8).toNat
theorem cnt_zero {c1 c3 c5 a6 a7 a8 : Bool} (h : 0 = cnt c1 c3 c5 a6 a7 a8) : c1 = true ∧ c3 = true ∧ c5 = true ∧ a6 = true ∧ a7 = true ∧ a8 = true := by
  revert h; cases c1 <;> cases c3 <;> cases c5 <;> cases a6 <;> cases a7 <;> cases a8 <;> decide
theorem rdy_ne {c1 c3 c5 a6 a7 a8 : Bool} {n : Nat} (h : n + 1 = cnt c1 c3 c5 a6 a7 a8) (h3 : c3 = true → c1 = true) (h5 : c5 = true → c3 = true) : rdy c1 c3 c5 a6 a7 a8 ≠ [] := by
  revert h h3 h5; cases c1 <;> cases c3 <;> cases c5 <;> cases a6 <;> cases a7 <;> cases a8 <;> simp [rdy, cnt]
/-- The operations, what follows and the temporaries get names. -/
theorem gen_start {P : Program} {md : Region.Mode} {ops : Array Oper} {Q : Exit → Act → World → Prop} {S : World → Prop} {n : Nat} {l : Array Bool} {a : Act} {w : World}
    (h : ∀ (o : Array Oper) (Q' : Exit → Act → World → Prop) (T : Array Value), o = ops → Q' = Q → T = a.tmps → wpAnyH P md o Q' S n l ⟨T, a.defers⟩ w) : wpAnyH P md ops Q S n l a w := h _ _ _ rfl rfl rfl
end Go.Proofs.YtnjjjfbklgdgpaaDoor
