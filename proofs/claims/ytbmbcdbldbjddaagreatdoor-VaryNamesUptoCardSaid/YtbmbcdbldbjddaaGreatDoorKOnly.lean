/- Worlds in which only the blocks of a set have changed. -/
import Derived.Test.YtbmbcdbldbjddaaGreatDoorBase
import Derived.Lib.Builder
namespace Go.Proofs.YtbmbcdbldbjddaaGreatDoor
open Go.RowKit

/-- Of what was there in w only the blocks of X may have changed in w'. -/
structure Only (X : Nat → Prop) (w w' : World) : Prop where
  os : w'.os = w.os
  tape : w'.tape = w.tape
  output : w'.output = w.output
  size : w.heap.size ≤ w'.heap.size
  block : ∀ k, k < w.heap.size → ¬ X k → w'.heap[k]? = w.heap[k]?
theorem Only.refl (X : Nat → Prop) (w : World) : Only X w w := ⟨rfl, rfl, rfl, Nat.le_refl _, fun _ _ _ => rfl⟩
theorem Only.trans {X Y : Nat → Prop} {a b c : World} (h : Only X a b) (k : Only Y b c) (hY : ∀ i, Y i → X i ∨ a.heap.size ≤ i) : Only X a c :=
  ⟨k.os.trans h.os, k.tape.trans h.tape, k.output.trans h.output, Nat.le_trans h.size k.size, fun i hi hx =>
    (k.block i (Nat.lt_of_lt_of_le hi h.size) (fun hy => by rcases hY i hy with h' | h'; exact hx h'; omega)).trans (h.block i hi hx)⟩
theorem Only.trans' {X : Nat → Prop} {a b c : World} (h : Only X a b) (k : Only X b c) : Only X a c := h.trans k fun _ h => .inl h
theorem Only.set {X : Nat → Prop} {b : Nat} (hb : X b) (w : World) (j : Nat) (u : Value) : Only X w (w.setCell ⟨b, j, none⟩ u) :=
  ⟨rfl, rfl, rfl, by simp, fun k _ hk => Below.heap_setCell _ _ _ _ (fun e => hk (by rw [e]; exact hb))⟩
theorem Only.below {X : Nat → Prop} {w w' : World} (h : Below w.heap.size w w') : Only X w w' := ⟨h.os, h.tape, h.output, h.size, fun k hk _ => h.block k hk⟩
theorem Only.alloc (X : Nat → Prop) (w : World) (o : Obj) : Only X w (w.alloc o) := Only.below (below_new w o)
theorem Only.drew (X : Nat → Prop) (w : World) : Only X w w.drew := Only.below (Below.refl _ _).drew
theorem Only.drewN (X : Nat → Prop) (w : World) (n : Nat) : Only X w (w.drewN n) := Only.below (below_drewN (Below.refl _ _) n)
theorem Only.grown {X : Nat → Prop} {w w' : World} {row : Option Nat} (h : w.grownBy w' row) (hr : ∀ k, row = some k → X k ∨ w.heap.size ≤ k) : Only X w w' :=
  ⟨h.os, h.tape, h.output, h.size, fun k hk hx => h.block k hk (fun e => by rcases hr k e.symm with h' | h'; exact hx h'; omega)⟩
theorem Only.to {X : Nat → Prop} {w w' : World} {B : Nat} (h : Only X w w') (hX : ∀ k, X k → B ≤ k) (hB : B ≤ w.heap.size) : Below B w w' :=
  ⟨h.os, h.tape, h.output, h.size, fun k hk => h.block k (Nat.lt_of_lt_of_le hk hB) (fun hx => by have := hX k hx; omega)⟩
theorem Only.mono {X Y : Nat → Prop} {w w' : World} (h : Only X w w') (hY : ∀ k, X k → Y k) : Only Y w w' :=
  ⟨h.os, h.tape, h.output, h.size, fun k hk hy => h.block k hk (fun hx => hy (hY k hx))⟩
theorem Only.cell {X : Nat → Prop} {w w' : World} (h : Only X w w') {p : Addr} (hp : p.block < w.heap.size) (hx : ¬ X p.block) : w'.cell? p = w.cell? p := World.cell?_of_block (h.block _ hp hx)
theorem Only.frozen {X : Nat → Prop} {w w' : World} (h : Only X w w') {p : Addr} (hp : p.block < w.heap.size) (hx : ¬ X p.block) : w'.frozen? p = w.frozen? p := World.frozen?_of_block (h.block _ hp hx)
theorem Only.owns {X : Nat → Prop} {w w' : World} (h : Only X w w') {B : Nat} {e : TypeId} {size : Nat} {v : Value} {n : Nat} {xs : List Value} (ho : w.ownsRow B e size v n xs) (hv : ∀ k, v.ownBlock = some k → ¬ X k) : w'.ownsRow B e size v n xs := by
  obtain ⟨hl, hv' | ⟨g, cap, cur, rfl, hb, hg, rest⟩⟩ := ho
  · exact ⟨hl, .inl hv'⟩
  · refine ⟨hl, .inr ⟨g, cap, cur, rfl, hb, ?_, rest⟩⟩
    rw [h.block g (Array.getElem?_eq_some_iff.1 hg).1 (hv g rfl)]; exact hg
theorem ownsRow_base {B C : Nat} {w : World} {e : TypeId} {size : Nat} {v : Value} {n : Nat} {xs : List Value} (h : w.ownsRow B e size v n xs) (hC : ∀ k, v.ownBlock = some k → C ≤ k) : w.ownsRow C e size v n xs := by
  obtain ⟨hl, hv' | ⟨g, cap, cur, rfl, hb, rest⟩⟩ := h
  · exact ⟨hl, .inl hv'⟩
  · exact ⟨hl, .inr ⟨g, cap, cur, rfl, hC g rfl, rest⟩⟩
/-- The block of a row is no block of another type. -/
theorem ownBlock_other {w : World} {B : Nat} {e T : TypeId} {size : Nat} {v : Value} {n : Nat} {xs : List Value} {b : Nat} {cs : Array Value} {fr : Nat × Nat} (hown : w.ownsRow B e size v n xs) (hb : w.heap[b]? = some (.cells cs T fr)) (hTe : T ≠ e) : v.ownBlock ≠ some b := by
  rcases hown.2 with ⟨rfl, _⟩ | ⟨g, cap, cur, rfl, _, hg, _⟩
  · simp [Value.ownBlock]
  · intro h
    simp only [Value.ownBlock, Option.some.injEq] at h
    subst h
    rw [hg] at hb
    simp only [Option.some.injEq, Obj.cells.injEq] at hb
    exact hTe hb.2.1.symm
end Go.Proofs.YtbmbcdbldbjddaaGreatDoor
