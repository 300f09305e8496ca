/- ChunkedCuts: for all parts the statement's function returns true: the walk. -/
import Derived.Test.YtikkaakgehaenaaDoorKDone
import Derived.Test.YtikkaakgehaenaaDoorKRef0
import Derived.Test.YtikkaakgehaenaaDoorFAreOnly
namespace Go.Proofs.YtikkaakgehaenaaDoor
open Go.RowKit

/-- All parts, one after the other. -/
def flatK (ls : List (List UInt8)) : List UInt8 := ls.flatten
theorem flatK_len (ls : List (List UInt8)) : (flatK ls).length = sumL ls := sumL_flat ls
theorem flatK_more {ls : List (List UInt8)} {k : Nat} {l : List UInt8} (h : ls[k]? = some l) : flatK (ls.take (k + 1)) = flatK (ls.take k) ++ l := by
  unfold flatK; rw [moreK_at h, List.flatten_append, List.flatten_singleton]
/-- What a decoder makes of the first k parts. -/
def cutD (ls : List (List UInt8)) (k : Nat) : Dc × List UInt8 × Nat := wrD Dc.new (flatK (ls.take k))
theorem cutD_more {ls : List (List UInt8)} {k : Nat} {l : List UInt8} (h : ls[k]? = some l) :
    cutD ls (k + 1) = ((wrD (cutD ls k).1 l).1, (cutD ls k).2.1 ++ (wrD (cutD ls k).1 l).2.1, (cutD ls k).2.2 + (wrD (cutD ls k).1 l).2.2) := by
  unfold cutD
  rw [flatK_more h, wrD_app]
theorem cutD_le {ls : List (List UInt8)} (k : Nat) (h : sumL ls ≤ 12000) : (cutD ls k).2.2 ≤ 12000 ∧ (cutD ls k).2.1.length ≤ 12000 := by
  have h1 := wrD_len (flatK (ls.take k)) Dc.new
  have h2 := flatK_len (ls.take k)
  have h3 := sumL_take_le ls k
  unfold cutD; omega
theorem cutD_ok (ls : List (List UInt8)) (k : Nat) : (cutD ls k).1.Ok := wrD_ok _ ok_new
theorem num_errK (c : Nat) (w : World) : Calls Tryd.prog 14 #[errV c] w fun e w' => e = .returned (.int .i64 c) ∧ w = w' := by
  unfold errV
  by_cases h : c = 0
  · rw [if_pos h]; subst h; exact num_nil w
  · rw [if_neg h]; exact num_errno c w
theorem MaxB.mono {B C : Nat} {w : World} (h : MaxB B w) (hC : B ≤ C) : MaxB C w := ⟨h.1, Nat.lt_of_lt_of_le h.2 hC⟩
def CutRel (ls : List (List UInt8)) (P : Nat) (w4 : World) (v t c i : Value) (wr : World) : Prop :=
  ∃ (k : Nat) (X : Nat → Prop), i = .int .i64 (k : Int) ∧ k ≤ ls.length ∧ Dec P P X (cutD ls k).1 wr ∧ (∀ j, X j → j = P ∨ w4.heap.size ≤ j) ∧ OwnB w4.heap.size wr v (cutD ls k).2.1 ∧ (∀ j, v.ownBlock = some j → ¬ X j) ∧ t = .int .i64 ((cutD ls k).2.2 : Int) ∧ c = .int .i64 ((cutD ls k).1.er : Int) ∧ Only (fun j => j = P) w4 wr
/-- A round of the second loop: what the relation needs behind the append. -/
theorem cut_more {ls : List (List UInt8)} {P k : Nat} {l : List UInt8} {w4 wr w5 w6 : World} {X X3 : Nat → Prop} {v v' : Value} (hl : ls[k]? = some l) (hk : k < ls.length) (hX : ∀ j, X j → j = P ∨ w4.heap.size ≤ j) (ho : OwnB w4.heap.size wr v (cutD ls k).2.1) (hv : ∀ j, v.ownBlock = some j → ¬ X j) (hOn : Only (fun j => j = P) w4 wr)
    (hD3 : Dec P P X3 (wrD (cutD ls k).1 l).1 w5) (hX3 : ∀ j, X3 j → X j ∨ wr.heap.size ≤ j) (hO3 : Only X wr w5) (hO6 : OwnB w4.heap.size w6 v' ((cutD ls k).2.1 ++ (wrD (cutD ls k).1 l).2.1)) (hg : w5.grownBy w6 v.ownBlock) (hat : v'.ownBlock = v.ownBlock ∨ v'.ownBlock = some w5.heap.size) :
    CutRel ls P w4 v' (.int .i64 (((cutD ls k).2.2 : Int) + ((wrD (cutD ls k).1 l).2.2 : Int))) (.int .i64 ((wrD (cutD ls k).1 l).1.er : Int)) (.int .i64 ((k : Int) + 1)) w6 := by
  have hm := cutD_more hl
  have hs4 := hOn.size
  have hlt : ∀ j, v.ownBlock = some j → w4.heap.size ≤ j ∧ j < wr.heap.size := fun j hj => World.ownsRow.lt ho j hj
  have hgr : Only (fun j => v.ownBlock = some j) w5 w6 := Only.grown hg fun j hj => .inl hj
  refine ⟨k + 1, X3, by go_num, by omega, ?_, ?_, ?_, ?_, ?_, ?_, ?_⟩
  · rw [hm]
    refine hD3.only hgr fun j h1 h2 => ?_
    rcases hX3 j h1 with h | h
    · exact hv j h2 h
    · have := (hlt j h2).2; omega
  · intro j hj
    rcases hX3 j hj with h | h
    · exact hX j h
    · exact .inr (by omega)
  · rw [hm]; exact hO6
  · intro j h1 h2
    rcases hat with e | e
    · rcases hX3 j h2 with h | h
      · exact hv j (e ▸ h1) h
      · have := (hlt j (e ▸ h1)).2; omega
    · rw [e] at h1
      have := Option.some.inj h1
      have := (hD3.lt.2.2 j h2).2
      omega
  · rw [hm]; go_num
  · rw [hm]
  · exact (hOn.trans hO3 hX).trans hgr fun j hj => .inr (hlt j hj).1
end Go.Proofs.YtikkaakgehaenaaDoor
