/- A map of the call's own, from ints to true: made, asked, filled. -/
import Derived.Test.YtbmbcdbldbjddaaVyFew
import Derived.Maps.OwnOps
import Derived.Maps.Views
namespace Go.Proofs.Ytbmbcdbldbjddaa
open Go.RowKit Go.Maps

theorem keyI : Keyed Try.prog 3 := int_keyed Try.underlying3
def boolI (v : Value) : Option (DataW Unit × List MemPlace) :=
  match v with
  | .bool x => some (.lit (.bool x), [])
  | _ => none
theorem boolI_inv {v : Value} {x : Bool} {l : List MemPlace} (h : boolI v = some (.lit (.bool x), l)) : v = .bool x := by
  unfold boolI at h
  split at h
  · simp only [Option.some.injEq, Prod.mk.injEq, DataW.lit.injEq, Lit.bool.injEq] at h
    rw [h.1]
  · cases h
/-- Block b is a map of at most n ints, and these are the ints that it has. -/
def HasInts (w : World) (b n : Nat) (ks : List Int) : Prop :=
  ∃ D, w.ownsMap Try.prog 3 boolI b n D ∧ ∀ x : Int, D.atKey (.int .i64 x) (.lit (.bool false)) = .lit (.bool (decide (x ∈ ks)))
theorem HasInts.made (w : World) : HasInts (w.alloc (.map #[] 0)) w.heap.size 0 [] :=
  ⟨_, World.ownsMap_made _ _ _ _, fun x => by simp [DataW.atKey]⟩
theorem HasInts.kept {w w' : World} {b n : Nat} {ks : List Int} {row : Option Nat} (h : HasInts w b n ks) (hg : w.grownBy w' row) (hne : some b ≠ row) : HasInts w' b n ks := by
  obtain ⟨D, hD, hx⟩ := h; exact ⟨D, hD.kept hg hne, hx⟩
theorem HasInts.below {w w' : World} {b n : Nat} {ks : List Int} (h : HasInts w b n ks) (hb : Below w.heap.size w w') : HasInts w' b n ks :=
  h.kept (grown_of_below hb none) (by simp)
theorem HasInts.same {w : World} {b n : Nat} {ks ms : List Int} (h : HasInts w b n ks) (he : ∀ x, x ∈ ks ↔ x ∈ ms) : HasInts w b n ms := by
  obtain ⟨D, hD, hx⟩ := h
  exact ⟨D, hD, fun x => by rw [hx x]; simp only [he x]⟩
theorem zeroBI (w : World) : (zeroValue 4).run Try.prog w = .ok (.bool false) w := by kernel_rfl
theorem key_ofI (x : Int) (hx : -128 ≤ x ∧ x ≤ 127) : keyOf Try.prog 3 (.int .i64 x) = some (.int .i64 x) :=
  keyOf_int_mk Try.underlying3 (by simp [Lit.wf, IntKind.min, IntKind.max, IntKind.signed, IntKind.bits]; omega)
theorem HasInts.look {w : World} {b n : Nat} {ks : List Int} (h : HasInts w b n ks) (x : Int) (hx : -128 ≤ x ∧ x ≤ 127) :
    (Instr.lookup 62 (.map (some b)) (.int .i64 x) false).run Try.prog w = .ok (.bool (decide (x ∈ ks))) w := by
  obtain ⟨D, hD, hk⟩ := h
  obtain ⟨v, ps, hrun, hv⟩ := hD.lookup keyI Try.underlying62 (zeroBI w) (zd := .lit (.bool false)) (zp := []) rfl (key_ofI x hx)
  rw [hk x] at hv
  rw [hrun, boolI_inv hv]
theorem HasInts.put {w : World} {b n : Nat} {ks : List Int} (h : HasInts w b n ks) (x : Int) (hx : -128 ≤ x ∧ x ≤ 127) (hn : n < maxLen) :
    ∃ w', (Instr.mapUpdate 62 (.map (some b)) (.int .i64 x) (.bool true)).run Try.prog w = .ok () w' ∧ HasInts w' b (n + 1) (x :: ks) ∧ w.grownBy w' (some b) := by
  obtain ⟨D, hD, hk⟩ := h
  obtain ⟨w', hrun, hD', hg⟩ := hD.update keyI Try.underlying62 hn (val := .bool true) (d := .lit (.bool true)) (ps := []) (key_ofI x hx) rfl
  refine ⟨w', hrun, ⟨_, hD', fun y => ?_⟩, hg⟩
  by_cases e : y = x
  · subst e
    rw [atKey_put_same hD.isMap (show WideAt.IsKeyLit (.int .i64 y) from True.intro)]
    simp
  · rw [atKey_put_other (fun h => e (by cases h; rfl)), hk y]
    simp [e]
end Go.Proofs.Ytbmbcdbldbjddaa
