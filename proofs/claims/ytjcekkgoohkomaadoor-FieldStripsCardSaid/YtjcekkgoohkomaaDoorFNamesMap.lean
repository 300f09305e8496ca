/- A map of the call's own, from names to true: made, asked, filled. -/
import Derived.Test.YtjcekkgoohkomaaDoorFSpec
import Derived.Maps.OwnOps
import Derived.Maps.Views
namespace Go.Proofs.YtjcekkgoohkomaaDoor
open Go.RowKit Go.Maps

theorem keyS : Keyed Tryd.prog 9 := string_keyed Tryd.underlying9
def boolR (v : Value) : Option (DataW Unit × List MemPlace) :=
  match v with
  | .bool x => some (.lit (.bool x), [])
  | _ => none
theorem boolR_inv {v : Value} {x : Bool} {l : List MemPlace} (h : boolR v = some (.lit (.bool x), l)) : v = .bool x := by
  unfold boolR at h
  split at h
  · simp only [Option.some.injEq, Prod.mk.injEq, DataW.lit.injEq, Lit.bool.injEq] at h
    rw [h.1]
  · cases h
/-- Block b is a map of at most n names, and these are the names that it has. -/
def HasNames (w : World) (b n : Nat) (ks : List (List UInt8)) : Prop :=
  ∃ D, w.ownsMap Tryd.prog 9 boolR b n D ∧ ∀ x : List UInt8, D.atKey (.string x) (.lit (.bool false)) = .lit (.bool (decide (x ∈ ks)))
theorem HasNames.made (w : World) : HasNames (w.alloc (.map #[] 0)) w.heap.size 0 [] :=
  ⟨_, World.ownsMap_made _ _ _ _, fun x => by simp [DataW.atKey]⟩
theorem HasNames.lt {w : World} {b n : Nat} {ks : List (List UInt8)} (h : HasNames w b n ks) : b < w.heap.size := by
  obtain ⟨D, hD, _⟩ := h; exact hD.lt
theorem HasNames.kept {w w' : World} {b n : Nat} {ks : List (List UInt8)} {row : Option Nat} (h : HasNames w b n ks) (hg : w.grownBy w' row) (hne : some b ≠ row) : HasNames w' b n ks := by
  obtain ⟨D, hD, hx⟩ := h; exact ⟨D, hD.kept hg hne, hx⟩
theorem HasNames.below {w w' : World} {b n : Nat} {ks : List (List UInt8)} (h : HasNames w b n ks) (hb : Below w.heap.size w w') : HasNames w' b n ks :=
  h.kept (grown_of_below hb none) (by simp)
theorem zeroB (w : World) : (zeroValue 4).run Tryd.prog w = .ok (.bool false) w := by kernel_rfl
theorem key_of (x : List UInt8) (hx : x.length ≤ maxLen) : keyOf Tryd.prog 9 (.string (strB x)) = some (.string x) := by
  have := Go.WideMaps.keyOf_string_mk (P := Tryd.prog) Tryd.underlying9 (s := strB x) (by rw [strB_size]; exact hx)
  rw [strB_list] at this
  exact this
theorem HasNames.look {w : World} {b n : Nat} {ks : List (List UInt8)} (h : HasNames w b n ks) (x : List UInt8) (hx : x.length ≤ maxLen) :
    (Instr.lookup 89 (.map (some b)) (.string (strB x)) false).run Tryd.prog w = .ok (.bool (decide (x ∈ ks))) w := by
  obtain ⟨D, hD, hk⟩ := h
  obtain ⟨v, ps, hrun, hv⟩ := hD.lookup keyS Tryd.underlying89 (zeroB w) (zd := .lit (.bool false)) (zp := []) rfl (key_of x hx)
  rw [hk x] at hv
  rw [hrun, boolR_inv hv]
theorem HasNames.put {w : World} {b n : Nat} {ks : List (List UInt8)} (h : HasNames w b n ks) (x : List UInt8) (hx : x.length ≤ maxLen) (hn : n < maxLen) :
    ∃ w', (Instr.mapUpdate 89 (.map (some b)) (.string (strB x)) (.bool true)).run Tryd.prog w = .ok () w' ∧ HasNames w' b (n + 1) (x :: ks) ∧ w.grownBy w' (some b) := by
  obtain ⟨D, hD, hk⟩ := h
  obtain ⟨w', hrun, hD', hg⟩ := hD.update keyS Tryd.underlying89 hn (val := .bool true) (d := .lit (.bool true)) (ps := []) (key_of x hx) rfl
  refine ⟨w', hrun, ⟨_, hD', fun y => ?_⟩, hg⟩
  by_cases e : y = x
  · subst e
    rw [atKey_put_same hD.isMap (show WideAt.IsKeyLit (.string y) from True.intro)]
    simp
  · rw [atKey_put_other (fun h => e (by cases h; rfl)), hk y]
    simp [e]
end Go.Proofs.YtjcekkgoohkomaaDoor
