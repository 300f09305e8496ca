/- What the reference's with returns: directives with an element more. -/
import Derived.Test.YtnjjjfbklgdgpaaDoorDRefSec
import Derived.Test.YtnjjjfbklgdgpaaDoorDAdd
import Derived.Test.YtnjjjfbklgdgpaaDoorRefLower
namespace Go.Proofs.YtnjjjfbklgdgpaaDoor
open Go.RowKit

/-- An element before its equals sign, and behind it. -/
def EqAt (e nm ar : List UInt8) (fd : Bool) : Prop :=
  nm.length ≤ e.length ∧ ar.length ≤ e.length ∧ (∀ d, elemD d e = putD d (lowS nm) (if fd = true then some ar else none)) ∧ (fd = false → ar = []) ∧
  e.take nm.length = nm ∧ 61 ∉ nm ∧ (fd = true → nm.length < e.length ∧ e[nm.length]? = some 61 ∧ e.drop (nm.length + 1) = ar) ∧ (fd = false → nm.length = e.length)
theorem eqAt_ex (e : List UInt8) : ∃ nm ar fd, EqAt e nm ar fd := by
  cases hc : cutE e with
  | none =>
    refine ⟨e, [], false, Nat.le_refl _, by simp, fun d => ?_, fun _ => rfl, by simp, ?_, (fun h => by cases h), fun _ => rfl⟩
    · unfold elemD; rw [hc]; rfl
    · have : ∀ l : List UInt8, cutE l = none → 61 ∉ l := by
        intro l
        induction l with
        | nil => intro _ h; cases h
        | cons c r ih =>
          intro h hm
          unfold cutE at h
          split at h
          · cases h
          · rename_i hc'
            have hr : cutE r = none := by cases hr : cutE r with
              | none => rfl
              | some p => rw [hr] at h; cases h
            rcases List.mem_cons.1 hm with e1 | e1
            · exact hc' e1.symm
            · exact ih hr e1
      exact this e hc
  | some p =>
    obtain ⟨a, b⟩ := p
    have hl := cutE_len hc
    obtain ⟨h1, h2⟩ := cutE_eq hc
    refine ⟨a, b, true, by omega, by omega, fun d => ?_, (fun h => by cases h), ?_, h2, fun _ => ⟨by omega, ?_, ?_⟩, (fun h => by cases h)⟩
    · unfold elemD; rw [hc]; rfl
    · rw [h1]; simp
    · rw [h1]; simp
    · rw [h1]; simp
theorem seg0 (e : List UInt8) (k : Nat) : (strB e).extract 0 k = strB (e.take k) := strB_ext (by rw [seg_list, strB_list]; simp)
theorem segTo (e : List UInt8) (k : Nat) : (strB e).extract k e.length = strB (e.drop k) := strB_ext (by rw [seg_list, strB_list, List.take_of_length_le (by simp)])
theorem argOk {ar : List UInt8} {fd : Bool} (h : fd = false → ar = []) : argX (if fd = true then some ar else none) = (secL ar).getD 0 ∧ argZ (if fd = true then some ar else none) = (secL ar).getD 2147483647 := ⟨argX_of h, argZ_of h⟩
theorem num_ex (ar : List UInt8) : ∃ (ok : Bool) (z0 : Int), numRV (secL ar) = .tuple #[.int .i64 z0, .bool ok] ∧ argX (some ar) = z0 ∧ argY (some ar) = z0 ∧ argZ (some ar) = (if ok = true then z0 else 2147483647) ∧ (ok = false → z0 = 0) ∧ 0 ≤ z0 ∧ z0 ≤ 2147483647 := by
  have hb := sec_bdD ar 0 (by omega)
  refine ⟨(secL ar).isSome, (secL ar).getD 0, rfl, rfl, rfl, ?_, ?_, hb⟩
  · show (secL ar).getD 2147483647 = _
    cases secL ar <;> rfl
  · cases secL ar with
    | none => intro _; rfl
    | some n => intro h; cases h
def WithRel (nm : List UInt8) (i : Value) : Prop := ∃ k : Nat, i = .int .i64 k ∧ k ≤ nm.length

end Go.Proofs.YtnjjjfbklgdgpaaDoor
