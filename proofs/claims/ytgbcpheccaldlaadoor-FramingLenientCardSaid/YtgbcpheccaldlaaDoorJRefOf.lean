/- What the reference's of, OfRequest and OfResponse return. -/
import Derived.Test.YtgbcpheccaldlaaDoorJRefEl
import Derived.Deep.QuietTactic
import Derived.BigQuiet
namespace Go.Proofs.YtgbcpheccaldlaaDoor
open Go.RowKit

/-- The reference returns the frame, and the error's number. -/
def RefOfRes (r : Nat × Nat × Nat) (w : World) (e : Ending) (w' : World) : Prop :=
  e = .returned (.tuple #[frV r.2.1 r.2.2, .int .i64 (r.1 : Int)]) ∧ Below w.heap.size w w'
theorem refOfRes {r : Nat × Nat × Nat} {c k n : Nat} {w w' : World} (h : r = (c, k, n)) (hB : Below w.heap.size w w') :
    RefOfRes r w (.returned (.tuple #[.agg #[.int .i64 k, .int .i64 n], .int .i64 c])) w' := by
  subst h; exact ⟨rfl, hB⟩
theorem refAllCL_any (fv : Value) (ps : Flds) (w : World) (hr : ReadsQ w fv ps) (hf : Fits ps) :
    Calls Tryd.prog 82 #[fv, .string ⟨#[99, 111, 110, 116, 101, 110, 116, 45, 108, 101, 110, 103, 116, 104]⟩] w fun e w' => ∃ v, e = .returned v ∧ OwnsS w.heap.size w' v (lsF ps) ∧ Below w.heap.size w w' := refAllN_any clN fv ps w hr hf (by decide)
theorem refAllTE_any (fv : Value) (ps : Flds) (w : World) (hr : ReadsQ w fv ps) (hf : Fits ps) :
    Calls Tryd.prog 82 #[fv, .string ⟨#[116, 114, 97, 110, 115, 102, 101, 114, 45, 101, 110, 99, 111, 100, 105, 110, 103]⟩] w fun e w' => ∃ v, e = .returned v ∧ OwnsS w.heap.size w' v (csF ps) ∧ Below w.heap.size w w' := refAllN_any teN fv ps w hr hf (by decide)
theorem of1_4 {ls cs : List (List UInt8)} : ((ofO 1 ls cs).1 = 0 ↔ (ofO 4 ls cs).1 = 0) ∧ ((ofO 1 ls cs).1 ≠ 0 → ofO 4 ls cs = ofO 1 ls cs) ∧ ((ofO 1 ls cs).1 = 0 → (ofO 1 ls cs).2.1 = 1 → ofO 4 ls cs = (0, 4, 0)) ∧ ((ofO 1 ls cs).1 = 0 → (ofO 1 ls cs).2.1 ≠ 1 → ofO 4 ls cs = ofO 1 ls cs) := by
  have hk : ∀ cs, (codS cs).1 = 0 → (codS cs).2.1 = 3 := by
    intro cs h
    unfold codS at h ⊢
    repeat' split at h
    all_goals first | (exfalso; simp at h; done) | (split <;> simp_all)
  have hl : ∀ ls, (lensS ls).1 = 0 → (lensS ls).2.1 = 2 := by
    intro ls h
    unfold lensS at h ⊢
    repeat' split at h
    all_goals first | (exfalso; simp at h; done) | skip
    all_goals simp_all
    rename_i a b
    rw [if_pos a, if_neg (by omega)]
  by_cases h1 : ls = []
  · by_cases h2 : cs = []
    · rw [ofO_none h1 h2, ofO_none h1 h2]; simp
    · rw [ofO_cod h1 h2, ofO_cod h1 h2]
      refine ⟨Iff.rfl, fun _ => rfl, fun h h' => ?_, fun _ _ => rfl⟩
      rw [hk cs h] at h'; simp at h'
  · by_cases h2 : cs = []
    · rw [ofO_len h1 h2, ofO_len h1 h2]
      refine ⟨Iff.rfl, fun _ => rfl, fun h h' => ?_, fun _ _ => rfl⟩
      rw [hl ls h] at h'; simp at h'
    · rw [ofO_both h1 h2, ofO_both h1 h2]; simp
theorem bod_yes {z : Int} (h : bodB z = true) : (100 ≤ z ∧ z ≤ 199) ∨ z = 204 ∨ z = 304 := by simp [bodB] at h; omega
theorem bod_no {z : Int} (h : bodB z = false) : (z < 100 ∨ 199 < z) ∧ z ≠ 204 ∧ z ≠ 304 := by simp [bodB] at h; omega
end Go.Proofs.YtgbcpheccaldlaaDoor
