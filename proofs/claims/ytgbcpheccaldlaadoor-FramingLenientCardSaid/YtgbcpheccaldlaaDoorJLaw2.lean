/- FramingResponses, FramingBodiless and FramingAgrees: the statements' functions return true: the walks. -/
import Derived.Test.YtgbcpheccaldlaaDoorJLaw1
import Derived.Test.YtgbcpheccaldlaaDoorJLen
namespace Go.Proofs.YtgbcpheccaldlaaDoor
open Go.RowKit

theorem ofR_kinds {hd : Bool} {ls cs : List (List UInt8)} : ((ofR hd ls cs).1 ≠ 0 → (ofR hd ls cs).2 = (0, 0)) ∧ ((ofR hd ls cs).1 = 0 → (hd = true → (ofR hd ls cs).2 = (1, 0)) ∧ (hd = false → (ofR hd ls cs).2.1 ≠ 1 ∧ ((ofR hd ls cs).2.1 = 2 ∨ (ofR hd ls cs).2.2 = 0))) := by
  have hk : ∀ cs, (codS cs).1 = 0 → (codS cs).2 = (3, 0) := by
    intro cs h
    unfold codS at h ⊢
    repeat' split at h
    all_goals first | (exfalso; simp at h; done) | (split <;> simp_all)
  have hl : ∀ ls, (lensS ls).1 = 0 → (lensS ls).2.1 = 2 := by
    intro ls h
    unfold lensS at h ⊢
    repeat' split at h
    all_goals first | (exfalso; simp at h; done) | skip
    all_goals simp_all
    rename_i a b
    rw [if_pos a, if_neg (by omega)]
  by_cases h0 : (ofO 4 ls cs).1 = 0
  · cases hd with
    | true => rw [ofR_hd h0]; simp
    | false =>
      rw [ofR_body]
      refine ⟨fun h => absurd h0 h, fun _ => ⟨fun h => (by cases h), fun _ => ?_⟩⟩
      by_cases h1 : ls = []
      · by_cases h2 : cs = []
        · rw [ofO_none h1 h2]; simp
        · rw [ofO_cod h1 h2] at h0 ⊢; rw [hk cs h0]; simp
      · by_cases h2 : cs = []
        · rw [ofO_len h1 h2] at h0 ⊢; rw [hl ls h0]; simp
        · rw [ofO_both h1 h2] at h0; simp at h0
  · rw [ofR_err h0]; exact ⟨fun _ => rfl, fun h => absurd h h0⟩
theorem quo_one (z : Int) : z.tdiv 100 = 1 ↔ 100 ≤ z ∧ z ≤ 199 := by
  by_cases h : 0 ≤ z
  · rw [Int.tdiv_eq_ediv_of_nonneg h]; omega
  · have e : z.tdiv 100 = -((-z).tdiv 100) := by rw [Int.neg_tdiv]; omega
    rw [e, Int.tdiv_eq_ediv_of_nonneg (by omega)]; omega
def InI (z : Int) : Prop := -9223372036854775808 ≤ z ∧ z ≤ 9223372036854775807
theorem quo_in {z : Int} (h : InI z) : wrap64 (z.tdiv 100) = z.tdiv 100 := by
  obtain ⟨h1, h2⟩ := h
  apply IntWalk.wrap64_in
  by_cases h : 0 ≤ z
  · rw [Int.tdiv_eq_ediv_of_nonneg h]; omega
  · have e : z.tdiv 100 = -((-z).tdiv 100) := by rw [Int.neg_tdiv]; omega
    rw [e, Int.tdiv_eq_ediv_of_nonneg (by omega)]; omega
theorem quo_yes {z : Int} (hi : InI z) (h : 100 ≤ z ∧ z ≤ 199) : (wrap64 (z.tdiv 100) == 1) = true := by rw [beq_iff_eq, quo_in hi]; exact (quo_one z).2 h
theorem quo_no {z : Int} (hi : InI z) (h : z < 100 ∨ 199 < z) : (wrap64 (z.tdiv 100) == 1) = false := by rw [beq_eq_false_iff_ne, quo_in hi]; intro e; have := (quo_one z).1 e; omega
/-- A request and its frame lie in their variables, and the request's fields are read. -/
def AgS (M N : Nat) (m t : List UInt8) (v : Value) (ps : Flds) (k n : Nat) (w w' : World) : Prop :=
  w'.cell? ⟨M, 0, none⟩ = some (.string (strB m)) ∧ w'.cell? ⟨M, 1, none⟩ = some (.string (strB t)) ∧ w'.cell? ⟨M, 2, none⟩ = some v ∧ w'.cell? ⟨N, 0, none⟩ = some (.int .i64 (k : Int)) ∧ w'.cell? ⟨N, 1, none⟩ = some (.int .i64 (n : Int)) ∧
    M < w'.heap.size ∧ N < w'.heap.size ∧ ReadsQ w' v ps ∧ HasMax w' ∧ Below w.heap.size w w'
theorem AgS.below {M N : Nat} {m t : List UInt8} {v : Value} {ps : Flds} {k n : Nat} {w w1 w2 : World} (h : AgS M N m t v ps k n w w1) (hb : Below w1.heap.size w1 w2) : AgS M N m t v ps k n w w2 := by
  obtain ⟨a0, a1, a2, b0, b1, hM, hN, r, hx, hB⟩ := h
  exact ⟨(hb.cell (p := ⟨M, 0, none⟩) hM).trans a0, (hb.cell (p := ⟨M, 1, none⟩) hM).trans a1, (hb.cell (p := ⟨M, 2, none⟩) hM).trans a2, (hb.cell (p := ⟨N, 0, none⟩) hN).trans b0, (hb.cell (p := ⟨N, 1, none⟩) hN).trans b1,
    Nat.lt_of_lt_of_le hM hb.size, Nat.lt_of_lt_of_le hN hb.size, r.below hb, hx.below hb, hB.trans (hb.mono hB.size)⟩
theorem lenient_A {M N : Nat} {m t : List UInt8} {v : Value} {ps : Flds} {k n : Nat} {w w1 : World} (f : Bool) (h : AgS M N m t v ps k n w w1) (hf : Fits ps) (he : ∀ b, lenP ps b = (k, n)) :
    Calls Tryd.prog 25 #[.agg #[.string (strB m), .string (strB t), v], .bool f] w1 (fun e w' => e = .returned (frV k n) ∧ AgS M N m t v ps k n w w') := by
  have := lenient_any m t v ps f w1 h.2.2.2.2.2.2.2.1 hf h.2.2.2.2.2.2.2.2.1
  rw [he f] at this
  exact this.mono fun _ _ ⟨he, hb⟩ => ⟨he, h.below hb⟩
theorem ambiguous_A {M N : Nat} {m t : List UInt8} {v : Value} {ps : Flds} {k n : Nat} {w w1 : World} (h : AgS M N m t v ps k n w w1) (hf : Fits ps) (he : ∀ b, lenP ps b = (k, n)) :
    Calls Tryd.prog 26 #[.agg #[.string (strB m), .string (strB t), v]] w1 (fun e w' => e = .returned (.bool false) ∧ AgS M N m t v ps k n w w') := by
  have := ambiguous_any m t v ps w1 h.2.2.2.2.2.2.2.1 hf h.2.2.2.2.2.2.2.2.1
  rw [he true, he false] at this
  exact this.mono fun _ _ ⟨he, hb⟩ => ⟨by rw [he]; simp, h.below hb⟩
end Go.Proofs.YtgbcpheccaldlaaDoor
