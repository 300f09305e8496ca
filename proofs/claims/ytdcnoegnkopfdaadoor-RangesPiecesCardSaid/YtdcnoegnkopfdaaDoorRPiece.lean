/- Plain mathematics of chapter 9: the pieces of a body that a range has offsets in. -/
import Derived.Test.YtdcnoegnkopfdaaDoorRMerge
namespace Go.Proofs.YtdcnoegnkopfdaaDoor

/-- The length that counts. -/
def bodyL (n : Int) : Int := min (max n 0) 65536
theorem bodyL_bd (n : Int) : 0 ≤ bodyL n ∧ bodyL n ≤ 65536 := by unfold bodyL; omega
def pieceR (i n : Int) : Option Rg := if 0 ≤ i ∧ i * 256 < bodyL n then some (i * 256, min ((i + 1) * 256) (bodyL n)) else none
/-- Whether piece i has an offset of the range. -/
def inPc (r : Rg) (n : Int) (i : Nat) : Bool := decide ((i : Int) * 256 < bodyL n ∧ max ((i : Int) * 256) r.1 < min (min (((i : Int) + 1) * 256) (bodyL n)) r.2)
def piecesR (r : Rg) (n : Int) : List Nat := (List.range 257).filter (inPc r n)
theorem filter_span : ∀ (n a b : Nat), a ≤ b → b ≤ n → (List.range n).filter (fun j => decide (a ≤ j ∧ j < b)) = List.range' a (b - a) := by
  intro n
  induction n with
  | zero => intro a b h1 h2; obtain rfl : a = 0 := by omega
            obtain rfl : b = 0 := by omega
            rfl
  | succ n ih =>
    intro a b h1 h2
    rw [List.range_succ, List.filter_append]
    by_cases hb : b ≤ n
    · rw [ih a b h1 hb]
      have : ¬ (a ≤ n ∧ n < b) := by omega
      simp only [List.filter_cons, List.filter_nil, decide_eq_false this]
      simp
    · obtain rfl : b = n + 1 := by omega
      by_cases ha : a ≤ n
      · have e : (List.range n).filter (fun j => decide (a ≤ j ∧ j < n + 1)) = (List.range n).filter (fun j => decide (a ≤ j ∧ j < n)) := by
          refine List.filter_congr fun j hj => ?_
          have := List.mem_range.mp hj
          rw [decide_eq_decide]; omega
        rw [e, ih a n ha (Nat.le_refl _)]
        have : (a ≤ n ∧ n < n + 1) := by omega
        rw [show n + 1 - a = (n - a) + 1 by omega, List.range'_1_concat]
        simp only [List.filter_cons, List.filter_nil, decide_eq_true this]
        rw [show a + (n - a) = n by omega]; rfl
      · obtain rfl : a = n + 1 := by omega
        have e : (List.range n).filter (fun j => decide (n + 1 ≤ j ∧ j < n + 1)) = [] := by
          rw [List.filter_eq_nil_iff]; intro j _; rw [decide_eq_true_eq]; omega
        rw [e]
        simp
/-- The program's pieces: those from the first one on that begin below the end. -/
theorem pieces_span (r : Rg) (n : Int) (a b : Nat) (h : max r.1 0 < min r.2 (bodyL n)) (ha : (a : Int) = max r.1 0 / 256) (hb1 : min r.2 (bodyL n) ≤ (b : Int) * 256) (hb2 : ((b : Int) - 1) * 256 < min r.2 (bodyL n)) :
    piecesR r n = List.range' a (b - a) := by
  have := bodyL_bd n
  have hab : a ≤ b := by omega
  have hbn : b ≤ 257 := by omega
  rw [← filter_span 257 a b hab hbn]
  unfold piecesR
  refine List.filter_congr fun j _ => ?_
  unfold inPc
  rw [decide_eq_decide]
  omega
theorem pieces_none (r : Rg) (n : Int) (h : ¬ max r.1 0 < min r.2 (bodyL n)) : piecesR r n = [] := by
  unfold piecesR
  rw [List.filter_eq_nil_iff]
  intro j _
  unfold inPc
  simp only [decide_eq_true_eq]
  omega
theorem span_snoc (a k : Nat) : List.range' a (k + 1) = List.range' a k ++ [a + k] := List.range'_1_concat
theorem pieces_snoc (r : Rg) (n : Int) (k : Nat) : (List.range (k + 1)).filter (inPc r n) = (List.range k).filter (inPc r n) ++ if inPc r n k = true then [k] else [] := by
  rw [List.range_succ, List.filter_append, List.filter_cons]
  rfl
theorem piece_of {r : Rg} {n : Int} {k : Nat} (h : k ∈ piecesR r n) : pieceR k n = some ((k : Int) * 256, min (((k : Int) + 1) * 256) (bodyL n)) ∧ k < 257 := by
  unfold piecesR at h
  obtain ⟨h1, h2⟩ := List.mem_filter.mp h
  unfold inPc at h2
  simp only [decide_eq_true_eq] at h2
  refine ⟨?_, List.mem_range.mp h1⟩
  unfold pieceR
  rw [if_pos ⟨by omega, h2.1⟩]
/-- The ranges of pieces. -/
def pcsR (n : Int) (l : List Nat) : List Rg := l.map fun k : Nat => ((k : Int) * 256, min (((k : Int) + 1) * 256) (bodyL n))
theorem pieces_cover (r : Rg) (n : Int) (i : Int) (h : inR (max r.1 0, min r.2 (bodyL n)) i) : hasR (pcsR n (piecesR r n)) i := by
  have hb := bodyL_bd n
  unfold inR at h
  simp only at h
  obtain ⟨k, hk⟩ : ∃ k : Nat, (k : Int) = i / 256 := ⟨(i / 256).toNat, by omega⟩
  refine ⟨((k : Int) * 256, min (((k : Int) + 1) * 256) (bodyL n)), ?_, ?_⟩
  · refine List.mem_map.mpr ⟨k, ?_, rfl⟩
    unfold piecesR
    refine List.mem_filter.mpr ⟨List.mem_range.mpr (by omega), ?_⟩
    unfold inPc
    simp only [decide_eq_true_eq]
    omega
  · unfold inR; simp only; omega
end Go.Proofs.YtdcnoegnkopfdaaDoor
