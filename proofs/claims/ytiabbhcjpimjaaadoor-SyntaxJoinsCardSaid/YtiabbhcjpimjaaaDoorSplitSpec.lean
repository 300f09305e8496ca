/- Plain mathematics: the value and the parameters of an element; slices of parameters in memory. -/
import Derived.Test.YtiabbhcjpimjaaaDoorParameter
import Derived.Test.YtiabbhcjpimjaaaDoorParts
import Derived.Test.YtiabbhcjpimjaaaDoorPairs
namespace Go.Proofs.YtiabbhcjpimjaaaDoor
open Go.RowKit

theorem scan_ne (b : UInt8) : ∀ (l : List UInt8) (st : St) (cur : List UInt8) (ps : List (List UInt8)), scan b st cur l = some ps → ps ≠ [] := by
  intro l
  induction l with
  | nil =>
    intro st cur ps h
    cases st <;> simp [scan] at h
    rw [← h]; simp
  | cons c r ih =>
    intro st cur ps h
    cases st
    · unfold scan at h
      split at h
      · exact ih _ _ _ h
      · split at h
        · cases hr : scan b .out [] r with
          | none => rw [hr] at h; cases h
          | some qs => rw [hr] at h; simp at h; rw [← h]; simp
        · exact ih _ _ _ h
    · unfold scan at h
      split at h
      · exact ih _ _ _ h
      · split at h
        · exact ih _ _ _ h
        · exact ih _ _ _ h
    · unfold scan at h; exact ih _ _ _ h
theorem scan_len (b : UInt8) : ∀ (l : List UInt8) (st : St) (cur : List UInt8) (ps : List (List UInt8)), scan b st cur l = some ps → ∀ p ∈ ps, p.length ≤ cur.length + l.length := by
  intro l
  induction l with
  | nil =>
    intro st cur ps h p hp
    cases st <;> simp [scan] at h
    subst h; simp at hp; subst hp; simp
  | cons c r ih =>
    intro st cur ps h p hp
    cases st
    · unfold scan at h
      split at h
      · have := ih _ _ _ h p hp; simp at this ⊢; omega
      · split at h
        · cases hr : scan b .out [] r with
          | none => rw [hr] at h; cases h
          | some qs =>
            rw [hr] at h; simp at h; subst h
            rcases List.mem_cons.mp hp with e | e
            · subst e; simp
            · have := ih _ _ _ hr p e; simp at this ⊢; omega
        · have := ih _ _ _ h p hp; simp at this ⊢; omega
    · unfold scan at h
      split at h
      · have := ih _ _ _ h p hp; simp at this ⊢; omega
      · split at h
        · have := ih _ _ _ h p hp; simp at this ⊢; omega
        · have := ih _ _ _ h p hp; simp at this ⊢; omega
    · unfold scan at h; have := ih _ _ _ h p hp; simp at this ⊢; omega
theorem trimB_len (l : List UInt8) : (trimB l).length ≤ l.length := by
  rw [trimB_eq]
  have h1 : (tL l).length ≤ l.length := (List.dropWhile_sublist _).length_le
  have h2 : (tR (tL l)).length ≤ (tL l).length := by
    unfold tR; rw [List.length_reverse]
    have := (List.dropWhile_sublist (p := blank) (l := (tL l).reverse)).length_le
    simpa using this
  omega
theorem partsO_ne {b : UInt8} {l : List UInt8} {ls : List (List UInt8)} (h : partsO b l = some ls) : ls ≠ [] := by
  unfold partsO at h
  split at h
  · cases h
  · cases hs : scan b .out [] l with
    | none => rw [hs] at h; cases h
    | some ps =>
      rw [hs] at h; simp at h; subst h
      have := scan_ne b l _ _ _ hs
      simpa using this
theorem partsO_len {b : UInt8} {l : List UInt8} {ls : List (List UInt8)} (h : partsO b l = some ls) : ∀ p ∈ ls, p.length ≤ l.length := by
  unfold partsO at h
  split at h
  · cases h
  · cases hs : scan b .out [] l with
    | none => rw [hs] at h; cases h
    | some ps =>
      rw [hs] at h; simp at h; subst h
      intro p hp
      obtain ⟨q, hq, rfl⟩ := List.mem_map.mp hp
      have h1 := scan_len b l _ _ _ hs q hq
      have h2 := trimB_len q
      simp at h1; omega
def paramsO : List (List UInt8) → Option (List (List UInt8 × List UInt8))
  | [] => some []
  | l :: r => if l = [] then paramsO r else match paramO l with
    | none => none
    | some p => (paramsO r).map (p :: ·)
def splitO (l : List UInt8) : Option (List UInt8 × List (List UInt8 × List UInt8)) :=
  match partsO 59 l with
  | some (v :: rest) => (paramsO rest).map fun ps => (v, ps)
  | _ => none
/-- After k of the parts: acc are the parameters so far. -/
def PInv (rest : List (List UInt8)) (acc : List (List UInt8 × List UInt8)) (k : Nat) : Prop := k ≤ rest.length ∧ acc.length ≤ k ∧ paramsO rest = (paramsO (rest.drop k)).map (acc ++ ·)
theorem PInv0 (rest : List (List UInt8)) : PInv rest [] 0 := ⟨Nat.zero_le _, by simp, by simp⟩
theorem drop_get {rest : List (List UInt8)} {k : Nat} {l : List UInt8} (hl : rest[k]? = some l) : rest.drop k = l :: rest.drop (k + 1) := by
  obtain ⟨h, e⟩ := List.getElem?_eq_some_iff.mp hl
  rw [List.drop_eq_getElem_cons h, e]
theorem PInv.skip {rest acc k l} (h : PInv rest acc k) (hl : rest[k]? = some l) (he : l = []) : PInv rest acc (k + 1) := by
  obtain ⟨_, h1, h2⟩ := h
  have hk := (List.getElem?_eq_some_iff.mp hl).1
  refine ⟨hk, by omega, ?_⟩
  rw [h2, drop_get hl, paramsO, if_pos he]
theorem PInv.bad {rest acc k l} (h : PInv rest acc k) (hl : rest[k]? = some l) (he : l ≠ []) (hp : paramO l = none) : paramsO rest = none := by
  rw [h.2.2, drop_get hl, paramsO, if_neg he, hp]; rfl
theorem PInv.good {rest acc k l p} (h : PInv rest acc k) (hl : rest[k]? = some l) (he : l ≠ []) (hp : paramO l = some p) : PInv rest (acc ++ [p]) (k + 1) := by
  obtain ⟨_, h1, h2⟩ := h
  have hk := (List.getElem?_eq_some_iff.mp hl).1
  refine ⟨hk, by simp; omega, ?_⟩
  rw [h2, drop_get hl, paramsO, if_neg he, hp]
  generalize paramsO (rest.drop (k + 1)) = x
  cases x <;> simp
theorem PInv.done {rest acc k} (h : PInv rest acc k) (hk : rest.length ≤ k) : paramsO rest = some acc := by
  rw [h.2.2, List.drop_eq_nil_of_le hk]; simp [paramsO]

end Go.Proofs.YtiabbhcjpimjaaaDoor
