/- Plain mathematics: the value and the parameters of an element; slices of parameters in memory. -/
import Derived.Test.YtjcekkgoohkomaaDoorParameter
import Derived.Test.YtjcekkgoohkomaaDoorParts
import Derived.Test.YtjcekkgoohkomaaDoorPartsLen
import Derived.Test.YtjcekkgoohkomaaDoorPairs
namespace Go.Proofs.YtjcekkgoohkomaaDoor
open Go.RowKit

def paramsO : List (List UInt8) → Option (List (List UInt8 × List UInt8))
  | [] => some []
  | l :: r => if l = [] then paramsO r else match paramO l with
    | none => none
    | some p => (paramsO r).map (p :: ·)
def splitO (l : List UInt8) : Option (List UInt8 × List (List UInt8 × List UInt8)) :=
  match partsO 59 l with
  | some (v :: rest) => (paramsO rest).map fun ps => (v, ps)
  | _ => none
/-- After k of the parts: acc are the parameters so far. -/
def PInv (rest : List (List UInt8)) (acc : List (List UInt8 × List UInt8)) (k : Nat) : Prop := k ≤ rest.length ∧ acc.length ≤ k ∧ paramsO rest = (paramsO (rest.drop k)).map (acc ++ ·)
theorem PInv0 (rest : List (List UInt8)) : PInv rest [] 0 := ⟨Nat.zero_le _, by simp, by simp⟩
theorem drop_get {rest : List (List UInt8)} {k : Nat} {l : List UInt8} (hl : rest[k]? = some l) : rest.drop k = l :: rest.drop (k + 1) := by
  obtain ⟨h, e⟩ := List.getElem?_eq_some_iff.mp hl
  rw [List.drop_eq_getElem_cons h, e]
theorem PInv.skip {rest acc k l} (h : PInv rest acc k) (hl : rest[k]? = some l) (he : l = []) : PInv rest acc (k + 1) := by
  obtain ⟨_, h1, h2⟩ := h
  have hk := (List.getElem?_eq_some_iff.mp hl).1
  refine ⟨hk, by omega, ?_⟩
  rw [h2, drop_get hl, paramsO, if_pos he]
theorem PInv.bad {rest acc k l} (h : PInv rest acc k) (hl : rest[k]? = some l) (he : l ≠ []) (hp : paramO l = none) : paramsO rest = none := by
  rw [h.2.2, drop_get hl, paramsO, if_neg he, hp]; rfl
theorem PInv.good {rest acc k l p} (h : PInv rest acc k) (hl : rest[k]? = some l) (he : l ≠ []) (hp : paramO l = some p) : PInv rest (acc ++ [p]) (k + 1) := by
  obtain ⟨_, h1, h2⟩ := h
  have hk := (List.getElem?_eq_some_iff.mp hl).1
  refine ⟨hk, by simp; omega, ?_⟩
  rw [h2, drop_get hl, paramsO, if_neg he, hp]
  generalize paramsO (rest.drop (k + 1)) = x
  cases x <;> simp
theorem PInv.done {rest acc k} (h : PInv rest acc k) (hk : rest.length ≤ k) : paramsO rest = some acc := by
  rw [h.2.2, List.drop_eq_nil_of_le hk]; simp [paramsO]

end Go.Proofs.YtjcekkgoohkomaaDoor
