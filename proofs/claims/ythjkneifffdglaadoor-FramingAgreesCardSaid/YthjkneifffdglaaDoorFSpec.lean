/- Plain mathematics: lists of fields (names and values as lists of bytes), the values of a name, and lists with a name set, added, removed; nothing of the program. -/
import Derived.Test.YthjkneifffdglaaDoorLower
import Derived.Test.YthjkneifffdglaaDoorPairs
namespace Go.Proofs.YthjkneifffdglaaDoor
open Go.RowKit

abbrev Flds := List (List UInt8 × List UInt8)
theorem lowB_low (c : UInt8) : lowB (lowB c) = lowB c := by
  by_cases h : 65 ≤ c.toNat ∧ c.toNat ≤ 90
  · have e := lowB_up h.1 h.2
    exact lowB_not (by omega)
  · rw [lowB_not h, lowB_not h]
theorem lowS_low (l : List UInt8) : lowS (lowS l) = lowS l := by
  unfold lowS
  rw [List.map_map]
  exact List.map_congr_left fun c _ => lowB_low c
/-- A field is one of a name. -/
def ofN (n : List UInt8) (p : List UInt8 × List UInt8) : Bool := decide (lowS p.1 = lowS n)
theorem ofN_low (n : List UInt8) (p : List UInt8 × List UInt8) : ofN (lowS n) p = ofN n p := by unfold ofN; rw [lowS_low]
def allL (ps : Flds) (n : List UInt8) : List (List UInt8) := (ps.filter (ofN n)).map (·.2)
def remL (ps : Flds) (n : List UInt8) : Flds := ps.filter fun p => !ofN n p
def addL (ps : Flds) (n v : List UInt8) : Flds := ps ++ [(lowS n, v)]
def setL : Flds → List UInt8 → List UInt8 → Flds
  | [], n, v => [(lowS n, v)]
  | p :: r, n, v => if ofN n p = true then (lowS n, v) :: remL r n else p :: setL r n v
def sizL (ps : Flds) : Nat := ps.foldr (fun p n => p.1.length + p.2.length + 4 + n) 0
/-- The texts of a list, with a comma and a blank between them. -/
def getL : List (List UInt8) → List UInt8
  | [] => []
  | [t] => t
  | t :: r => t ++ 44 :: 32 :: getL r

theorem take_more {α : Type} {ps : List α} {k : Nat} {p : α} (h : ps[k]? = some p) : ps.take (k + 1) = ps.take k ++ [p] := by
  rw [List.take_add_one, h]; rfl
theorem all_yes {ps : Flds} {n : List UInt8} {k : Nat} {p : List UInt8 × List UInt8} (h : ps[k]? = some p) (ho : ofN n p = true) : allL (ps.take (k + 1)) n = allL (ps.take k) n ++ [p.2] := by
  unfold allL; rw [take_more h, List.filter_append, List.map_append]; simp [ho]
theorem all_no {ps : Flds} {n : List UInt8} {k : Nat} {p : List UInt8 × List UInt8} (h : ps[k]? = some p) (ho : ofN n p = false) : allL (ps.take (k + 1)) n = allL (ps.take k) n := by
  unfold allL; rw [take_more h, List.filter_append, List.map_append]; simp [ho]
theorem all_le (ps : Flds) (n : List UInt8) (k : Nat) : (allL (ps.take k) n).length ≤ k := by
  unfold allL; rw [List.length_map]
  exact Nat.le_trans (List.length_filter_le _ _) (List.length_take_le _ _)
theorem all_len (ps : Flds) (n : List UInt8) : (allL ps n).length ≤ ps.length := by
  unfold allL; rw [List.length_map]; exact List.length_filter_le _ _
theorem rem_yes {ps : Flds} {n : List UInt8} {k : Nat} {p : List UInt8 × List UInt8} (h : ps[k]? = some p) (ho : ofN n p = true) : remL (ps.take (k + 1)) n = remL (ps.take k) n := by
  unfold remL; rw [take_more h, List.filter_append]; simp [ho]
theorem rem_no {ps : Flds} {n : List UInt8} {k : Nat} {p : List UInt8 × List UInt8} (h : ps[k]? = some p) (ho : ofN n p = false) : remL (ps.take (k + 1)) n = remL (ps.take k) n ++ [p] := by
  unfold remL; rw [take_more h, List.filter_append]; simp [ho]
theorem rem_le (ps : Flds) (n : List UInt8) (k : Nat) : (remL (ps.take k) n).length ≤ k :=
  Nat.le_trans (List.length_filter_le _ _) (List.length_take_le _ _)
theorem rem_len (ps : Flds) (n : List UInt8) : (remL ps n).length ≤ ps.length := List.length_filter_le _ _
theorem any_more {ps : Flds} {n : List UInt8} {k : Nat} {p : List UInt8 × List UInt8} (h : ps[k]? = some p) : (ps.take (k + 1)).any (ofN n) = ((ps.take k).any (ofN n) || ofN n p) := by
  rw [take_more h, List.any_append]; simp

theorem set_none {ps : Flds} {n v : List UInt8} (h : ps.any (ofN n) = false) : setL ps n v = ps ++ [(lowS n, v)] := by
  induction ps with
  | nil => rfl
  | cons p r ih =>
    simp only [List.any_cons, Bool.or_eq_false_iff] at h
    rw [setL, if_neg (by rw [h.1]; simp), ih h.2]; rfl
theorem set_app {ps : Flds} {n v : List UInt8} (h : ps.any (ofN n) = true) (qs : Flds) : setL (ps ++ qs) n v = setL ps n v ++ remL qs n := by
  induction ps with
  | nil => simp at h
  | cons p r ih =>
    rw [List.cons_append, setL, setL]
    cases hp : ofN n p with
    | true =>
      rw [if_pos rfl, if_pos rfl]
      unfold remL
      rw [List.filter_append]; rfl
    | false =>
      rw [if_neg (by simp), if_neg (by simp)]
      simp only [List.any_cons, hp, Bool.false_or] at h
      rw [ih h]; rfl
/-- What a list with a name set is after k of its fields: the fields so far, until one is of the name. -/
def setK (ps : Flds) (n v : List UInt8) (k : Nat) : Flds := if (ps.take k).any (ofN n) = true then setL (ps.take k) n v else ps.take k
theorem setK0 (ps : Flds) (n v : List UInt8) : setK ps n v 0 = [] := by simp [setK]
theorem setK_other {ps : Flds} {n v : List UInt8} {k : Nat} {p : List UInt8 × List UInt8} (h : ps[k]? = some p) (ho : ofN n p = false) : setK ps n v (k + 1) = setK ps n v k ++ [p] := by
  unfold setK
  rw [any_more h, ho, Bool.or_false]
  cases ha : (ps.take k).any (ofN n) with
  | true =>
    rw [if_pos rfl, if_pos rfl, take_more h, set_app ha]
    unfold remL; simp [ho]
  | false =>
    rw [if_neg (by simp), if_neg (by simp), take_more h]
theorem setK_first {ps : Flds} {n v : List UInt8} {k : Nat} {p : List UInt8 × List UInt8} (h : ps[k]? = some p) (ho : ofN n p = true) (hf : (ps.take k).any (ofN n) = false) : setK ps n v (k + 1) = setK ps n v k ++ [(lowS n, v)] := by
  unfold setK
  rw [any_more h, ho, Bool.or_true, if_pos rfl, hf, if_neg (by simp), take_more h]
  have : ∀ (l : Flds), l.any (ofN n) = false → setL (l ++ [p]) n v = l ++ [(lowS n, v)] := by
    intro l
    induction l with
    | nil => intro _; rw [List.nil_append, setL, if_pos ho]; rfl
    | cons q r ih =>
      intro hl
      simp only [List.any_cons, Bool.or_eq_false_iff] at hl
      rw [List.cons_append, setL, if_neg (by rw [hl.1]; simp), ih hl.2]; rfl
  exact this _ hf
theorem setK_again {ps : Flds} {n v : List UInt8} {k : Nat} {p : List UInt8 × List UInt8} (h : ps[k]? = some p) (ho : ofN n p = true) (hf : (ps.take k).any (ofN n) = true) : setK ps n v (k + 1) = setK ps n v k := by
  unfold setK
  rw [any_more h, hf, Bool.true_or, if_pos rfl, if_pos rfl, take_more h, set_app hf]
  unfold remL; simp [ho]
theorem set_len (ps : Flds) (n v : List UInt8) : (setL ps n v).length ≤ ps.length + 1 := by
  induction ps with
  | nil => simp [setL]
  | cons p r ih =>
    rw [setL]
    split
    · have := rem_len r n; simp; omega
    · simp; omega
theorem setK_len (ps : Flds) (n v : List UInt8) (k : Nat) : (setK ps n v k).length ≤ k + 1 := by
  unfold setK
  have h : (ps.take k).length ≤ k := List.length_take_le _ _
  split
  · have := set_len (ps.take k) n v; omega
  · omega
theorem setK_end {ps : Flds} {n v : List UInt8} {k : Nat} (hk : ps.length ≤ k) (hf : (ps.take k).any (ofN n) = true) : setK ps n v k = setL ps n v := by
  unfold setK; rw [if_pos hf, List.take_of_length_le hk]
theorem setK_end' {ps : Flds} {n v : List UInt8} {k : Nat} (hk : ps.length ≤ k) (hf : (ps.take k).any (ofN n) = false) : setK ps n v k ++ [(lowS n, v)] = setL ps n v := by
  unfold setK
  rw [hf, if_neg (by simp)]
  rw [List.take_of_length_le hk] at hf ⊢
  exact (set_none hf).symm
/-- The reference's way: what stands before the first field of the name, the new field, the others of the rest. -/
theorem set_at {ps : Flds} {n v : List UInt8} {k : Nat} {p : List UInt8 × List UInt8} (h : ps[k]? = some p) (ho : ofN n p = true) (hf : (ps.take k).any (ofN n) = false) :
    setL ps n v = addL (ps.take k) n v ++ remL (ps.drop (k + 1)) n := by
  have e := setK_first (v := v) h ho hf
  have hd : ps = ps.take (k + 1) ++ ps.drop (k + 1) := (List.take_append_drop _ _).symm
  have ha : (ps.take (k + 1)).any (ofN n) = true := by rw [any_more h, ho, Bool.or_true]
  have e1 : setL ps n v = setL (ps.take (k + 1)) n v ++ remL (ps.drop (k + 1)) n := by
    conv => lhs; rw [hd]
    exact set_app ha _
  rw [e1]
  have e2 : setK ps n v (k + 1) = setL (ps.take (k + 1)) n v := by unfold setK; rw [if_pos ha]
  have e3 : setK ps n v k = ps.take k := by unfold setK; rw [hf, if_neg (by simp)]
  rw [← e2, e, e3]; rfl

theorem all_app (ps qs : Flds) (n : List UInt8) : allL (ps ++ qs) n = allL ps n ++ allL qs n := by unfold allL; rw [List.filter_append, List.map_append]
theorem all_rem_same {ps : Flds} {n m : List UInt8} (h : lowS n = lowS m) : allL (remL ps n) m = [] := by
  unfold allL remL
  rw [List.filter_filter]
  have : (ps.filter fun p => ofN m p && !ofN n p) = [] := by
    rw [List.filter_eq_nil_iff]
    intro p _
    unfold ofN; rw [h]; simp
  rw [this]; rfl
theorem all_rem_other {ps : Flds} {n m : List UInt8} (h : lowS n ≠ lowS m) : allL (remL ps n) m = allL ps m := by
  unfold allL remL
  rw [List.filter_filter]
  congr 1
  refine List.filter_congr fun p _ => ?_
  unfold ofN
  by_cases hp : lowS p.1 = lowS m
  · simp only [hp, decide_true, Bool.true_and]
    rw [decide_eq_false (fun e => h e.symm)]; rfl
  · simp [hp]
theorem ofN_new_same {n m v : List UInt8} (h : lowS n = lowS m) : ofN m (lowS n, v) = true := by unfold ofN; rw [lowS_low, h]; simp
theorem ofN_new_other {n m v : List UInt8} (h : lowS n ≠ lowS m) : ofN m (lowS n, v) = false := by unfold ofN; rw [lowS_low]; simp [h]
theorem all_add_same {ps : Flds} {n m v : List UInt8} (h : lowS n = lowS m) : allL (addL ps n v) m = allL ps m ++ [v] := by
  unfold addL; rw [all_app]; congr 1; unfold allL; simp [ofN_new_same h]
theorem all_add_other {ps : Flds} {n m v : List UInt8} (h : lowS n ≠ lowS m) : allL (addL ps n v) m = allL ps m := by
  unfold addL; rw [all_app]; unfold allL; simp [ofN_new_other h]
theorem all_set_same {ps : Flds} {n m v : List UInt8} (h : lowS n = lowS m) : allL (setL ps n v) m = [v] := by
  induction ps with
  | nil => unfold setL allL; simp [ofN_new_same h]
  | cons p r ih =>
    rw [setL]
    split
    · have e : (lowS n, v) :: remL r n = [(lowS n, v)] ++ remL r n := rfl
      rw [e, all_app, all_rem_same h]; unfold allL; simp [ofN_new_same h]
    · rename_i hp
      have e : p :: setL r n v = [p] ++ setL r n v := rfl
      have hp' : ofN m p = false := by unfold ofN at hp ⊢; rw [← h]; simpa using hp
      rw [e, all_app, ih]; unfold allL; simp [hp']
theorem all_set_other {ps : Flds} {n m v : List UInt8} (h : lowS n ≠ lowS m) : allL (setL ps n v) m = allL ps m := by
  induction ps with
  | nil => unfold setL allL; simp [ofN_new_other h]
  | cons p r ih =>
    have e0 : p :: r = [p] ++ r := rfl
    rw [setL]
    split
    · rename_i hp
      have e : (lowS n, v) :: remL r n = [(lowS n, v)] ++ remL r n := rfl
      have hp' : ofN m p = false := by
        unfold ofN at hp ⊢
        have := of_decide_eq_true hp
        rw [this]; simp [h]
      rw [e, all_app, all_rem_other h, e0, all_app]; unfold allL; simp [ofN_new_other h, hp']
    · have e : p :: setL r n v = [p] ++ setL r n v := rfl
      rw [e, all_app, ih, e0, all_app]
theorem all_congr {ps : Flds} {n m : List UInt8} (h : lowS n = lowS m) : allL ps n = allL ps m := by
  unfold allL ofN; rw [h]
theorem siz_app (ps qs : Flds) : sizL (ps ++ qs) = sizL ps + sizL qs := by
  induction ps with
  | nil => simp [sizL]
  | cons p r ih => unfold sizL at *; rw [List.cons_append, List.foldr_cons, List.foldr_cons, ih]; omega
theorem siz_more {ps : Flds} {k : Nat} {p : List UInt8 × List UInt8} (h : ps[k]? = some p) : sizL (ps.take (k + 1)) = sizL (ps.take k) + (p.1.length + p.2.length + 4) := by
  rw [take_more h, siz_app]; simp [sizL]
theorem getL_cons (t : List UInt8) (r : List (List UInt8)) (h : r ≠ []) : getL (t :: r) = t ++ 44 :: 32 :: getL r := by
  cases r with
  | nil => exact absurd rfl h
  | cons a b => rfl
theorem getL_snoc (ls : List (List UInt8)) (t : List UInt8) (h : ls ≠ []) : getL (ls ++ [t]) = getL ls ++ 44 :: 32 :: t := by
  induction ls with
  | nil => exact absurd rfl h
  | cons a r ih =>
    cases r with
    | nil => rfl
    | cons b c =>
      rw [List.cons_append, getL_cons a _ (by simp), ih (by simp), getL_cons a (b :: c) (by simp)]
      simp
end Go.Proofs.YthjkneifffdglaaDoor
