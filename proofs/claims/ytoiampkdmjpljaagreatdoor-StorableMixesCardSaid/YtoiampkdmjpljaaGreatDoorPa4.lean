import Derived.Test.YtoiampkdmjpljaaGreatDoorPa2
import Derived.Test.YtoiampkdmjpljaaGreatDoorPa3
import Derived.Lib.ItoaNum
import Derived.Lib.ItoaMem
/- Plain mathematics: lists of fields (names and values as lists of bytes), the values of a name, and lists with a name set, added, removed; nothing of the program. -/
namespace Go.Proofs.YtoiampkdmjpljaaGreatDoor
open Go.RowKit

abbrev Flds := List (List UInt8 × List UInt8)
theorem lowB_low (c : UInt8) : lowB (lowB c) = lowB c := by
  by_cases h : 65 ≤ c.toNat ∧ c.toNat ≤ 90
  · have e := lowB_up h.1 h.2
    exact lowB_not (by omega)
  · rw [lowB_not h, lowB_not h]
theorem lowS_low (l : List UInt8) : lowS (lowS l) = lowS l := by
  unfold lowS
  rw [List.map_map]
  exact List.map_congr_left fun c _ => lowB_low c
/-- A field is one of a name. -/
def ofN (n : List UInt8) (p : List UInt8 × List UInt8) : Bool := decide (lowS p.1 = lowS n)
theorem ofN_low (n : List UInt8) (p : List UInt8 × List UInt8) : ofN (lowS n) p = ofN n p := by unfold ofN; rw [lowS_low]
def allL (ps : Flds) (n : List UInt8) : List (List UInt8) := (ps.filter (ofN n)).map (·.2)
def remL (ps : Flds) (n : List UInt8) : Flds := ps.filter fun p => !ofN n p
def addL (ps : Flds) (n v : List UInt8) : Flds := ps ++ [(lowS n, v)]
def setL : Flds → List UInt8 → List UInt8 → Flds
  | [], n, v => [(lowS n, v)]
  | p :: r, n, v => if ofN n p = true then (lowS n, v) :: remL r n else p :: setL r n v
def sizL (ps : Flds) : Nat := ps.foldr (fun p n => p.1.length + p.2.length + 4 + n) 0
/-- The texts of a list, with a comma and a blank between them. -/
def getL : List (List UInt8) → List UInt8
  | [] => []
  | [t] => t
  | t :: r => t ++ 44 :: 32 :: getL r

theorem take_more {α : Type} {ps : List α} {k : Nat} {p : α} (h : ps[k]? = some p) : ps.take (k + 1) = ps.take k ++ [p] := by
  rw [List.take_add_one, h]; rfl
theorem all_yes {ps : Flds} {n : List UInt8} {k : Nat} {p : List UInt8 × List UInt8} (h : ps[k]? = some p) (ho : ofN n p = true) : allL (ps.take (k + 1)) n = allL (ps.take k) n ++ [p.2] := by
  unfold allL; rw [take_more h, List.filter_append, List.map_append]; simp [ho]
theorem all_no {ps : Flds} {n : List UInt8} {k : Nat} {p : List UInt8 × List UInt8} (h : ps[k]? = some p) (ho : ofN n p = false) : allL (ps.take (k + 1)) n = allL (ps.take k) n := by
  unfold allL; rw [take_more h, List.filter_append, List.map_append]; simp [ho]
theorem all_le (ps : Flds) (n : List UInt8) (k : Nat) : (allL (ps.take k) n).length ≤ k := by
  unfold allL; rw [List.length_map]
  exact Nat.le_trans (List.length_filter_le _ _) (List.length_take_le _ _)
theorem all_len (ps : Flds) (n : List UInt8) : (allL ps n).length ≤ ps.length := by
  unfold allL; rw [List.length_map]; exact List.length_filter_le _ _
theorem rem_yes {ps : Flds} {n : List UInt8} {k : Nat} {p : List UInt8 × List UInt8} (h : ps[k]? = some p) (ho : ofN n p = true) : remL (ps.take (k + 1)) n = remL (ps.take k) n := by
  unfold remL; rw [take_more h, List.filter_append]; simp [ho]
theorem rem_no {ps : Flds} {n : List UInt8} {k : Nat} {p : List UInt8 × List UInt8} (h : ps[k]? = some p) (ho : ofN n p = false) : remL (ps.take (k + 1)) n = remL (ps.take k) n ++ [p] := by
  unfold remL; rw [take_more h, List.filter_append]; simp [ho]
theorem rem_le (ps : Flds) (n : List UInt8) (k : Nat) : (remL (ps.take k) n).length ≤ k :=
  Nat.le_trans (List.length_filter_le _ _) (List.length_take_le _ _)
theorem rem_len (ps : Flds) (n : List UInt8) : (remL ps n).length ≤ ps.length := List.length_filter_le _ _
theorem any_more {ps : Flds} {n : List UInt8} {k : Nat} {p : List UInt8 × List UInt8} (h : ps[k]? = some p) : (ps.take (k + 1)).any (ofN n) = ((ps.take k).any (ofN n) || ofN n p) := by
  rw [take_more h, List.any_append]; simp

theorem set_none {ps : Flds} {n v : List UInt8} (h : ps.any (ofN n) = false) : setL ps n v = ps ++ [(lowS n, v)] := by
  induction ps with
  | nil => rfl
  | cons p r ih =>
    simp only [List.any_cons, Bool.or_eq_false_iff] at h
    rw [setL, if_neg (by rw [h.1]; simp), ih h.2]; rfl
theorem set_app {ps : Flds} {n v : List UInt8} (h : ps.any (ofN n) = true) (qs : Flds) : setL (ps ++ qs) n v = setL ps n v ++ remL qs n := by
  induction ps with
  | nil => simp at h
  | cons p r ih =>
    rw [List.cons_append, setL, setL]
    cases hp : ofN n p with
    | true =>
      rw [if_pos rfl, if_pos rfl]
      unfold remL
      rw [List.filter_append]; rfl
    | false =>
      rw [if_neg (by simp), if_neg (by simp)]
      simp only [List.any_cons, hp, Bool.false_or] at h
      rw [ih h]; rfl
/-- What a list with a name set is after k of its fields: the fields so far, until one is of the name. -/
def setK (ps : Flds) (n v : List UInt8) (k : Nat) : Flds := if (ps.take k).any (ofN n) = true then setL (ps.take k) n v else ps.take k
theorem setK0 (ps : Flds) (n v : List UInt8) : setK ps n v 0 = [] := by simp [setK]
theorem setK_other {ps : Flds} {n v : List UInt8} {k : Nat} {p : List UInt8 × List UInt8} (h : ps[k]? = some p) (ho : ofN n p = false) : setK ps n v (k + 1) = setK ps n v k ++ [p] := by
  unfold setK
  rw [any_more h, ho, Bool.or_false]
  cases ha : (ps.take k).any (ofN n) with
  | true =>
    rw [if_pos rfl, if_pos rfl, take_more h, set_app ha]
    unfold remL; simp [ho]
  | false =>
    rw [if_neg (by simp), if_neg (by simp), take_more h]
theorem setK_first {ps : Flds} {n v : List UInt8} {k : Nat} {p : List UInt8 × List UInt8} (h : ps[k]? = some p) (ho : ofN n p = true) (hf : (ps.take k).any (ofN n) = false) : setK ps n v (k + 1) = setK ps n v k ++ [(lowS n, v)] := by
  unfold setK
  rw [any_more h, ho, Bool.or_true, if_pos rfl, hf, if_neg (by simp), take_more h]
  have : ∀ (l : Flds), l.any (ofN n) = false → setL (l ++ [p]) n v = l ++ [(lowS n, v)] := by
    intro l
    induction l with
    | nil => intro _; rw [List.nil_append, setL, if_pos ho]; rfl
    | cons q r ih =>
      intro hl
      simp only [List.any_cons, Bool.or_eq_false_iff] at hl
      rw [List.cons_append, setL, if_neg (by rw [hl.1]; simp), ih hl.2]; rfl
  exact this _ hf
theorem setK_again {ps : Flds} {n v : List UInt8} {k : Nat} {p : List UInt8 × List UInt8} (h : ps[k]? = some p) (ho : ofN n p = true) (hf : (ps.take k).any (ofN n) = true) : setK ps n v (k + 1) = setK ps n v k := by
  unfold setK
  rw [any_more h, hf, Bool.true_or, if_pos rfl, if_pos rfl, take_more h, set_app hf]
  unfold remL; simp [ho]
theorem set_len (ps : Flds) (n v : List UInt8) : (setL ps n v).length ≤ ps.length + 1 := by
  induction ps with
  | nil => simp [setL]
  | cons p r ih =>
    rw [setL]
    split
    · have := rem_len r n; simp; omega
    · simp; omega
theorem setK_len (ps : Flds) (n v : List UInt8) (k : Nat) : (setK ps n v k).length ≤ k + 1 := by
  unfold setK
  have h : (ps.take k).length ≤ k := List.length_take_le _ _
  split
  · have := set_len (ps.take k) n v; omega
  · omega
theorem setK_end {ps : Flds} {n v : List UInt8} {k : Nat} (hk : ps.length ≤ k) (hf : (ps.take k).any (ofN n) = true) : setK ps n v k = setL ps n v := by
  unfold setK; rw [if_pos hf, List.take_of_length_le hk]
theorem setK_end' {ps : Flds} {n v : List UInt8} {k : Nat} (hk : ps.length ≤ k) (hf : (ps.take k).any (ofN n) = false) : setK ps n v k ++ [(lowS n, v)] = setL ps n v := by
  unfold setK
  rw [hf, if_neg (by simp)]
  rw [List.take_of_length_le hk] at hf ⊢
  exact (set_none hf).symm
/-- The reference's way: what stands before the first field of the name, the new field, the others of the rest. -/
theorem set_at {ps : Flds} {n v : List UInt8} {k : Nat} {p : List UInt8 × List UInt8} (h : ps[k]? = some p) (ho : ofN n p = true) (hf : (ps.take k).any (ofN n) = false) :
    setL ps n v = addL (ps.take k) n v ++ remL (ps.drop (k + 1)) n := by
  have e := setK_first (v := v) h ho hf
  have hd : ps = ps.take (k + 1) ++ ps.drop (k + 1) := (List.take_append_drop _ _).symm
  have ha : (ps.take (k + 1)).any (ofN n) = true := by rw [any_more h, ho, Bool.or_true]
  have e1 : setL ps n v = setL (ps.take (k + 1)) n v ++ remL (ps.drop (k + 1)) n := by
    conv => lhs; rw [hd]
    exact set_app ha _
  rw [e1]
  have e2 : setK ps n v (k + 1) = setL (ps.take (k + 1)) n v := by unfold setK; rw [if_pos ha]
  have e3 : setK ps n v k = ps.take k := by unfold setK; rw [hf, if_neg (by simp)]
  rw [← e2, e, e3]; rfl

theorem all_app (ps qs : Flds) (n : List UInt8) : allL (ps ++ qs) n = allL ps n ++ allL qs n := by unfold allL; rw [List.filter_append, List.map_append]
theorem all_rem_same {ps : Flds} {n m : List UInt8} (h : lowS n = lowS m) : allL (remL ps n) m = [] := by
  unfold allL remL
  rw [List.filter_filter]
  have : (ps.filter fun p => ofN m p && !ofN n p) = [] := by
    rw [List.filter_eq_nil_iff]
    intro p _
    unfold ofN; rw [h]; simp
  rw [this]; rfl
theorem all_rem_other {ps : Flds} {n m : List UInt8} (h : lowS n ≠ lowS m) : allL (remL ps n) m = allL ps m := by
  unfold allL remL
  rw [List.filter_filter]
  congr 1
  refine List.filter_congr fun p _ => ?_
  unfold ofN
  by_cases hp : lowS p.1 = lowS m
  · simp only [hp, decide_true, Bool.true_and]
    rw [decide_eq_false (fun e => h e.symm)]; rfl
  · simp [hp]
theorem ofN_new_same {n m v : List UInt8} (h : lowS n = lowS m) : ofN m (lowS n, v) = true := by unfold ofN; rw [lowS_low, h]; simp
theorem ofN_new_other {n m v : List UInt8} (h : lowS n ≠ lowS m) : ofN m (lowS n, v) = false := by unfold ofN; rw [lowS_low]; simp [h]
theorem all_add_same {ps : Flds} {n m v : List UInt8} (h : lowS n = lowS m) : allL (addL ps n v) m = allL ps m ++ [v] := by
  unfold addL; rw [all_app]; congr 1; unfold allL; simp [ofN_new_same h]
theorem all_add_other {ps : Flds} {n m v : List UInt8} (h : lowS n ≠ lowS m) : allL (addL ps n v) m = allL ps m := by
  unfold addL; rw [all_app]; unfold allL; simp [ofN_new_other h]
theorem all_set_same {ps : Flds} {n m v : List UInt8} (h : lowS n = lowS m) : allL (setL ps n v) m = [v] := by
  induction ps with
  | nil => unfold setL allL; simp [ofN_new_same h]
  | cons p r ih =>
    rw [setL]
    split
    · have e : (lowS n, v) :: remL r n = [(lowS n, v)] ++ remL r n := rfl
      rw [e, all_app, all_rem_same h]; unfold allL; simp [ofN_new_same h]
    · rename_i hp
      have e : p :: setL r n v = [p] ++ setL r n v := rfl
      have hp' : ofN m p = false := by unfold ofN at hp ⊢; rw [← h]; simpa using hp
      rw [e, all_app, ih]; unfold allL; simp [hp']
theorem all_set_other {ps : Flds} {n m v : List UInt8} (h : lowS n ≠ lowS m) : allL (setL ps n v) m = allL ps m := by
  induction ps with
  | nil => unfold setL allL; simp [ofN_new_other h]
  | cons p r ih =>
    have e0 : p :: r = [p] ++ r := rfl
    rw [setL]
    split
    · rename_i hp
      have e : (lowS n, v) :: remL r n = [(lowS n, v)] ++ remL r n := rfl
      have hp' : ofN m p = false := by
        unfold ofN at hp ⊢
        have := of_decide_eq_true hp
        rw [this]; simp [h]
      rw [e, all_app, all_rem_other h, e0, all_app]; unfold allL; simp [ofN_new_other h, hp']
    · have e : p :: setL r n v = [p] ++ setL r n v := rfl
      rw [e, all_app, ih, e0, all_app]
theorem all_congr {ps : Flds} {n m : List UInt8} (h : lowS n = lowS m) : allL ps n = allL ps m := by
  unfold allL ofN; rw [h]
theorem siz_app (ps qs : Flds) : sizL (ps ++ qs) = sizL ps + sizL qs := by
  induction ps with
  | nil => simp [sizL]
  | cons p r ih => unfold sizL at *; rw [List.cons_append, List.foldr_cons, List.foldr_cons, ih]; omega
theorem siz_more {ps : Flds} {k : Nat} {p : List UInt8 × List UInt8} (h : ps[k]? = some p) : sizL (ps.take (k + 1)) = sizL (ps.take k) + (p.1.length + p.2.length + 4) := by
  rw [take_more h, siz_app]; simp [sizL]
theorem getL_cons (t : List UInt8) (r : List (List UInt8)) (h : r ≠ []) : getL (t :: r) = t ++ 44 :: 32 :: getL r := by
  cases r with
  | nil => exact absurd rfl h
  | cons a b => rfl
theorem getL_snoc (ls : List (List UInt8)) (t : List UInt8) (h : ls ≠ []) : getL (ls ++ [t]) = getL ls ++ 44 :: 32 :: t := by
  induction ls with
  | nil => exact absurd rfl h
  | cons a r ih =>
    cases r with
    | nil => rfl
    | cons b c =>
      rw [List.cons_append, getL_cons a _ (by simp), ih (by simp), getL_cons a (b :: c) (by simp)]
      simp
end Go.Proofs.YtoiampkdmjpljaaGreatDoor

/- Plain mathematics of chapter 11: what an element of a Cache-Control list says, what fields say, the text of directives, and which are more careful. -/
namespace Go.Proofs.YtoiampkdmjpljaaGreatDoor

structure Dv where
  ns : Bool
  nc : Bool
  pr : Bool
  pu : Bool
  mr : Bool
  oc : Bool
  ma : Int
  sa : Int
  ws : Int
  oe : Int
  ms : Int
  mf : Int
deriving DecidableEq
def decTD (n : Int) : List UInt8 := Lib.decDigits n.toNat
def noneD : Dv := ⟨false, false, false, false, false, false, -1, -1, -1, -1, -1, -1⟩
def nNS : List UInt8 := [110, 111, 45, 115, 116, 111, 114, 101]
def nNC : List UInt8 := [110, 111, 45, 99, 97, 99, 104, 101]
def nPR : List UInt8 := [112, 114, 105, 118, 97, 116, 101]
def nPU : List UInt8 := [112, 117, 98, 108, 105, 99]
def nMR : List UInt8 := [109, 117, 115, 116, 45, 114, 101, 118, 97, 108, 105, 100, 97, 116, 101]
def nPX : List UInt8 := [112, 114, 111, 120, 121, 45, 114, 101, 118, 97, 108, 105, 100, 97, 116, 101]
def nOC : List UInt8 := [111, 110, 108, 121, 45, 105, 102, 45, 99, 97, 99, 104, 101, 100]
def nMA : List UInt8 := [109, 97, 120, 45, 97, 103, 101]
def nSA : List UInt8 := [115, 45, 109, 97, 120, 97, 103, 101]
def nWS : List UInt8 := [115, 116, 97, 108, 101, 45, 119, 104, 105, 108, 101, 45, 114, 101, 118, 97, 108, 105, 100, 97, 116, 101]
def nOE : List UInt8 := [115, 116, 97, 108, 101, 45, 105, 102, 45, 101, 114, 114, 111, 114]
def nMS : List UInt8 := [109, 97, 120, 45, 115, 116, 97, 108, 101]
def nMF : List UInt8 := [109, 105, 110, 45, 102, 114, 101, 115, 104]
def nCC : List UInt8 := [99, 97, 99, 104, 101, 45, 99, 111, 110, 116, 114, 111, 108]
def leastD (a b : Int) : Int := if a = -1 then b else if b = -1 then a else min a b
/-- The number of decimal digits, 2147483647 at most; none where a byte is no digit. -/
def numA : List UInt8 → Int → Option Int
  | [], n => some n
  | c :: r, n => if 48 ≤ c.toNat ∧ c.toNat ≤ 57 then numA r (min (10 * n + ((c.toNat : Int) - 48)) 2147483647) else none
def argL (a : List UInt8) : List UInt8 := if a.headD 0 = 34 then (unqO a).getD [] else a
def secL (a : List UInt8) : Option Int := if argL a = [] then none else numA (argL a) 0
def kindL (nm : List UInt8) : Nat :=
  if nm = nNS then 0 else if nm = nNC then 1 else if nm = nPR then 2 else if nm = nPU then 3 else if nm = nMR then 4 else if nm = nPX then 4 else if nm = nOC then 5
  else if nm = nMA then 6 else if nm = nSA then 7 else if nm = nWS then 8 else if nm = nOE then 9 else if nm = nMS then 10 else if nm = nMF then 11 else 12
def actD (d : Dv) (k : Nat) (x y z : Int) : Dv :=
  match k with
  | 0 => { d with ns := true }
  | 1 => { d with nc := true }
  | 2 => { d with pr := true }
  | 3 => { d with pu := true }
  | 4 => { d with mr := true }
  | 5 => { d with oc := true }
  | 6 => { d with ma := leastD d.ma x }
  | 7 => { d with sa := leastD d.sa x }
  | 8 => { d with ws := leastD d.ws x }
  | 9 => { d with oe := leastD d.oe x }
  | 10 => { d with ms := leastD d.ms y }
  | 11 => { d with mf := max d.mf z }
  | _ => d
/-- The number of an argument: for most directives, for max-stale, for min-fresh. -/
def argX (arg : Option (List UInt8)) : Int := (arg.bind secL).getD 0
def argY (arg : Option (List UInt8)) : Int := match arg with | none => 2147483647 | some a => (secL a).getD 0
def argZ (arg : Option (List UInt8)) : Int := (arg.bind secL).getD 2147483647
def putD (d : Dv) (nm : List UInt8) (arg : Option (List UInt8)) : Dv := actD d (kindL nm) (argX arg) (argY arg) (argZ arg)
def elemD (d : Dv) (e : List UInt8) : Dv := match cutE e with
  | none => putD d (lowS e) none
  | some (n, a) => putD d (lowS n) (some a)
def valD (d : Dv) (v : List UInt8) : Dv := match listO v with
  | none => { d with ns := true }
  | some ls => ls.foldl elemD d
def parseD (vs : List (List UInt8)) : Dv := vs.foldl valD noneD
def normT (n : Int) : Int := min (max n (-1)) 2147483647
def normD (d : Dv) : Dv := { d with ma := normT d.ma, sa := normT d.sa, ws := normT d.ws, oe := normT d.oe, ms := normT d.ms, mf := normT d.mf }
def mergeD (x y : Dv) : Dv :=
  let a := normD x
  let b := normD y
  ⟨a.ns || b.ns, a.nc || b.nc, a.pr || b.pr, a.pu && b.pu, a.mr || b.mr, a.oc || b.oc, leastD a.ma b.ma, leastD a.sa b.sa, min a.ws b.ws, min a.oe b.oe, min a.ms b.ms, max a.mf b.mf⟩
def timeL (n : List UInt8) (s : Int) : List UInt8 := if n = nMS ∧ s = 2147483647 then n else n ++ 61 :: decTD s
def flagsD (d : Dv) : List (List UInt8 × Bool) := [(nNS, d.ns), (nNC, d.nc), (nPR, d.pr), (nPU, d.pu), (nMR, d.mr), (nOC, d.oc)]
def timesD (d : Dv) : List (List UInt8 × Int) := [(nMA, d.ma), (nSA, d.sa), (nWS, d.ws), (nOE, d.oe), (nMS, d.ms), (nMF, d.mf)]
def flagI (l : List (List UInt8 × Bool)) : List (List UInt8) := (l.filter (·.2)).map (·.1)
def timeI (l : List (List UInt8 × Int)) : List (List UInt8) := (l.filter (fun p => decide (p.2 ≠ -1))).map fun p => timeL p.1 p.2
def itemsD (d : Dv) : List (List UInt8) := flagI (flagsD d) ++ timeI (timesD d)
def fmtD (d : Dv) : List UInt8 := getL (itemsD (normD d))

/-- All times are between -1 and 2147483647. -/
structure Nor (d : Dv) : Prop where
  ma : -1 ≤ d.ma ∧ d.ma ≤ 2147483647
  sa : -1 ≤ d.sa ∧ d.sa ≤ 2147483647
  ws : -1 ≤ d.ws ∧ d.ws ≤ 2147483647
  oe : -1 ≤ d.oe ∧ d.oe ≤ 2147483647
  ms : -1 ≤ d.ms ∧ d.ms ≤ 2147483647
  mf : -1 ≤ d.mf ∧ d.mf ≤ 2147483647
theorem nor_none : Nor noneD := by constructor <;> decide
theorem normT_bd (n : Int) : -1 ≤ normT n ∧ normT n ≤ 2147483647 := by unfold normT; omega
theorem nor_norm (d : Dv) : Nor (normD d) := ⟨normT_bd _, normT_bd _, normT_bd _, normT_bd _, normT_bd _, normT_bd _⟩
theorem normT_id {n : Int} (h : -1 ≤ n ∧ n ≤ 2147483647) : normT n = n := by unfold normT; omega
theorem norm_id {d : Dv} (h : Nor d) : normD d = d := by
  unfold normD
  rw [normT_id h.ma, normT_id h.sa, normT_id h.ws, normT_id h.oe, normT_id h.ms, normT_id h.mf]
theorem numA_bd : ∀ (l : List UInt8) (n m : Int), 0 ≤ n → n ≤ 2147483647 → numA l n = some m → 0 ≤ m ∧ m ≤ 2147483647 := by
  intro l
  induction l with
  | nil => intro n m h1 h2 h; simp only [numA, Option.some.injEq] at h; subst h; exact ⟨h1, h2⟩
  | cons c r ih =>
    intro n m h1 h2 h
    unfold numA at h
    split at h
    · exact ih _ _ (by omega) (by omega) h
    · cases h
theorem sec_bd {a : List UInt8} {n : Int} (h : secL a = some n) : 0 ≤ n ∧ n ≤ 2147483647 := by
  unfold secL at h
  split at h
  · cases h
  · exact numA_bd _ _ _ (by omega) (by omega) h
theorem sec_bdD (a : List UInt8) (c : Int) (hc : 0 ≤ c ∧ c ≤ 2147483647) : 0 ≤ (secL a).getD c ∧ (secL a).getD c ≤ 2147483647 := by
  cases h : secL a with
  | none => simpa using hc
  | some n => simpa using sec_bd h
theorem sec_bdB (a : Option (List UInt8)) (c : Int) (hc : 0 ≤ c ∧ c ≤ 2147483647) : 0 ≤ (a.bind secL).getD c ∧ (a.bind secL).getD c ≤ 2147483647 := by
  cases a with
  | none => simpa using hc
  | some a => exact sec_bdD a c hc
theorem least_bd {a b : Int} (ha : -1 ≤ a ∧ a ≤ 2147483647) (hb : -1 ≤ b ∧ b ≤ 2147483647) : -1 ≤ leastD a b ∧ leastD a b ≤ 2147483647 := by
  unfold leastD; split <;> (try split) <;> omega
theorem nor_act {d : Dv} (h : Nor d) (k : Nat) {x y z : Int} (hx : 0 ≤ x ∧ x ≤ 2147483647) (hy : 0 ≤ y ∧ y ≤ 2147483647) (hz : 0 ≤ z ∧ z ≤ 2147483647) : Nor (actD d k x y z) := by
  obtain ⟨h1, h2, h3, h4, h5, h6⟩ := h
  unfold actD
  split
  all_goals first
    | exact ⟨h1, h2, h3, h4, h5, h6⟩
    | exact ⟨least_bd h1 ⟨by omega, hx.2⟩, h2, h3, h4, h5, h6⟩
    | exact ⟨h1, least_bd h2 ⟨by omega, hx.2⟩, h3, h4, h5, h6⟩
    | exact ⟨h1, h2, least_bd h3 ⟨by omega, hx.2⟩, h4, h5, h6⟩
    | exact ⟨h1, h2, h3, least_bd h4 ⟨by omega, hx.2⟩, h5, h6⟩
    | exact ⟨h1, h2, h3, h4, least_bd h5 ⟨by omega, hy.2⟩, h6⟩
    | exact ⟨h1, h2, h3, h4, h5, by show -1 ≤ max d.mf z ∧ max d.mf z ≤ _; omega⟩
theorem argX_bd (a : Option (List UInt8)) : 0 ≤ argX a ∧ argX a ≤ 2147483647 := sec_bdB a 0 (by omega)
theorem argY_bd (a : Option (List UInt8)) : 0 ≤ argY a ∧ argY a ≤ 2147483647 := by
  cases a with
  | none => exact ⟨by decide, by decide⟩
  | some a => exact sec_bdD a 0 (by omega)
theorem argZ_bd (a : Option (List UInt8)) : 0 ≤ argZ a ∧ argZ a ≤ 2147483647 := sec_bdB a 2147483647 (by omega)
theorem nor_put {d : Dv} (h : Nor d) (nm : List UInt8) (arg : Option (List UInt8)) : Nor (putD d nm arg) := nor_act h _ (argX_bd _) (argY_bd _) (argZ_bd _)
theorem nor_elem {d : Dv} (h : Nor d) (e : List UInt8) : Nor (elemD d e) := by
  unfold elemD; split <;> exact nor_put h _ _
theorem nor_fold : ∀ (ls : List (List UInt8)) {d : Dv}, Nor d → Nor (ls.foldl elemD d) := by
  intro ls
  induction ls with
  | nil => intro d h; exact h
  | cons e r ih => intro d h; exact ih (nor_elem h e)
theorem nor_val {d : Dv} (h : Nor d) (v : List UInt8) : Nor (valD d v) := by
  unfold valD; split
  · exact ⟨h.ma, h.sa, h.ws, h.oe, h.ms, h.mf⟩
  · exact nor_fold _ h
theorem nor_vals : ∀ (vs : List (List UInt8)) {d : Dv}, Nor d → Nor (vs.foldl valD d) := by
  intro vs
  induction vs with
  | nil => intro d h; exact h
  | cons e r ih => intro d h; exact ih (nor_val h e)
theorem nor_parse (vs : List (List UInt8)) : Nor (parseD vs) := nor_vals vs nor_none

/-! ### Order does not matter -/
theorem least_comm (a b : Int) : leastD a b = leastD b a := by
  unfold leastD; split <;> split <;> omega
theorem least_assoc (a b c : Int) : leastD (leastD a b) c = leastD a (leastD b c) := by
  unfold leastD
  by_cases h1 : a = -1 <;> by_cases h2 : b = -1 <;> by_cases h3 : c = -1 <;> simp [h1, h2, h3]
  all_goals (repeat' split) <;> omega
theorem least_right (a b c : Int) : leastD (leastD a b) c = leastD (leastD a c) b := by
  rw [least_assoc, least_comm b c, ← least_assoc]
theorem max_right (a b c : Int) : max (max a b) c = max (max a c) b := by omega
theorem act_comm (d : Dv) (k j : Nat) (x y z u v w : Int) : actD (actD d k x y z) j u v w = actD (actD d j u v w) k x y z := by
  have hk : k = 0 ∨ k = 1 ∨ k = 2 ∨ k = 3 ∨ k = 4 ∨ k = 5 ∨ k = 6 ∨ k = 7 ∨ k = 8 ∨ k = 9 ∨ k = 10 ∨ k = 11 ∨ 12 ≤ k := by omega
  have hj : j = 0 ∨ j = 1 ∨ j = 2 ∨ j = 3 ∨ j = 4 ∨ j = 5 ∨ j = 6 ∨ j = 7 ∨ j = 8 ∨ j = 9 ∨ j = 10 ∨ j = 11 ∨ 12 ≤ j := by omega
  have big : ∀ (d : Dv) (k : Nat) (x y z : Int), 12 ≤ k → actD d k x y z = d := by
    intro d k x y z h
    obtain ⟨m, rfl⟩ : ∃ m, k = m + 12 := ⟨k - 12, by omega⟩
    rfl
  rcases hk with rfl | rfl | rfl | rfl | rfl | rfl | rfl | rfl | rfl | rfl | rfl | rfl | hk
  all_goals try (rw [big _ _ _ _ _ hk, big _ _ _ _ _ hk])
  all_goals rcases hj with rfl | rfl | rfl | rfl | rfl | rfl | rfl | rfl | rfl | rfl | rfl | rfl | hj
  all_goals try (rw [big _ _ _ _ _ hj, big _ _ _ _ _ hj])
  all_goals first
    | rfl
    | (simp only [actD, least_right _ x u]; done)
    | (simp only [actD, least_right _ y v]; done)
    | (simp only [actD, max_right _ z w]; done)
theorem elem_act (_ : Dv) (e : List UInt8) : ∃ k x y z, ∀ d : Dv, elemD d e = actD d k x y z := by
  unfold elemD putD
  cases cutE e with
  | none => exact ⟨_, _, _, _, fun d => rfl⟩
  | some p => exact ⟨_, _, _, _, fun d => rfl⟩
theorem elem_comm (d : Dv) (e f : List UInt8) : elemD (elemD d e) f = elemD (elemD d f) e := by
  obtain ⟨k, x, y, z, h⟩ := elem_act d e
  obtain ⟨j, u, v, w, g⟩ := elem_act d f
  rw [h, g, h, g]; exact act_comm _ _ _ _ _ _ _ _ _
theorem elem_ns (d : Dv) (e : List UInt8) : elemD { d with ns := true } e = { elemD d e with ns := true } := by
  obtain ⟨k, x, y, z, h⟩ := elem_act d e
  rw [h, h]; exact act_comm d 0 k 0 0 0 x y z
theorem fold_elem (e : List UInt8) : ∀ (ls : List (List UInt8)) (d : Dv), ls.foldl elemD (elemD d e) = elemD (ls.foldl elemD d) e := by
  intro ls
  induction ls with
  | nil => intro d; rfl
  | cons f r ih => intro d; rw [List.foldl_cons, List.foldl_cons, elem_comm, ih]
theorem fold_ns : ∀ (ls : List (List UInt8)) (d : Dv), ls.foldl elemD { d with ns := true } = { ls.foldl elemD d with ns := true } := by
  intro ls
  induction ls with
  | nil => intro d; rfl
  | cons f r ih => intro d; rw [List.foldl_cons, List.foldl_cons, elem_ns, ih]
theorem fold_fold (ls : List (List UInt8)) : ∀ (ms : List (List UInt8)) (d : Dv), ms.foldl elemD (ls.foldl elemD d) = ls.foldl elemD (ms.foldl elemD d) := by
  intro ms
  induction ms with
  | nil => intro d; rfl
  | cons f r ih => intro d; rw [List.foldl_cons, List.foldl_cons, ← fold_elem f ls d, ih]
theorem val_comm (d : Dv) (v u : List UInt8) : valD (valD d v) u = valD (valD d u) v := by
  unfold valD
  cases listO v <;> cases listO u
  · rfl
  · exact fold_ns _ _
  · exact (fold_ns _ _).symm
  · exact fold_fold _ _ _
theorem vals_one (v : List UInt8) : ∀ (vs : List (List UInt8)) (d : Dv), vs.foldl valD (valD d v) = valD (vs.foldl valD d) v := by
  intro vs
  induction vs with
  | nil => intro d; rfl
  | cons u r ih => intro d; rw [List.foldl_cons, List.foldl_cons, val_comm, ih]
theorem parse_snoc (vs : List (List UInt8)) (v : List UInt8) : parseD (vs ++ [v]) = valD (parseD vs) v := by
  unfold parseD; rw [List.foldl_append]; rfl
theorem parse_cons (v : List UInt8) (vs : List (List UInt8)) : parseD (v :: vs) = valD (parseD vs) v := by
  unfold parseD; rw [List.foldl_cons, vals_one]
theorem parse_reverse : ∀ vs : List (List UInt8), parseD vs.reverse = parseD vs := by
  intro vs
  induction vs with
  | nil => rfl
  | cons v r ih => rw [List.reverse_cons, parse_snoc, parse_cons, ih]

end Go.Proofs.YtoiampkdmjpljaaGreatDoor

/- The Gregorian calendar from 1970 to 9999 in plain integers: leap years, lengths of months, the day of a date; each day has exactly one date. -/
namespace Go.Proofs.YtoiampkdmjpljaaGreatDoor

/-- Whether y is a leap year. -/
def leapB (y : Int) : Bool := decide (y % 4 = 0 ∧ y % 100 ≠ 0 ∨ y % 400 = 0)
def lp (y : Int) : Int := if leapB y = true then 1 else 0
theorem lp_01 (y : Int) : 0 ≤ lp y ∧ lp y ≤ 1 := by unfold lp; split <;> omega
theorem leap_yes {y : Int} (h : y % 4 = 0 ∧ y % 100 ≠ 0 ∨ y % 400 = 0) : leapB y = true := decide_eq_true h
theorem leap_no {y : Int} (h : ¬ (y % 4 = 0 ∧ y % 100 ≠ 0 ∨ y % 400 = 0)) : leapB y = false := decide_eq_false h
/-- The leap years from year 1 to the one before y. -/
def lyb (y : Int) : Int := (y - 1) / 4 - (y - 1) / 100 + (y - 1) / 400
/-- The day of the first of January. -/
def ys (y : Int) : Int := (y - 1970) * 365 + lyb y - 477
theorem ys_first : ys 1970 = 0 := by decide
theorem ys_end : ys 10000 = 2932897 := by decide
theorem ys_succ (y : Int) : ys (y + 1) = ys y + 365 + lp y := by
  unfold ys lyb lp leapB
  by_cases c : y % 4 = 0 ∧ y % 100 ≠ 0 ∨ y % 400 = 0
  · rw [if_pos (decide_eq_true c)]; omega
  · rw [if_neg (by simpa using c)]; omega
theorem ys_mono (a b : Int) (h : a ≤ b) : ys a ≤ ys b := by unfold ys lyb; omega
theorem ys_guess (n : Int) (h0 : 0 ≤ n) : ys (1970 + n / 366) ≤ n := by unfold ys lyb; omega
theorem ys_bd (y : Int) (h0 : 1970 ≤ y) (h : y ≤ 10000) : 0 ≤ ys y ∧ ys y ≤ 2932897 := by
  have a := ys_mono 1970 y h0
  have b := ys_mono y 10000 h
  rw [ys_first] at a; rw [ys_end] at b; exact ⟨a, b⟩
/-- The days of a month. -/
def md (y m : Int) : Int := if m = 2 then 28 + lp y else if m = 4 ∨ m = 6 ∨ m = 9 ∨ m = 11 then 30 else 31
theorem md_2 (y : Int) : md y 2 = 28 + lp y := rfl
theorem md_30 (y m : Int) (h : m = 4 ∨ m = 6 ∨ m = 9 ∨ m = 11) : md y m = 30 := by unfold md; rw [if_neg (by omega), if_pos h]
theorem md_31 (y m : Int) (h2 : m ≠ 2) (h : ¬ (m = 4 ∨ m = 6 ∨ m = 9 ∨ m = 11)) : md y m = 31 := by unfold md; rw [if_neg h2, if_neg h]
theorem md_bd (y m : Int) : 28 ≤ md y m ∧ md y m ≤ 31 := by
  have := lp_01 y
  unfold md; split
  · omega
  · split <;> omega
/-- The days of the year before a month. -/
def cum (y m : Int) : Int := if m ≤ 1 then 0 else if m = 2 then 31 else (153 * (m - 3) + 2) / 5 + 59 + lp y
theorem cum_1 (y : Int) : cum y 1 = 0 := rfl
theorem cum_13 (y : Int) : cum y 13 = 365 + lp y := rfl
theorem cum_succ (y m : Int) (h1 : 1 ≤ m) (h2 : m ≤ 12) : cum y (m + 1) = cum y m + md y m := by
  have h : m = 1 ∨ m = 2 ∨ m = 3 ∨ m = 4 ∨ m = 5 ∨ m = 6 ∨ m = 7 ∨ m = 8 ∨ m = 9 ∨ m = 10 ∨ m = 11 ∨ m = 12 := by omega
  rcases h with rfl | rfl | rfl | rfl | rfl | rfl | rfl | rfl | rfl | rfl | rfl | rfl
  all_goals (unfold cum md; simp <;> omega)
theorem cum_mono (y m k : Int) (h : m ≤ k) : cum y m ≤ cum y k := by
  have := lp_01 y
  unfold cum; split <;> split <;> (try split) <;> (try split) <;> omega
theorem cum_bd (y m : Int) (h1 : 1 ≤ m) (h2 : m ≤ 13) : 0 ≤ cum y m ∧ cum y m ≤ 365 + lp y := by
  have a := cum_mono y 1 m h1
  have b := cum_mono y m 13 h2
  rw [cum_1] at a; rw [cum_13] at b; exact ⟨a, b⟩
/-- The day of a date. -/
def num (y m d : Int) : Int := ys y + cum y m + d - 1
/-- y, m, d is a date, and n its day. -/
def isD (y m d n : Int) : Prop := 1970 ≤ y ∧ y ≤ 9999 ∧ 1 ≤ m ∧ m ≤ 12 ∧ 1 ≤ d ∧ d ≤ md y m ∧ n = num y m d
/-- Whether y, m, d is a date. -/
def vldB (y m d : Int) : Bool := decide (1970 ≤ y ∧ y ≤ 9999 ∧ 1 ≤ m ∧ m ≤ 12 ∧ 1 ≤ d ∧ d ≤ md y m)
theorem vld_of {y m d n : Int} (h : isD y m d n) : vldB y m d = true := decide_eq_true ⟨h.1, h.2.1, h.2.2.1, h.2.2.2.1, h.2.2.2.2.1, h.2.2.2.2.2.1⟩
theorem isD_of {y m d : Int} (h : vldB y m d = true) : isD y m d (num y m d) := by
  obtain ⟨a, b, c, e, f, g⟩ := of_decide_eq_true h
  exact ⟨a, b, c, e, f, g, rfl⟩
theorem num_in {y m d n : Int} (h : isD y m d n) : ys y ≤ n ∧ n < ys (y + 1) ∧ cum y m ≤ n - ys y ∧ n - ys y < cum y (m + 1) ∧ 0 ≤ n ∧ n ≤ 2932896 := by
  obtain ⟨a, b, c, e, f, g, rfl⟩ := h
  have h1 := cum_succ y m c e
  have h2 := cum_bd y m c (by omega)
  have h3 := cum_bd y (m + 1) (by omega) (by omega)
  have h4 := ys_succ y
  have h5 := ys_bd y a (by omega)
  have h6 := ys_bd (y + 1) (by omega) (by omega)
  unfold num
  omega
theorem isD_uniq {y m d y' m' d' n : Int} (h : isD y m d n) (h' : isD y' m' d' n) : y = y' ∧ m = m' ∧ d = d' := by
  have a := num_in h
  have a' := num_in h'
  have ey : y = y' := by
    have i1 := h.1; have i2 := h'.1
    rcases Int.lt_trichotomy y y' with c | c | c
    · have := ys_mono (y + 1) y' (by omega); omega
    · exact c
    · have := ys_mono (y' + 1) y (by omega); omega
  subst ey
  have em : m = m' := by
    have i1 := h.2.2.1; have i2 := h'.2.2.1
    rcases Int.lt_trichotomy m m' with c | c | c
    · have := cum_mono y (m + 1) m' (by omega); omega
    · exact c
    · have := cum_mono y (m' + 1) m (by omega); omega
  subst em
  have b := h.2.2.2.2.2.2; have b' := h'.2.2.2.2.2.2
  unfold num at b b'
  exact ⟨rfl, rfl, by omega⟩
/-- y, m, d is a date, and y2, m2, d2 the next one. -/
def nextD (y m d y2 m2 d2 : Int) : Prop := (y2 = y ∧ m2 = m ∧ d2 = d + 1 ∧ d + 1 ≤ md y m) ∨ (y2 = y ∧ m2 = m + 1 ∧ d2 = 1 ∧ d = md y m ∧ m < 12) ∨ (y2 = y + 1 ∧ m2 = 1 ∧ d2 = 1 ∧ d = md y m ∧ m = 12)
theorem isD_next {y m d n : Int} (h : isD y m d n) (hn : n < 2932896) : ∃ y2 m2 d2, isD y2 m2 d2 (n + 1) ∧ nextD y m d y2 m2 d2 := by
  obtain ⟨a, b, c, e, f, g, rfl⟩ := h
  by_cases h1 : d + 1 ≤ md y m
  · exact ⟨y, m, d + 1, ⟨a, b, c, e, by omega, h1, by unfold num; omega⟩, .inl ⟨rfl, rfl, rfl, h1⟩⟩
  · have hd : d = md y m := by omega
    by_cases h2 : m < 12
    · have := md_bd y (m + 1)
      refine ⟨y, m + 1, 1, ⟨a, b, by omega, by omega, by omega, by omega, ?_⟩, .inr (.inl ⟨rfl, rfl, rfl, hd, h2⟩)⟩
      unfold num; rw [cum_succ y m c e, hd]; omega
    · obtain rfl : m = 12 := by omega
      have h4 := ys_succ y
      have h5 := cum_succ y 12 (by omega) (by omega)
      rw [show (12 : Int) + 1 = 13 from rfl, cum_13] at h5
      have hy : y ≠ 9999 := by
        rintro rfl
        have h6 : ys (9999 + 1) = 2932897 := ys_end
        unfold num at hn; rw [hd] at hn; omega
      have := md_bd (y + 1) 1
      refine ⟨y + 1, 1, 1, ⟨by omega, by omega, by omega, by omega, by omega, by omega, ?_⟩, .inr (.inr ⟨rfl, rfl, rfl, hd, rfl⟩)⟩
      unfold num; rw [cum_1, hd]; omega
theorem isD_ex (n : Nat) (h : n ≤ 2932896) : ∃ y m d, isD y m d (n : Int) := by
  induction n with
  | zero => exact ⟨1970, 1, 1, by unfold isD; decide⟩
  | succ k ih =>
    obtain ⟨y, m, d, hD⟩ := ih (by omega)
    obtain ⟨y2, m2, d2, h2, _⟩ := isD_next hD (by omega)
    exact ⟨y2, m2, d2, by rw [Int.natCast_add]; exact h2⟩
theorem isD_exI (n : Int) (h0 : 0 ≤ n) (h : n ≤ 2932896) : ∃ y m d, isD y m d n := by
  obtain ⟨y, m, d, hD⟩ := isD_ex n.toNat (by omega)
  exact ⟨y, m, d, by rw [Int.toNat_of_nonneg h0] at hD; exact hD⟩
theorem isD_bd {y m d n : Int} (h : isD y m d n) : 1970 ≤ y ∧ y ≤ 9999 ∧ 1 ≤ m ∧ m ≤ 12 ∧ 1 ≤ d ∧ d ≤ 31 ∧ 0 ≤ n ∧ n ≤ 2932896 := by
  have a := num_in h
  have b := md_bd y m
  obtain ⟨h1, h2, h3, h4, h5, h6, _⟩ := h
  omega
/-- What both searches for a date end with. -/
theorem isD_found {y m d n : Int} (h1 : 1970 ≤ y) (h2 : y ≤ 9999) (h3 : 1 ≤ m) (h4 : m ≤ 12) (h5 : 1 ≤ d) (h6 : d ≤ md y m) (h7 : d = n - ys y - cum y m + 1) : isD y m d n :=
  ⟨h1, h2, h3, h4, h5, h6, by unfold num; omega⟩
/-- The weekday of a day. -/
def wdI (n : Int) : Int := (n + 4) % 7
theorem wd_bd (n : Int) : 0 ≤ wdI n ∧ wdI n ≤ 6 := by unfold wdI; omega
theorem wd_succ (n : Int) : wdI (n + 1) = (wdI n + 1) % 7 := by unfold wdI; omega
end Go.Proofs.YtoiampkdmjpljaaGreatDoor
