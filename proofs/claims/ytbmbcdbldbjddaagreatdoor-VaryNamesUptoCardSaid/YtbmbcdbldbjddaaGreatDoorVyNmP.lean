/- Plain mathematics: the names that Vary fields list, or that everything matters; sorted and each once. -/
import Derived.Test.YtbmbcdbldbjddaaGreatDoorVyNames
import Derived.Test.YtbmbcdbldbjddaaGreatDoorFName
import Derived.Test.YtbmbcdbldbjddaaGreatDoorList
import Derived.Lib.SlicesCompact
import Derived.Sort.EncStr
namespace Go.Proofs.YtbmbcdbldbjddaaGreatDoor

def badE (x : List UInt8) : Bool := decide (nameC x ≠ 0 ∨ nameR x = [42])
def badV (v : List UInt8) : Bool := match listO v with
  | none => true
  | some ls => ls.any badE
def elsV (v : List UInt8) : List (List UInt8) := match listO v with
  | none => []
  | some ls => ls.map nameR
def namL (vs : List (List UInt8)) : List (List UInt8) := vs.flatMap elsV
theorem namL_next {vs : List (List UInt8)} {k : Nat} {v : List UInt8} (h : vs[k]? = some v) : namL (vs.take (k + 1)) = namL (vs.take k) ++ elsV v := by
  unfold namL; rw [take_more h, List.flatMap_append]; simp
theorem bad_next {vs : List (List UInt8)} {k : Nat} {v : List UInt8} (h : vs[k]? = some v) (h0 : (vs.take k).any badV = false) (hv : badV v = false) : (vs.take (k + 1)).any badV = false := by
  rw [take_more h, List.any_append, h0]; simp [hv]
theorem bad_hit {vs : List (List UInt8)} {k : Nat} {v : List UInt8} (h : vs[k]? = some v) (hv : badV v = true) : vs.any badV = true := by
  rw [List.any_eq_true]; exact ⟨v, List.mem_of_getElem? h, hv⟩
theorem badE_next {ls : List (List UInt8)} {k : Nat} {x : List UInt8} (h : ls[k]? = some x) (h0 : (ls.take k).any badE = false) (hv : badE x = false) : (ls.take (k + 1)).any badE = false := by
  rw [take_more h, List.any_append, h0]; simp [hv]
theorem badE_hit {ls : List (List UInt8)} {k : Nat} {x : List UInt8} (h : ls[k]? = some x) (hv : badE x = true) : ls.any badE = true := by
  rw [List.any_eq_true]; exact ⟨x, List.mem_of_getElem? h, hv⟩
theorem lowB_42 (c : UInt8) : lowB c = 42 ↔ c = 42 := by
  unfold lowB
  by_cases h : 65 ≤ c.toNat ∧ c.toNat ≤ 90
  · rw [if_pos h]
    constructor
    · intro e
      have h1 := congrArg UInt8.toNat e
      rw [UInt8.toNat_add] at h1
      simp at h1
      omega
    · intro e; subst e; exact absurd h.1 (by decide)
  · rw [if_neg h]
theorem lowS_star (x : List UInt8) : lowS x = [42] ↔ x = [42] := by
  constructor
  · intro e
    match x, e with
    | [c], e => simp [lowS] at e; rw [(lowB_42 c).mp e]
    | [], e => simp [lowS] at e
    | _ :: _ :: _, e => simp [lowS] at e
  · intro e; subst e; rfl
/-- The program's sort and Compact. -/
def srtC (xs : List (List UInt8)) : List (List UInt8) := Lib.compact (xs.mergeSort fun x y => decide (x ≤ y))
/-- The reference's list. -/
def insL (xs : List (List UInt8)) : List (List UInt8) := xs.foldl (fun o x => insU x o) []
theorem insL_str (xs : List (List UInt8)) : StrS (insL xs) := by
  have h : ∀ (xs o : List (List UInt8)), StrS o → StrS (xs.foldl (fun o x => insU x o) o) := by
    intro xs
    induction xs with
    | nil => intro o h; exact h
    | cons x r ih => intro o h; exact ih _ (insU_str x o h)
  exact h xs [] List.Pairwise.nil
theorem insL_mem (xs : List (List UInt8)) (y : List UInt8) : y ∈ insL xs ↔ y ∈ xs := by
  have h : ∀ (xs o : List (List UInt8)), y ∈ xs.foldl (fun o x => insU x o) o ↔ y ∈ o ∨ y ∈ xs := by
    intro xs
    induction xs with
    | nil => intro o; simp
    | cons x r ih =>
      intro o
      rw [List.foldl_cons, ih, insU_mem, List.mem_cons]
      constructor
      · rintro ((e | e) | e)
        · exact .inr (.inl e)
        · exact .inl e
        · exact .inr (.inr e)
      · rintro (e | e | e)
        · exact .inl (.inr e)
        · exact .inl (.inl e)
        · exact .inr e
  rw [insL, h]; simp
theorem lt_iff (a b : List UInt8) : a < b ↔ ltK a b = true := by
  induction a generalizing b with
  | nil =>
    cases b with
    | nil => constructor
             · intro h; exact absurd h (List.lt_irrefl _)
             · intro h; rw [lt_irrefl'] at h; cases h
    | cons c t => exact ⟨fun _ => rfl, fun _ => List.nil_lt_cons ..⟩
  | cons c t ih =>
    cases b with
    | nil => exact ⟨fun h => absurd h (List.not_lt_nil _), fun h => by cases h⟩
    | cons d s => rw [List.cons_lt_cons_iff, lt_cons, ih]
theorem le_iff (a b : List UInt8) : a ≤ b ↔ ltK b a = false := by
  rw [← List.not_lt, lt_iff]; simp
theorem srt_sorted (xs : List (List UInt8)) : (xs.mergeSort fun x y => decide (x ≤ y)).Pairwise fun a b => ltK b a = false := by
  have h := List.pairwise_mergeSort (le := fun x y : List UInt8 => decide (x ≤ y)) (fun a b c h1 h2 => by
      have h1 := (le_iff a b).mp (of_decide_eq_true h1)
      have h2 := (le_iff b c).mp (of_decide_eq_true h2)
      refine decide_eq_true ((le_iff a c).mpr ?_)
      cases e : ltK c a with
      | false => rfl
      | true => have := lt_le_lt e h1; rw [h2] at this; cases this)
    (fun a b => by
      by_cases e : ltK b a = true
      · have : b ≤ a := (le_iff b a).mpr (by
          cases e2 : ltK a b with
          | false => rfl
          | true => have := lt_trans' e e2; rw [lt_irrefl'] at this; cases this)
        simp [this]
      · have : a ≤ b := (le_iff a b).mpr (by simpa using e)
        simp [this]) xs
  exact h.imp fun {a b} h => (le_iff a b).mp (of_decide_eq_true h)
theorem le_lt' {a b c : List UInt8} (h1 : ltK b a = false) (h2 : ltK b c = true) : ltK a c = true := by
  cases e : ltK a c with
  | true => rfl
  | false =>
    cases e2 : ltK c a with
    | true => have := lt_trans' h2 e2; rw [h1] at this; cases this
    | false => have := lt_tri e e2; subst this; rw [h1] at h2; cases h2
theorem arr_at {zs : List (List UInt8)} {m : Nat} {z : List UInt8} (h : zs[m]? = some z) : zs.toArray[m]! = z := by
  have hm := (List.getElem?_eq_some_iff.mp h).1
  rw [getElem!_pos zs.toArray m (by simpa using hm)]
  simpa [List.getElem?_eq_getElem hm] using h
theorem comp_inv (zs : List (List UInt8)) (hs : zs.Pairwise fun a b => ltK b a = false) : ∀ m, m ≤ zs.length → StrS (Lib.compactUpTo zs.toArray m) ∧ ∀ x, x ∈ Lib.compactUpTo zs.toArray m ↔ x ∈ zs.take m := by
  intro m
  induction m with
  | zero => intro _; exact ⟨List.Pairwise.nil, fun x => by simp [Lib.compactUpTo]⟩
  | succ m ih =>
    intro hm
    obtain ⟨h1, h2⟩ := ih (by omega)
    obtain ⟨z, hz⟩ : ∃ z, zs[m]? = some z := ⟨zs[m]'(by omega), by simp⟩
    have ez := arr_at hz
    rw [Lib.compactUpTo_succ, ez, take_more hz]
    cases m with
    | zero =>
      rw [if_pos (Lib.keeps_lt_one _ 0 (by omega))]
      exact ⟨by simp [Lib.compactUpTo, StrS], fun x => by simp [Lib.compactUpTo]⟩
    | succ j =>
      obtain ⟨y, hy⟩ : ∃ y, zs[j]? = some y := ⟨zs[j]'(by omega), by simp⟩
      have ey := arr_at hy
      have hle : ltK z y = false := by
        have := List.pairwise_iff_getElem.mp hs j (j + 1) (by omega) (by omega) (by omega)
        rw [List.getElem?_eq_getElem (by omega)] at hz hy
        rw [← Option.some.inj hz, ← Option.some.inj hy]; exact this
      by_cases hyz : y = z
      · have hk : Lib.keeps zs.toArray (j + 1) = false := Lib.keeps_neg (by omega) (by rw [ez, show j + 1 - 1 = j by omega, ey, hyz])
        rw [hk, if_neg (by simp), List.append_nil]
        refine ⟨h1, fun x => ?_⟩
        rw [h2, List.mem_append, List.mem_singleton]
        refine ⟨.inl, fun h => h.elim (fun h => h) (fun h => ?_)⟩
        subst h
        rw [take_more hy, hyz]; simp
      · have hk : Lib.keeps zs.toArray (j + 1) = true := Lib.keeps_pos (by rw [ez, show j + 1 - 1 = j by omega, ey]; exact fun e => hyz e.symm)
        rw [hk, if_pos rfl]
        have hlt : ltK y z = true := lt_tot hle (fun e => hyz e.symm)
        refine ⟨?_, fun x => by rw [List.mem_append, List.mem_append, h2]⟩
        refine List.pairwise_append.mpr ⟨h1, List.Pairwise.cons (fun b hb => by cases hb) List.Pairwise.nil, fun a ha b hb => ?_⟩
        rw [List.mem_singleton] at hb
        subst hb
        obtain ⟨i, hi⟩ := List.getElem?_of_mem ((h2 a).mp ha)
        have hij := (List.getElem?_eq_some_iff.mp hi).1
        rw [List.length_take] at hij
        rw [List.getElem?_take, if_pos (by omega)] at hi
        by_cases hji : i = j
        · subst hji
          rw [hy] at hi
          rw [← Option.some.inj hi]; exact hlt
        · have := List.pairwise_iff_getElem.mp hs i j (by omega) (by omega) (by omega)
          rw [List.getElem?_eq_getElem (by omega)] at hi hy
          rw [Option.some.inj hi, Option.some.inj hy] at this
          exact le_lt' this hlt
/-- However the names are put in order, the list is the same. -/
theorem names_same (xs : List (List UInt8)) : srtC xs = insL xs := by
  have hs := srt_sorted xs
  obtain ⟨h1, h2⟩ := comp_inv _ hs _ (Nat.le_refl _)
  refine str_ext _ _ h1 (insL_str xs) fun x => ?_
  rw [insL_mem]
  show x ∈ Lib.compactUpTo _ _ ↔ _
  rw [h2, List.take_length]
  exact (List.mergeSort_perm xs _).mem_iff
theorem insL_next (xs : List (List UInt8)) (x : List UInt8) : insL (xs ++ [x]) = insU x (insL xs) := by unfold insL; rw [List.foldl_append]; rfl
end Go.Proofs.YtbmbcdbldbjddaaGreatDoor
