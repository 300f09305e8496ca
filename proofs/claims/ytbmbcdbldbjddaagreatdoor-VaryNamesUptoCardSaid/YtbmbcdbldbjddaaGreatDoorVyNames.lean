/- Plain mathematics: names in ascending order, each once: however they are put in order, the list is the same. -/
import Derived.Test.YtbmbcdbldbjddaaGreatDoorSortSpec
namespace Go.Proofs.YtbmbcdbldbjddaaGreatDoor

/-- A name put in its place, unless it is there. -/
def insU (x : List UInt8) : List (List UInt8) → List (List UInt8)
  | [] => [x]
  | a :: r => if ltK a x = true then a :: insU x r else if a = x then a :: r else x :: a :: r
def StrS (l : List (List UInt8)) : Prop := l.Pairwise fun a b => ltK a b = true
theorem insU_mem (x y : List UInt8) (l : List (List UInt8)) : y ∈ insU x l ↔ y = x ∨ y ∈ l := by
  induction l with
  | nil => simp [insU]
  | cons a r ih =>
    unfold insU
    by_cases h : ltK a x = true
    · rw [if_pos h, List.mem_cons, ih, List.mem_cons]
      constructor
      · rintro (e | e | e)
        · exact .inr (.inl e)
        · exact .inl e
        · exact .inr (.inr e)
      · rintro (e | e | e)
        · exact .inr (.inl e)
        · exact .inl e
        · exact .inr (.inr e)
    · rw [if_neg h]
      by_cases e : a = x
      · rw [if_pos e, e, List.mem_cons]
        constructor
        · rintro (z | z)
          · exact .inl z
          · exact .inr (.inr z)
        · rintro (z | z | z)
          · exact .inl z
          · exact .inl z
          · exact .inr z
      · rw [if_neg e, List.mem_cons]
theorem lt_tot {a b : List UInt8} (h : ltK a b = false) (hne : a ≠ b) : ltK b a = true := by
  cases e : ltK b a with
  | true => rfl
  | false => exact absurd (lt_tri h e) hne
theorem insU_str (x : List UInt8) (l : List (List UInt8)) (h : StrS l) : StrS (insU x l) := by
  induction l with
  | nil => exact List.Pairwise.cons (fun b hb => by cases hb) List.Pairwise.nil
  | cons a r ih =>
    obtain ⟨h1, h2⟩ := List.pairwise_cons.mp h
    unfold insU
    by_cases hl : ltK a x = true
    · rw [if_pos hl]
      refine List.Pairwise.cons (fun b hb => ?_) (ih h2)
      rcases (insU_mem x b r).mp hb with e | e
      · rw [e]; exact hl
      · exact h1 b e
    · rw [if_neg hl]
      by_cases e : a = x
      · rw [if_pos e]; exact h
      · rw [if_neg e]
        have hxa : ltK x a = true := lt_tot (by simpa using hl) e
        refine List.Pairwise.cons (fun b hb => ?_) h
        rcases List.mem_cons.mp hb with z | z
        · rw [z]; exact hxa
        · exact lt_trans' hxa (h1 b z)
/-- Two ascending lists of the same names are the same. -/
theorem str_ext : ∀ (l m : List (List UInt8)), StrS l → StrS m → (∀ x, x ∈ l ↔ x ∈ m) → l = m := by
  intro l
  induction l with
  | nil =>
    intro m _ _ h
    cases m with
    | nil => rfl
    | cons b s => have := (h b).mpr (List.mem_cons_self ..); cases this
  | cons a r ih =>
    intro m hl hm h
    obtain ⟨h1, h2⟩ := List.pairwise_cons.mp hl
    cases m with
    | nil => have := (h a).mp (List.mem_cons_self ..); cases this
    | cons b s =>
      obtain ⟨k1, k2⟩ := List.pairwise_cons.mp hm
      have hab : a = b := by
        rcases List.mem_cons.mp ((h a).mp (List.mem_cons_self ..)) with e | e
        · exact e
        · rcases List.mem_cons.mp ((h b).mpr (List.mem_cons_self ..)) with z | z
          · exact z.symm
          · have := lt_trans' (k1 a e) (h1 b z)
            rw [lt_irrefl'] at this; cases this
      subst hab
      have no : ∀ {q : List (List UInt8)}, (∀ x ∈ q, ltK a x = true) → a ∉ q := fun hq e => by
        have := hq a e
        rw [lt_irrefl'] at this; cases this
      refine congrArg (a :: ·) (ih s h2 k2 fun x => ?_)
      constructor
      · intro hx
        rcases List.mem_cons.mp ((h x).mp (List.mem_cons_of_mem _ hx)) with e | e
        · rw [e] at hx; exact absurd hx (no h1)
        · exact e
      · intro hx
        rcases List.mem_cons.mp ((h x).mpr (List.mem_cons_of_mem _ hx)) with e | e
        · rw [e] at hx; exact absurd hx (no k1)
        · exact e
/-- An ascending list without what stands twice in it. -/
def compL : List (List UInt8) → List (List UInt8)
  | [] => []
  | [a] => [a]
  | a :: b :: r => if a = b then compL (b :: r) else a :: compL (b :: r)
theorem compL_mem (x : List UInt8) : ∀ l : List (List UInt8), x ∈ compL l ↔ x ∈ l
  | [] => Iff.rfl
  | [a] => Iff.rfl
  | a :: b :: r => by
    have ih := compL_mem x (b :: r)
    unfold compL
    by_cases e : a = b
    · rw [if_pos e, ih, e]; simp
    · rw [if_neg e, List.mem_cons, ih, List.mem_cons (a := x) (b := a)]
theorem compL_str : ∀ l : List (List UInt8), (l.Pairwise fun a b => ltK b a = false) → StrS (compL l)
  | [], _ => List.Pairwise.nil
  | [a], _ => List.Pairwise.cons (fun b hb => by cases hb) List.Pairwise.nil
  | a :: b :: r, h => by
    obtain ⟨h1, h2⟩ := List.pairwise_cons.mp h
    obtain ⟨h3, _⟩ := List.pairwise_cons.mp h2
    have ih := compL_str (b :: r) h2
    unfold compL
    by_cases e : a = b
    · rw [if_pos e]; exact ih
    · rw [if_neg e]
      have hab : ltK a b = true := lt_tot (h1 b (List.mem_cons_self ..)) (fun x => e x.symm)
      refine List.Pairwise.cons (fun c hc => ?_) ih
      rcases List.mem_cons.mp ((compL_mem c (b :: r)).mp hc) with z | z
      · rw [z]; exact hab
      · exact lt_le_lt hab (h3 c z)
end Go.Proofs.YtbmbcdbldbjddaaGreatDoor
