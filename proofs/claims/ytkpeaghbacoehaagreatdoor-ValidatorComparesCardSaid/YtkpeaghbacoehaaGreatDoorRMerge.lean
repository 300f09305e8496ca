/- Plain mathematics of chapter 9: lists of ranges that neither overlap nor touch, and how they are joined; nothing of the program. -/
import Derived.Lib.Hide
namespace Go.Proofs.YtkpeaghbacoehaaGreatDoor

abbrev Rg := Int × Int
def inR (r : Rg) (i : Int) : Prop := r.1 ≤ i ∧ i < r.2
def hasR (l : List Rg) (i : Int) : Prop := ∃ r ∈ l, inR r i
/-- No range is empty; each begins behind the end of those before it, and does not touch it. -/
def Canon (l : List Rg) : Prop := (∀ r ∈ l, r.1 < r.2) ∧ l.Pairwise (fun a b => a.2 < b.1)
theorem Canon.nil : Canon [] := ⟨(fun _ h => by cases h), List.Pairwise.nil⟩
theorem Canon.tail {r : Rg} {l : List Rg} (h : Canon (r :: l)) : Canon l := ⟨fun q hq => h.1 q (by simp [hq]), h.2.tail⟩
theorem Canon.head {r q : Rg} {l : List Rg} (h : Canon (r :: l)) (hq : q ∈ l) : r.2 < q.1 := List.rel_of_pairwise_cons h.2 hq
theorem Canon.low {r : Rg} {l : List Rg} (h : Canon (r :: l)) {i : Int} (hi : hasR (r :: l) i) : r.1 ≤ i := by
  obtain ⟨q, hq, h1, h2⟩ := hi
  rcases List.mem_cons.mp hq with rfl | hq
  · exact h1
  · have := h.head hq; have := h.1 r (by simp); omega
theorem hasR_cons {r : Rg} {l : List Rg} {i : Int} : hasR (r :: l) i ↔ inR r i ∨ hasR l i := by simp [hasR]
theorem hasR_app {a b : List Rg} {i : Int} : hasR (a ++ b) i ↔ hasR a i ∨ hasR b i := by
  simp only [hasR, List.mem_append]
  constructor
  · rintro ⟨r, h | h, hi⟩
    · exact .inl ⟨r, h, hi⟩
    · exact .inr ⟨r, h, hi⟩
  · rintro (⟨r, h, hi⟩ | ⟨r, h, hi⟩)
    · exact ⟨r, .inl h, hi⟩
    · exact ⟨r, .inr h, hi⟩
theorem hasR_nil {i : Int} : ¬ hasR [] i := by simp [hasR]
theorem Canon.tail_low {r : Rg} {l : List Rg} (h : Canon (r :: l)) {i : Int} (hi : hasR l i) : r.2 < i := by
  obtain ⟨q, hq, h1, h2⟩ := hi
  have := h.head hq; omega
theorem canon_ends {r q : Rg} {a b : List Rg} (ha : Canon (r :: a)) (hb : Canon (q :: b)) (h : ∀ i, hasR (r :: a) i ↔ hasR (q :: b) i) (h1 : r.1 = q.1) : r.2 ≤ q.2 := by
  have hr := ha.1 r (by simp)
  have hq := hb.1 q (by simp)
  rcases Int.lt_or_le q.2 r.2 with hlt | hge
  · exfalso
    have h2 : hasR (q :: b) q.2 := (h q.2).mp ⟨r, by simp, by omega, by omega⟩
    rcases hasR_cons.mp h2 with h3 | h3
    · exact absurd h3.2 (by omega)
    · exact absurd (hb.tail_low h3) (by omega)
  · exact hge
/-- Two such lists with the same offsets are one list. -/
theorem canon_ext : ∀ {a b : List Rg}, Canon a → Canon b → (∀ i, hasR a i ↔ hasR b i) → a = b := by
  intro a
  induction a with
  | nil =>
    intro b _ hb h
    cases b with
    | nil => rfl
    | cons q b => exact absurd ((h q.1).mpr ⟨q, by simp, by omega, hb.1 q (by simp)⟩) hasR_nil
  | cons r a ih =>
    intro b ha hb h
    cases b with
    | nil => exact absurd ((h r.1).mp ⟨r, by simp, by omega, ha.1 r (by simp)⟩) hasR_nil
    | cons q b =>
      have hr := ha.1 r (by simp)
      have hq := hb.1 q (by simp)
      have e1 : r.1 = q.1 := by
        have h1 := hb.low ((h r.1).mp ⟨r, by simp, by omega, hr⟩)
        have h2 := ha.low ((h q.1).mpr ⟨q, by simp, by omega, hq⟩)
        omega
      have e2 : r.2 = q.2 := by
        have h1 := canon_ends ha hb h e1
        have h2 := canon_ends hb ha (fun i => (h i).symm) e1.symm
        omega
      have e : r = q := Prod.ext e1 e2
      subst e
      rw [ih ha.tail hb.tail fun i => ?_]
      constructor
      · intro hi
        have h2 := ha.tail_low hi
        rcases hasR_cons.mp ((h i).mp (hasR_cons.mpr (.inr hi))) with h3 | h3
        · exact absurd h3.2 (by omega)
        · exact h3
      · intro hi
        have h2 := hb.tail_low hi
        rcases hasR_cons.mp ((h i).mpr (hasR_cons.mpr (.inr hi))) with h3 | h3
        · exact absurd h3.2 (by omega)
        · exact h3
/-- Behind a list there comes a range that does not touch it. -/
theorem Canon.snoc {l : List Rg} {r : Rg} (h : Canon l) (hr : r.1 < r.2) (hl : ∀ q ∈ l, q.2 < r.1) : Canon (l ++ [r]) := by
  refine ⟨fun q hq => ?_, ?_⟩
  · rcases List.mem_append.mp hq with hq | hq
    · exact h.1 q hq
    · obtain rfl : q = r := by simpa using hq
      exact hr
  · rw [List.pairwise_append]
    refine ⟨h.2, by simp, fun a ha b hb => ?_⟩
    obtain rfl : b = r := by simpa using hb
    exact hl a ha
/-- The range m is the list of the offsets' join. -/
def Joins (m l : List Rg) : Prop := Canon m ∧ ∀ i, hasR m i ↔ hasR l i
theorem Joins.unique {a b l : List Rg} (h : Joins a l) (g : Joins b l) : a = b := canon_ext h.1 g.1 fun i => (h.2 i).trans (g.2 i).symm
theorem Joins.nil : Joins [] [] := ⟨.nil, fun _ => Iff.rfl⟩
theorem Joins.empty {m l : List Rg} {r : Rg} (h : Joins m l) (hr : r.2 ≤ r.1) : Joins m (l ++ [r]) := by
  refine ⟨h.1, fun i => ?_⟩
  rw [h.2, hasR_app]
  constructor
  · exact .inl
  · rintro (h | ⟨q, hq, h1, h2⟩)
    · exact h
    · obtain rfl : q = r := by simpa using hq
      omega
theorem Joins.perm {m l k : List Rg} (h : Joins m l) (hp : ∀ r, r ∈ l ↔ r ∈ k) : Joins m k := by
  refine ⟨h.1, fun i => (h.2 i).trans ?_⟩
  simp only [hasR, hp]
theorem Joins.self {m : List Rg} (h : Canon m) : Joins m m := ⟨h, fun _ => Iff.rfl⟩

/-! ### The program's way: the ranges in order of From -/
/-- What has been joined of ranges in order: the last one begins no later than what follows. -/
theorem Joins.grow {m l : List Rg} {q r : Rg} (h : Joins (m ++ [q]) l) (hr : r.1 < r.2) (h1 : q.1 ≤ r.1) (h2 : r.1 ≤ q.2) : Joins (m ++ [(q.1, max q.2 r.2)]) (l ++ [r]) := by
  have hq := h.1.1 q (by simp)
  have hm : Canon m := ⟨fun x hx => h.1.1 x (by simp [hx]), (List.pairwise_append.mp h.1.2).1⟩
  have hb : ∀ x ∈ m, x.2 < q.1 := fun x hx => (List.pairwise_append.mp h.1.2).2.2 x hx q (by simp)
  refine ⟨hm.snoc (by simp; omega) (by simpa using hb), fun i => ?_⟩
  have := h.2 i
  simp only [hasR_app, hasR_cons, hasR_nil, or_false, inR] at this ⊢
  rw [← this]
  constructor
  · rintro (h3 | ⟨h3, h4⟩)
    · exact .inl (.inl h3)
    · by_cases h5 : i < q.2
      · exact .inl (.inr ⟨h3, h5⟩)
      · exact .inr ⟨by omega, by omega⟩
  · rintro ((h3 | ⟨h3, h4⟩) | ⟨h3, h4⟩)
    · exact .inl h3
    · exact .inr ⟨h3, by omega⟩
    · exact .inr ⟨by omega, by omega⟩
theorem Joins.next {m l : List Rg} {r : Rg} (h : Joins m l) (hr : r.1 < r.2) (hl : ∀ q ∈ m, q.2 < r.1) : Joins (m ++ [r]) (l ++ [r]) := by
  refine ⟨h.1.snoc hr hl, fun i => ?_⟩
  rw [hasR_app, hasR_app, h.2]
theorem Canon.lasts {m : List Rg} {q : Rg} (h : Canon (m ++ [q])) : ∀ x ∈ m, x.2 < q.2 := by
  intro x hx
  have h1 := (List.pairwise_append.mp h.2).2.2 x hx q (by simp)
  have h2 := h.1 q (by simp)
  omega

/-! ### The reference's way: one range after the other is put into the list -/
/-- One range is put into the list: rest are those that it does not touch, r what it has become. -/
structure Put (p : List Rg) (r0 : Rg) (rest : List Rg) (r : Rg) : Prop where
  canon : Canon rest
  sub : ∀ q ∈ rest, q ∈ p
  ne : r.1 < r.2
  apart : ∀ q ∈ rest, q.2 < r.1 ∨ r.2 < q.1
  has : ∀ i, (hasR rest i ∨ inR r i) ↔ (hasR p i ∨ inR r0 i)
theorem Put.start {r : Rg} (h : r.1 < r.2) : Put [] r [] r := ⟨.nil, fun _ h => h, h, (fun _ h => by cases h), fun _ => Iff.rfl⟩
theorem Put.keep {p : List Rg} {r0 r q : Rg} {rest : List Rg} (h : Put p r0 rest r) (hc : Canon (p ++ [q])) (hq : q.2 < r.1 ∨ r.2 < q.1) : Put (p ++ [q]) r0 (rest ++ [q]) r := by
  have hq1 := hc.1 q (by simp)
  have hb : ∀ x ∈ p, x.2 < q.1 := fun x hx => (List.pairwise_append.mp hc.2).2.2 x hx q (by simp)
  refine ⟨h.canon.snoc hq1 fun x hx => hb x (h.sub x hx), ?_, h.ne, ?_, fun i => ?_⟩
  · intro x hx
    rcases List.mem_append.mp hx with hx | hx
    · exact List.mem_append.mpr (.inl (h.sub x hx))
    · exact List.mem_append.mpr (.inr hx)
  · intro x hx
    rcases List.mem_append.mp hx with hx | hx
    · exact h.apart x hx
    · obtain rfl : x = q := by simpa using hx
      exact hq
  · have := h.has i
    simp only [hasR_app]
    constructor
    · rintro ((h1 | h1) | h1)
      · rcases this.mp (.inl h1) with h2 | h2
        · exact .inl (.inl h2)
        · exact .inr h2
      · exact .inl (.inr h1)
      · rcases this.mp (.inr h1) with h2 | h2
        · exact .inl (.inl h2)
        · exact .inr h2
    · rintro ((h1 | h1) | h1)
      · rcases this.mpr (.inl h1) with h2 | h2
        · exact .inl (.inl h2)
        · exact .inr h2
      · exact .inl (.inr h1)
      · rcases this.mpr (.inr h1) with h2 | h2
        · exact .inl (.inl h2)
        · exact .inr h2
theorem Put.join {p : List Rg} {r0 r q : Rg} {rest : List Rg} (h : Put p r0 rest r) (hc : Canon (p ++ [q])) (h1 : r.1 ≤ q.2) (h2 : q.1 ≤ r.2) : Put (p ++ [q]) r0 rest (min r.1 q.1, max r.2 q.2) := by
  have hq1 := hc.1 q (by simp)
  have hr := h.ne
  have hb : ∀ x ∈ p, x.2 < q.1 := fun x hx => (List.pairwise_append.mp hc.2).2.2 x hx q (by simp)
  refine ⟨h.canon, fun x hx => List.mem_append.mpr (.inl (h.sub x hx)), by simp; omega, ?_, fun i => ?_⟩
  · intro x hx
    have h3 := hb x (h.sub x hx)
    have h5 := h.canon.1 x hx
    have h4 := h.apart x hx
    simp
    omega
  · have := h.has i
    have e : inR (min r.1 q.1, max r.2 q.2) i ↔ inR r i ∨ inR q i := by simp only [inR]; omega
    rw [e, hasR_app, hasR_cons]
    simp only [hasR_nil, or_false]
    constructor
    · rintro (h1 | h1 | h1)
      · rcases this.mp (.inl h1) with h2 | h2
        · exact .inl (.inl h2)
        · exact .inr h2
      · rcases this.mp (.inr h1) with h2 | h2
        · exact .inl (.inl h2)
        · exact .inr h2
      · exact .inl (.inr h1)
    · rintro ((h1 | h1) | h1)
      · rcases this.mpr (.inl h1) with h2 | h2
        · exact .inl h2
        · exact .inr (.inl h2)
      · exact .inr (.inr h1)
      · rcases this.mpr (.inr h1) with h2 | h2
        · exact .inl h2
        · exact .inr (.inl h2)
/-- The place of a range: those before it begin before it. -/
theorem Put.done {p l : List Rg} {r0 r : Rg} {rest a b : List Rg} (h : Put p r0 rest r) (hj : Joins p l) (he : rest = a ++ b) (ha : ∀ q ∈ a, q.1 < r.1) (hb : ∀ q, b.head? = some q → r.1 ≤ q.1) : Joins (a ++ [r] ++ b) (l ++ [r0]) := by
  subst he
  have hr := h.ne
  have hp := List.pairwise_append.mp h.canon.2
  have hA : ∀ q ∈ a, q.2 < r.1 := fun q hq => by
    have h1 := h.apart q (by simp [hq]); have h2 := ha q hq; omega
  have hB : ∀ q ∈ b, r.2 < q.1 := by
    intro q hq
    have h1 := h.apart q (by simp [hq])
    have h3 := h.canon.1 q (by simp [hq])
    have h2 : r.1 ≤ q.1 := by
      cases b with
      | nil => cases hq
      | cons x b =>
        have h0 := hb x rfl
        rcases List.mem_cons.mp hq with rfl | hq
        · exact h0
        · have h4 := List.rel_of_pairwise_cons hp.2.1 hq
          have h5 := h.canon.1 x (by simp)
          omega
    omega
  refine ⟨⟨fun q hq => ?_, ?_⟩, fun i => ?_⟩
  · simp only [List.mem_append, List.mem_singleton] at hq
    rcases hq with (hq | rfl) | hq
    · exact h.canon.1 q (by simp [hq])
    · exact hr
    · exact h.canon.1 q (by simp [hq])
  · rw [List.append_assoc, List.pairwise_append]
    refine ⟨hp.1, List.pairwise_cons.mpr ⟨hB, hp.2.1⟩, fun x hx y hy => ?_⟩
    rcases List.mem_cons.mp hy with rfl | hy
    · exact hA x hx
    · exact hp.2.2 x hx y hy
  · have := h.has i
    have hj' := hj.2 i
    simp only [hasR_app, hasR_cons, hasR_nil, or_false] at this ⊢
    rw [hj'] at this
    rw [← this]
    constructor
    · rintro ((h1 | h1) | h1)
      · exact .inl (.inl h1)
      · exact .inr h1
      · exact .inl (.inr h1)
    · rintro ((h1 | h1) | h1)
      · exact .inl (.inl h1)
      · exact .inr h1
      · exact .inl (.inr h1)
theorem canon_take {l : List Rg} (h : Canon l) (k : Nat) : Canon (l.take k) := ⟨fun q hq => h.1 q (List.mem_of_mem_take hq), h.2.sublist (List.take_sublist k l)⟩

/-! ### Cover -/
theorem Canon.cover {l : List Rg} (h : Canon l) (r : Rg) : (r.1 ≥ r.2 ∨ ∃ m ∈ l, m.1 ≤ r.1 ∧ r.2 ≤ m.2) ↔ ∀ i, inR r i → hasR l i := by
  constructor
  · rintro (h1 | ⟨m, hm, h1, h2⟩) i ⟨h3, h4⟩
    · omega
    · exact ⟨m, hm, by omega, by omega⟩
  · intro h1
    by_cases hr : r.1 < r.2
    · refine .inr ?_
      obtain ⟨m, hm, h2, h3⟩ := h1 r.1 ⟨by omega, hr⟩
      refine ⟨m, hm, h2, ?_⟩
      rcases Int.lt_or_le m.2 r.2 with h4 | h4
      · exfalso
        obtain ⟨x, hx, h5, h6⟩ := h1 m.2 ⟨by omega, h4⟩
        have hq := h.2
        obtain ⟨s, t, rfl⟩ := List.append_of_mem hm
        rcases List.mem_append.mp hx with hx | hx
        · have := (List.pairwise_append.mp hq).2.2 x hx m (by simp)
          have := h.1 m (by simp)
          omega
        · rcases List.mem_cons.mp hx with rfl | hx
          · omega
          · have := List.rel_of_pairwise_cons (List.pairwise_append.mp hq).2.1 hx
            omega
      · exact h4
    · exact .inl (by omega)
end Go.Proofs.YtkpeaghbacoehaaGreatDoor
