import Derived.Lib.Hide
import Derived.Test.YtoiampkdmjpljaaGreatDoorPa2
import Derived.Test.YtoiampkdmjpljaaGreatDoorPa7
import Derived.Lib.ItoaMem
/- Plain mathematics of chapter 9: lists of ranges that neither overlap nor touch, and how they are joined; nothing of the program. -/
namespace Go.Proofs.YtoiampkdmjpljaaGreatDoor

abbrev Rg := Int × Int
def inR (r : Rg) (i : Int) : Prop := r.1 ≤ i ∧ i < r.2
def hasR (l : List Rg) (i : Int) : Prop := ∃ r ∈ l, inR r i
/-- No range is empty; each begins behind the end of those before it, and does not touch it. -/
def Canon (l : List Rg) : Prop := (∀ r ∈ l, r.1 < r.2) ∧ l.Pairwise (fun a b => a.2 < b.1)
theorem Canon.nil : Canon [] := ⟨(fun _ h => by cases h), List.Pairwise.nil⟩
theorem Canon.tail {r : Rg} {l : List Rg} (h : Canon (r :: l)) : Canon l := ⟨fun q hq => h.1 q (by simp [hq]), h.2.tail⟩
theorem Canon.head {r q : Rg} {l : List Rg} (h : Canon (r :: l)) (hq : q ∈ l) : r.2 < q.1 := List.rel_of_pairwise_cons h.2 hq
theorem Canon.low {r : Rg} {l : List Rg} (h : Canon (r :: l)) {i : Int} (hi : hasR (r :: l) i) : r.1 ≤ i := by
  obtain ⟨q, hq, h1, h2⟩ := hi
  rcases List.mem_cons.mp hq with rfl | hq
  · exact h1
  · have := h.head hq; have := h.1 r (by simp); omega
theorem hasR_cons {r : Rg} {l : List Rg} {i : Int} : hasR (r :: l) i ↔ inR r i ∨ hasR l i := by simp [hasR]
theorem hasR_app {a b : List Rg} {i : Int} : hasR (a ++ b) i ↔ hasR a i ∨ hasR b i := by
  simp only [hasR, List.mem_append]
  constructor
  · rintro ⟨r, h | h, hi⟩
    · exact .inl ⟨r, h, hi⟩
    · exact .inr ⟨r, h, hi⟩
  · rintro (⟨r, h, hi⟩ | ⟨r, h, hi⟩)
    · exact ⟨r, .inl h, hi⟩
    · exact ⟨r, .inr h, hi⟩
theorem hasR_nil {i : Int} : ¬ hasR [] i := by simp [hasR]
theorem Canon.tail_low {r : Rg} {l : List Rg} (h : Canon (r :: l)) {i : Int} (hi : hasR l i) : r.2 < i := by
  obtain ⟨q, hq, h1, h2⟩ := hi
  have := h.head hq; omega
theorem canon_ends {r q : Rg} {a b : List Rg} (ha : Canon (r :: a)) (hb : Canon (q :: b)) (h : ∀ i, hasR (r :: a) i ↔ hasR (q :: b) i) (h1 : r.1 = q.1) : r.2 ≤ q.2 := by
  have hr := ha.1 r (by simp)
  have hq := hb.1 q (by simp)
  rcases Int.lt_or_le q.2 r.2 with hlt | hge
  · exfalso
    have h2 : hasR (q :: b) q.2 := (h q.2).mp ⟨r, by simp, by omega, by omega⟩
    rcases hasR_cons.mp h2 with h3 | h3
    · exact absurd h3.2 (by omega)
    · exact absurd (hb.tail_low h3) (by omega)
  · exact hge
/-- Two such lists with the same offsets are one list. -/
theorem canon_ext : ∀ {a b : List Rg}, Canon a → Canon b → (∀ i, hasR a i ↔ hasR b i) → a = b := by
  intro a
  induction a with
  | nil =>
    intro b _ hb h
    cases b with
    | nil => rfl
    | cons q b => exact absurd ((h q.1).mpr ⟨q, by simp, by omega, hb.1 q (by simp)⟩) hasR_nil
  | cons r a ih =>
    intro b ha hb h
    cases b with
    | nil => exact absurd ((h r.1).mp ⟨r, by simp, by omega, ha.1 r (by simp)⟩) hasR_nil
    | cons q b =>
      have hr := ha.1 r (by simp)
      have hq := hb.1 q (by simp)
      have e1 : r.1 = q.1 := by
        have h1 := hb.low ((h r.1).mp ⟨r, by simp, by omega, hr⟩)
        have h2 := ha.low ((h q.1).mpr ⟨q, by simp, by omega, hq⟩)
        omega
      have e2 : r.2 = q.2 := by
        have h1 := canon_ends ha hb h e1
        have h2 := canon_ends hb ha (fun i => (h i).symm) e1.symm
        omega
      have e : r = q := Prod.ext e1 e2
      subst e
      rw [ih ha.tail hb.tail fun i => ?_]
      constructor
      · intro hi
        have h2 := ha.tail_low hi
        rcases hasR_cons.mp ((h i).mp (hasR_cons.mpr (.inr hi))) with h3 | h3
        · exact absurd h3.2 (by omega)
        · exact h3
      · intro hi
        have h2 := hb.tail_low hi
        rcases hasR_cons.mp ((h i).mpr (hasR_cons.mpr (.inr hi))) with h3 | h3
        · exact absurd h3.2 (by omega)
        · exact h3
/-- Behind a list there comes a range that does not touch it. -/
theorem Canon.snoc {l : List Rg} {r : Rg} (h : Canon l) (hr : r.1 < r.2) (hl : ∀ q ∈ l, q.2 < r.1) : Canon (l ++ [r]) := by
  refine ⟨fun q hq => ?_, ?_⟩
  · rcases List.mem_append.mp hq with hq | hq
    · exact h.1 q hq
    · obtain rfl : q = r := by simpa using hq
      exact hr
  · rw [List.pairwise_append]
    refine ⟨h.2, by simp, fun a ha b hb => ?_⟩
    obtain rfl : b = r := by simpa using hb
    exact hl a ha
/-- The range m is the list of the offsets' join. -/
def Joins (m l : List Rg) : Prop := Canon m ∧ ∀ i, hasR m i ↔ hasR l i
theorem Joins.unique {a b l : List Rg} (h : Joins a l) (g : Joins b l) : a = b := canon_ext h.1 g.1 fun i => (h.2 i).trans (g.2 i).symm
theorem Joins.nil : Joins [] [] := ⟨.nil, fun _ => Iff.rfl⟩
theorem Joins.empty {m l : List Rg} {r : Rg} (h : Joins m l) (hr : r.2 ≤ r.1) : Joins m (l ++ [r]) := by
  refine ⟨h.1, fun i => ?_⟩
  rw [h.2, hasR_app]
  constructor
  · exact .inl
  · rintro (h | ⟨q, hq, h1, h2⟩)
    · exact h
    · obtain rfl : q = r := by simpa using hq
      omega
theorem Joins.perm {m l k : List Rg} (h : Joins m l) (hp : ∀ r, r ∈ l ↔ r ∈ k) : Joins m k := by
  refine ⟨h.1, fun i => (h.2 i).trans ?_⟩
  simp only [hasR, hp]
theorem Joins.self {m : List Rg} (h : Canon m) : Joins m m := ⟨h, fun _ => Iff.rfl⟩

/-! ### The program's way: the ranges in order of From -/
/-- What has been joined of ranges in order: the last one begins no later than what follows. -/
theorem Joins.grow {m l : List Rg} {q r : Rg} (h : Joins (m ++ [q]) l) (hr : r.1 < r.2) (h1 : q.1 ≤ r.1) (h2 : r.1 ≤ q.2) : Joins (m ++ [(q.1, max q.2 r.2)]) (l ++ [r]) := by
  have hq := h.1.1 q (by simp)
  have hm : Canon m := ⟨fun x hx => h.1.1 x (by simp [hx]), (List.pairwise_append.mp h.1.2).1⟩
  have hb : ∀ x ∈ m, x.2 < q.1 := fun x hx => (List.pairwise_append.mp h.1.2).2.2 x hx q (by simp)
  refine ⟨hm.snoc (by simp; omega) (by simpa using hb), fun i => ?_⟩
  have := h.2 i
  simp only [hasR_app, hasR_cons, hasR_nil, or_false, inR] at this ⊢
  rw [← this]
  constructor
  · rintro (h3 | ⟨h3, h4⟩)
    · exact .inl (.inl h3)
    · by_cases h5 : i < q.2
      · exact .inl (.inr ⟨h3, h5⟩)
      · exact .inr ⟨by omega, by omega⟩
  · rintro ((h3 | ⟨h3, h4⟩) | ⟨h3, h4⟩)
    · exact .inl h3
    · exact .inr ⟨h3, by omega⟩
    · exact .inr ⟨by omega, by omega⟩
theorem Joins.next {m l : List Rg} {r : Rg} (h : Joins m l) (hr : r.1 < r.2) (hl : ∀ q ∈ m, q.2 < r.1) : Joins (m ++ [r]) (l ++ [r]) := by
  refine ⟨h.1.snoc hr hl, fun i => ?_⟩
  rw [hasR_app, hasR_app, h.2]
theorem Canon.lasts {m : List Rg} {q : Rg} (h : Canon (m ++ [q])) : ∀ x ∈ m, x.2 < q.2 := by
  intro x hx
  have h1 := (List.pairwise_append.mp h.2).2.2 x hx q (by simp)
  have h2 := h.1 q (by simp)
  omega

/-! ### The reference's way: one range after the other is put into the list -/
/-- One range is put into the list: rest are those that it does not touch, r what it has become. -/
structure Put (p : List Rg) (r0 : Rg) (rest : List Rg) (r : Rg) : Prop where
  canon : Canon rest
  sub : ∀ q ∈ rest, q ∈ p
  ne : r.1 < r.2
  apart : ∀ q ∈ rest, q.2 < r.1 ∨ r.2 < q.1
  has : ∀ i, (hasR rest i ∨ inR r i) ↔ (hasR p i ∨ inR r0 i)
theorem Put.start {r : Rg} (h : r.1 < r.2) : Put [] r [] r := ⟨.nil, fun _ h => h, h, (fun _ h => by cases h), fun _ => Iff.rfl⟩
theorem Put.keep {p : List Rg} {r0 r q : Rg} {rest : List Rg} (h : Put p r0 rest r) (hc : Canon (p ++ [q])) (hq : q.2 < r.1 ∨ r.2 < q.1) : Put (p ++ [q]) r0 (rest ++ [q]) r := by
  have hq1 := hc.1 q (by simp)
  have hb : ∀ x ∈ p, x.2 < q.1 := fun x hx => (List.pairwise_append.mp hc.2).2.2 x hx q (by simp)
  refine ⟨h.canon.snoc hq1 fun x hx => hb x (h.sub x hx), ?_, h.ne, ?_, fun i => ?_⟩
  · intro x hx
    rcases List.mem_append.mp hx with hx | hx
    · exact List.mem_append.mpr (.inl (h.sub x hx))
    · exact List.mem_append.mpr (.inr hx)
  · intro x hx
    rcases List.mem_append.mp hx with hx | hx
    · exact h.apart x hx
    · obtain rfl : x = q := by simpa using hx
      exact hq
  · have := h.has i
    simp only [hasR_app]
    constructor
    · rintro ((h1 | h1) | h1)
      · rcases this.mp (.inl h1) with h2 | h2
        · exact .inl (.inl h2)
        · exact .inr h2
      · exact .inl (.inr h1)
      · rcases this.mp (.inr h1) with h2 | h2
        · exact .inl (.inl h2)
        · exact .inr h2
    · rintro ((h1 | h1) | h1)
      · rcases this.mpr (.inl h1) with h2 | h2
        · exact .inl (.inl h2)
        · exact .inr h2
      · exact .inl (.inr h1)
      · rcases this.mpr (.inr h1) with h2 | h2
        · exact .inl (.inl h2)
        · exact .inr h2
theorem Put.join {p : List Rg} {r0 r q : Rg} {rest : List Rg} (h : Put p r0 rest r) (hc : Canon (p ++ [q])) (h1 : r.1 ≤ q.2) (h2 : q.1 ≤ r.2) : Put (p ++ [q]) r0 rest (min r.1 q.1, max r.2 q.2) := by
  have hq1 := hc.1 q (by simp)
  have hr := h.ne
  have hb : ∀ x ∈ p, x.2 < q.1 := fun x hx => (List.pairwise_append.mp hc.2).2.2 x hx q (by simp)
  refine ⟨h.canon, fun x hx => List.mem_append.mpr (.inl (h.sub x hx)), by simp; omega, ?_, fun i => ?_⟩
  · intro x hx
    have h3 := hb x (h.sub x hx)
    have h5 := h.canon.1 x hx
    have h4 := h.apart x hx
    simp
    omega
  · have := h.has i
    have e : inR (min r.1 q.1, max r.2 q.2) i ↔ inR r i ∨ inR q i := by simp only [inR]; omega
    rw [e, hasR_app, hasR_cons]
    simp only [hasR_nil, or_false]
    constructor
    · rintro (h1 | h1 | h1)
      · rcases this.mp (.inl h1) with h2 | h2
        · exact .inl (.inl h2)
        · exact .inr h2
      · rcases this.mp (.inr h1) with h2 | h2
        · exact .inl (.inl h2)
        · exact .inr h2
      · exact .inl (.inr h1)
    · rintro ((h1 | h1) | h1)
      · rcases this.mpr (.inl h1) with h2 | h2
        · exact .inl h2
        · exact .inr (.inl h2)
      · exact .inr (.inr h1)
      · rcases this.mpr (.inr h1) with h2 | h2
        · exact .inl h2
        · exact .inr (.inl h2)
/-- The place of a range: those before it begin before it. -/
theorem Put.done {p l : List Rg} {r0 r : Rg} {rest a b : List Rg} (h : Put p r0 rest r) (hj : Joins p l) (he : rest = a ++ b) (ha : ∀ q ∈ a, q.1 < r.1) (hb : ∀ q, b.head? = some q → r.1 ≤ q.1) : Joins (a ++ [r] ++ b) (l ++ [r0]) := by
  subst he
  have hr := h.ne
  have hp := List.pairwise_append.mp h.canon.2
  have hA : ∀ q ∈ a, q.2 < r.1 := fun q hq => by
    have h1 := h.apart q (by simp [hq]); have h2 := ha q hq; omega
  have hB : ∀ q ∈ b, r.2 < q.1 := by
    intro q hq
    have h1 := h.apart q (by simp [hq])
    have h3 := h.canon.1 q (by simp [hq])
    have h2 : r.1 ≤ q.1 := by
      cases b with
      | nil => cases hq
      | cons x b =>
        have h0 := hb x rfl
        rcases List.mem_cons.mp hq with rfl | hq
        · exact h0
        · have h4 := List.rel_of_pairwise_cons hp.2.1 hq
          have h5 := h.canon.1 x (by simp)
          omega
    omega
  refine ⟨⟨fun q hq => ?_, ?_⟩, fun i => ?_⟩
  · simp only [List.mem_append, List.mem_singleton] at hq
    rcases hq with (hq | rfl) | hq
    · exact h.canon.1 q (by simp [hq])
    · exact hr
    · exact h.canon.1 q (by simp [hq])
  · rw [List.append_assoc, List.pairwise_append]
    refine ⟨hp.1, List.pairwise_cons.mpr ⟨hB, hp.2.1⟩, fun x hx y hy => ?_⟩
    rcases List.mem_cons.mp hy with rfl | hy
    · exact hA x hx
    · exact hp.2.2 x hx y hy
  · have := h.has i
    have hj' := hj.2 i
    simp only [hasR_app, hasR_cons, hasR_nil, or_false] at this ⊢
    rw [hj'] at this
    rw [← this]
    constructor
    · rintro ((h1 | h1) | h1)
      · exact .inl (.inl h1)
      · exact .inr h1
      · exact .inl (.inr h1)
    · rintro ((h1 | h1) | h1)
      · exact .inl (.inl h1)
      · exact .inr h1
      · exact .inl (.inr h1)
theorem canon_take {l : List Rg} (h : Canon l) (k : Nat) : Canon (l.take k) := ⟨fun q hq => h.1 q (List.mem_of_mem_take hq), h.2.sublist (List.take_sublist k l)⟩

/-! ### Cover -/
theorem Canon.cover {l : List Rg} (h : Canon l) (r : Rg) : (r.1 ≥ r.2 ∨ ∃ m ∈ l, m.1 ≤ r.1 ∧ r.2 ≤ m.2) ↔ ∀ i, inR r i → hasR l i := by
  constructor
  · rintro (h1 | ⟨m, hm, h1, h2⟩) i ⟨h3, h4⟩
    · omega
    · exact ⟨m, hm, by omega, by omega⟩
  · intro h1
    by_cases hr : r.1 < r.2
    · refine .inr ?_
      obtain ⟨m, hm, h2, h3⟩ := h1 r.1 ⟨by omega, hr⟩
      refine ⟨m, hm, h2, ?_⟩
      rcases Int.lt_or_le m.2 r.2 with h4 | h4
      · exfalso
        obtain ⟨x, hx, h5, h6⟩ := h1 m.2 ⟨by omega, h4⟩
        have hq := h.2
        obtain ⟨s, t, rfl⟩ := List.append_of_mem hm
        rcases List.mem_append.mp hx with hx | hx
        · have := (List.pairwise_append.mp hq).2.2 x hx m (by simp)
          have := h.1 m (by simp)
          omega
        · rcases List.mem_cons.mp hx with rfl | hx
          · omega
          · have := List.rel_of_pairwise_cons (List.pairwise_append.mp hq).2.1 hx
            omega
      · exact h4
    · exact .inl (by omega)
end Go.Proofs.YtoiampkdmjpljaaGreatDoor

/- Plain mathematics of chapter 9: numbers, the elements of a Range field, its ranges, and the texts that Format and ContentRange write. -/
namespace Go.Proofs.YtoiampkdmjpljaaGreatDoor

def cut9 (c : UInt8) : List UInt8 → List UInt8 × List UInt8 × Bool
  | [] => ([], [], false)
  | x :: t => if x = c then ([], t, true) else (x :: (cut9 c t).1, (cut9 c t).2.1, (cut9 c t).2.2)
theorem ridx_sep (c : UInt8) (t : List UInt8) : Lib.index (c :: t) [c] = 0 := by unfold Lib.index; simp [List.isPrefixOf]
theorem ridx_ne {c x : UInt8} (h : x ≠ c) (t : List UInt8) : Lib.index (x :: t) [c] = if Lib.index t [c] == -1 then -1 else Lib.index t [c] + 1 := by
  rw [Lib.index, if_neg (by simp [List.isPrefixOf]; exact fun e => h e.symm)]
theorem cut_cut9 (c : UInt8) : ∀ l : List UInt8, Lib.cut l [c] = cut9 c l := by
  intro l
  induction l with
  | nil => rfl
  | cons x t ih =>
    by_cases hx : x = c
    · subst hx
      unfold Lib.cut; rw [ridx_sep]; simp [cut9]
    · rw [cut9, if_neg hx, ← ih]
      have hge := Lib.index_ge t [c]
      by_cases hi : Lib.index t [c] = -1
      · unfold Lib.cut
        rw [ridx_ne hx, hi]; rfl
      · obtain ⟨i, hi'⟩ : ∃ i : Nat, Lib.index t [c] = i := ⟨(Lib.index t [c]).toNat, by omega⟩
        have e1 : (Lib.index t [c] == -1) = false := by simpa using hi
        have e2 : Lib.index (x :: t) [c] = ((i + 1 : Nat) : Int) := by rw [ridx_ne hx, e1, hi']; simp
        unfold Lib.cut
        rw [e2, hi', if_pos (by omega), if_pos (by omega)]
        simp only [Int.toNat_natCast, List.length_singleton, List.take_succ_cons, List.drop_succ_cons]
theorem cut9_len (c : UInt8) : ∀ l : List UInt8, (cut9 c l).1.length ≤ l.length ∧ (cut9 c l).2.1.length ≤ l.length := by
  intro l
  induction l with
  | nil => exact ⟨Nat.le_refl _, Nat.le_refl _⟩
  | cons x t ih =>
    unfold cut9
    split
    · simp
    · simp; omega
/-- The first byte of a kind at place k. -/
theorem cut9_at (c : UInt8) : ∀ (l : List UInt8) (k : Nat), (h : k < l.length) → c ∉ l.take k → l[k] = c → cut9 c l = (l.take k, l.drop (k + 1), true) := by
  intro l
  induction l with
  | nil => intro k h; simp at h
  | cons x t ih =>
    intro k h hn hc
    cases k with
    | zero => simp at hc; simp [cut9, hc]
    | succ k =>
      simp at hn hc h
      have := ih k h hn.2 hc
      simp [cut9, this, Ne.symm hn.1]
theorem cut9_none (c : UInt8) : ∀ l : List UInt8, c ∉ l → cut9 c l = (l, [], false) := by
  intro l
  induction l with
  | nil => intro _; rfl
  | cons x t ih =>
    intro h
    simp at h
    simp [cut9, ih h.2, Ne.symm h.1]
theorem cut9_app (c : UInt8) (a b : List UInt8) (h : c ∉ a) : cut9 c (a ++ c :: b) = (a, b, true) := by
  have := cut9_at c (a ++ c :: b) a.length (by simp) (by simpa using h) (by simp)
  simpa using this

/-! ### Numbers -/
def num9 (l : List UInt8) : Option Nat := if l ≠ [] ∧ l.all digB = true ∧ l.length ≤ 15 then some (numV l) else none
theorem num9_lt {l : List UInt8} {n : Nat} (h : num9 l = some n) : n < 1000000000000000 := by
  unfold num9 at h
  split at h
  · rename_i hc
    have := numV_le l hc.2.1 hc.2.2
    simp at h; omega
  · cases h
theorem digB_dec (k : Nat) (h : k < 10) : digB (UInt8.ofNat (48 + k)) = true ∧ (UInt8.ofNat (48 + k)).toNat - 48 = k := by
  have e : (UInt8.ofNat (48 + k)).toNat = 48 + k := by simp; omega
  unfold digB
  rw [e]; simp; omega
theorem dec_digs (n : Nat) : (Lib.decDigits n).all digB = true ∧ numV (Lib.decDigits n) = n := by
  induction n using Nat.strongRecOn with
  | _ n ih =>
    rw [Lib.decDigits]
    split
    · rename_i h
      have := digB_dec n h
      exact ⟨by rw [List.all_cons, this.1]; rfl, by show 10 * 0 + _ = n; rw [this.2]; omega⟩
    · rename_i h
      have h1 := ih (n / 10) (by omega)
      have h2 := digB_dec (n % 10) (by omega)
      rw [List.all_append, h1.1, numV_snoc, h1.2, h2.2, List.all_cons, h2.1]
      exact ⟨rfl, by omega⟩
theorem dec_ne (n : Nat) : Lib.decDigits n ≠ [] := by
  rw [Lib.decDigits]; split <;> simp
theorem dec_len (n : Nat) (h : n < 1000000000000000) : (Lib.decDigits n).length ≤ 15 := by
  rw [Lib.decDigits_length]
  rcases Nat.lt_or_ge 15 (Lib.nDigits n) with h1 | h1
  · exfalso
    have h2 : ∀ (k m : Nat), k < Lib.nDigits m → 10 ^ k ≤ m ∨ k = 0 := by
      intro k
      induction k with
      | zero => intro m _; exact .inr rfl
      | succ k ih =>
        intro m hm
        by_cases h10 : m < 10
        · rw [Lib.nDigits_small h10] at hm; omega
        · rw [Lib.nDigits_big h10] at hm
          rcases ih (m / 10) (by omega) with h3 | rfl
          · refine .inl ?_
            rw [Nat.pow_succ]; omega
          · refine .inl ?_
            show 10 ^ 1 ≤ m
            omega
    rcases h2 15 n h1 with h3 | h3
    · have : (10 : Nat) ^ 15 = 1000000000000000 := by decide
      omega
    · omega
  · exact h1
theorem num9_dec (n : Nat) (h : n < 1000000000000000) : num9 (Lib.decDigits n) = some n := by
  unfold num9
  rw [if_pos ⟨dec_ne n, (dec_digs n).1, dec_len n h⟩, (dec_digs n).2]
theorem dec_not {c : UInt8} (n : Nat) (h : digB c = false) : c ∉ Lib.decDigits n := by
  intro hc
  have := List.all_eq_true.mp (dec_digs n).1 c hc
  rw [this] at h; cases h

/-! ### Elements -/
/-- The range of an element, for a body of the length n (not less than 0), before it is cut to the length. -/
def elemR (l : List UInt8) (n : Int) : Option Rg :=
  match cut9 45 l with
  | (a, b, f) =>
    if f = true then
      if a = [] then (num9 b).map fun y : Nat => ((n - (y : Int), n) : Rg)
      else if b = [] then (num9 a).map fun x : Nat => (((x : Int), n) : Rg)
      else match num9 a, num9 b with
        | some x, some y => if y < x then none else some ((x : Int), (y : Int) + 1)
        | _, _ => none
    else none
def withinR (r : Rg) (n : Int) : Rg := (max r.1 0, min r.2 n)
def keepR (n : Int) (l : List Rg) : List Rg := (l.map (withinR · n)).filter fun r => decide (r.1 < r.2)
/-- The ranges of the elements, as far as they are read: none if one is malformed. -/
def elemsR (n : Int) : List (List UInt8) → Option (List Rg)
  | [] => some []
  | l :: t => match elemR l n with
    | none => none
    | some r => (elemsR n t).map fun rs => if (withinR r n).1 < (withinR r n).2 then withinR r n :: rs else rs
def preB : List UInt8 := [98, 121, 116, 101, 115, 61]
inductive PR where
  | err (c : Nat)
  | ok (l : List Rg)
/-- What Parse makes of a text. -/
def parseR (l : List UInt8) (n : Int) : PR :=
  if preB.isPrefixOf l = true then
    match listO (l.drop 6) with
    | none => .err 2
    | some [] => .err 2
    | some (x :: xs) => match elemsR (max n 0) (x :: xs) with
      | none => .err 2
      | some rs => if 8 < (x :: xs).length then .err 5 else if rs = [] then .err 1 else .ok rs
  else .err 2
/-- After some elements: the rest decides. -/
theorem elemsR_app (n : Int) : ∀ a b : List (List UInt8), elemsR n (a ++ b) = match elemsR n a with | none => none | some ra => (elemsR n b).map (ra ++ ·) := by
  intro a
  induction a with
  | nil => intro b; simp [elemsR]
  | cons l t ih =>
    intro b
    show (match elemR l n with | none => none | some r => (elemsR n (t ++ b)).map fun rs => if (withinR r n).1 < (withinR r n).2 then withinR r n :: rs else rs) = match (match elemR l n with | none => none | some r => (elemsR n t).map fun rs => if (withinR r n).1 < (withinR r n).2 then withinR r n :: rs else rs) with | none => none | some ra => (elemsR n b).map (ra ++ ·)
    rw [ih b]
    cases elemR l n with
    | none => rfl
    | some r =>
      cases elemsR n t with
      | none => rfl
      | some rs =>
        cases elemsR n b with
        | none => rfl
        | some qs =>
          simp only [Option.map_some]
          split <;> simp
theorem elemsR_len (n : Int) : ∀ (a : List (List UInt8)) (rs : List Rg), elemsR n a = some rs → rs.length ≤ a.length := by
  intro a
  induction a with
  | nil => intro rs h; simp [elemsR] at h; simp [← h]
  | cons l t ih =>
    intro rs h
    unfold elemsR at h
    split at h
    · cases h
    · cases hr : elemsR n t with
      | none => rw [hr] at h; cases h
      | some qs =>
        rw [hr] at h
        have := ih qs hr
        simp only [Option.map_some, Option.some.injEq] at h
        subst h
        split <;> simp <;> omega
/-- What has been read of the elements before k. -/
def upTo (n : Int) (ls : List (List UInt8)) (k : Nat) (rs : List Rg) : Prop := elemsR n (ls.take k) = some rs
theorem upTo0 (n : Int) (ls : List (List UInt8)) : upTo n ls 0 [] := rfl
theorem upTo_one {n : Int} {ls : List (List UInt8)} {k : Nat} {rs : List Rg} {l : List UInt8} (h : upTo n ls k rs) (hl : ls[k]? = some l) {r : Rg} (hr : elemR l n = some r) :
    upTo n ls (k + 1) (if (withinR r n).1 < (withinR r n).2 then rs ++ [withinR r n] else rs) := by
  unfold upTo at *
  rw [List.take_add_one, hl, elemsR_app, h]
  simp only [Option.toList_some, elemsR, hr, Option.map_some]
  split <;> simp
theorem upTo_bad {n : Int} {ls : List (List UInt8)} {k : Nat} {rs : List Rg} {l : List UInt8} (h : upTo n ls k rs) (hl : ls[k]? = some l) (hr : elemR l n = none) : elemsR n ls = none := by
  unfold upTo at *
  have hk : k < ls.length := (List.getElem?_eq_some_iff.mp hl).1
  have e : ls = ls.take k ++ (l :: ls.drop (k + 1)) := by
    have h1 := List.take_append_drop k ls
    rw [List.drop_eq_getElem_cons hk] at h1
    have h2 : ls[k] = l := (List.getElem?_eq_some_iff.mp hl).2
    rw [h2] at h1; exact h1.symm
  rw [e, elemsR_app, h]
  simp [elemsR, hr]
theorem upTo_all {n : Int} {ls : List (List UInt8)} {k : Nat} {rs : List Rg} (h : upTo n ls k rs) (hk : ls.length ≤ k) : elemsR n ls = some rs := by
  unfold upTo at h; rwa [List.take_of_length_le hk] at h
theorem elemR_bd {l : List UInt8} {n : Int} {r : Rg} (h : elemR l n = some r) (hn : 0 ≤ n) (hn2 : n ≤ 9223372036854775807) : -1000000000000000 ≤ r.1 ∧ r.1 ≤ 9223372036854775807 ∧ r.2 ≤ 9223372036854775807 ∧ 0 ≤ r.2 := by
  unfold elemR at h
  generalize cut9 45 l = q at h
  obtain ⟨a, b, f⟩ := q
  simp only at h
  split at h
  · split at h
    · cases hb : num9 b with
      | none => rw [hb] at h; cases h
      | some y => rw [hb] at h; have := num9_lt hb; simp at h; subst h; simp; omega
    · split at h
      · cases ha : num9 a with
        | none => rw [ha] at h; cases h
        | some y => rw [ha] at h; have := num9_lt ha; simp at h; subst h; simp; omega
      · split at h
        · rename_i x y hx hy
          have := num9_lt hx; have := num9_lt hy
          split at h
          · cases h
          · simp at h; subst h; simp; omega
        · cases h
  · cases h

/-! ### Texts -/
def properR (r : Rg) : Prop := 0 ≤ r.1 ∧ r.1 < r.2 ∧ r.2 ≤ 999999999999999
instance (r : Rg) : Decidable (properR r) := by unfold properR; infer_instance
def decT (n : Int) : List UInt8 := Lib.decDigits n.toNat
def textR (r : Rg) : List UInt8 := decT r.1 ++ 45 :: decT (r.2 - 1)
def formR : List Rg → List UInt8
  | [] => []
  | [r] => textR r
  | r :: q :: t => textR r ++ 44 :: formR (q :: t)
def fmtR (l : List Rg) : Option (List UInt8) := if l ≠ [] ∧ ∀ r ∈ l, properR r then some (preB ++ formR l) else none
def crR (r : Rg) (n : Int) : Option (List UInt8) := if properR r ∧ r.2 ≤ n ∧ n ≤ 999999999999999 then some ([98, 121, 116, 101, 115, 32] ++ textR r ++ 47 :: decT n) else none
theorem text_elem {r : Rg} (h : properR r) (n : Int) : elemR (textR r) n = some r := by
  obtain ⟨h1, h2, h3⟩ := h
  have e : cut9 45 (textR r) = (decT r.1, decT (r.2 - 1), true) := cut9_app 45 _ _ (dec_not _ (by decide))
  unfold elemR
  rw [e]
  have n1 : num9 (decT r.1) = some r.1.toNat := num9_dec _ (by omega)
  have n2 : num9 (decT (r.2 - 1)) = some (r.2 - 1).toNat := num9_dec _ (by omega)
  simp only [if_true]
  rw [if_neg (show ¬ decT r.1 = [] from dec_ne _), if_neg (show ¬ decT (r.2 - 1) = [] from dec_ne _), n1, n2]
  simp only
  rw [if_neg (by omega)]
  congr 1
  exact Prod.ext (by simp; omega) (by simp; omega)
end Go.Proofs.YtoiampkdmjpljaaGreatDoor

/- Plain mathematics of chapter 10: the texts of entity tags; a list of them, divided at the commas outside quotes, and what the same list is when it is read from the left. -/
namespace Go.Proofs.YtoiampkdmjpljaaGreatDoor

abbrev Tg := Bool × List UInt8
def txtC (c : UInt8) : Bool := decide (32 < c.toNat) && c != 34 && c != 127
def txtB (l : List UInt8) : Bool := l.all txtC
def wkL (l : List UInt8) : Bool := [87, 47].isPrefixOf l
def unwL (l : List UInt8) : List UInt8 := if wkL l then l.drop 2 else l
def qtL (l : List UInt8) : Bool := [34].isPrefixOf l
def unqL (l : List UInt8) : List UInt8 := if qtL l then l.drop 1 else l
/-- The tag with whose text a text begins, and what follows. -/
def cutTL (l : List UInt8) : Option (Tg × List UInt8) :=
  if qtL (unwL l) = true ∧ (cut9 34 (unqL (unwL l))).2.2 = true ∧ txtB (cut9 34 (unqL (unwL l))).1 = true then some ((wkL l, (cut9 34 (unqL (unwL l))).1), (cut9 34 (unqL (unwL l))).2.1) else none
/-- The text of a tag. -/
def texL (t : Tg) : List UInt8 := (if t.1 then [87, 47] else []) ++ 34 :: (t.2 ++ [34])
def readTL (l : List UInt8) : Option Tg := match cutTL l with
  | some (t, r) => if r = [] then some t else none
  | none => none

theorem cut9_inv (c : UInt8) : ∀ l : List UInt8, (cut9 c l).2.2 = true → l = (cut9 c l).1 ++ c :: (cut9 c l).2.1 := by
  intro l
  induction l with
  | nil => intro h; simp [cut9] at h
  | cons x t ih =>
    intro h
    by_cases hx : x = c
    · subst hx; simp [cut9]
    · rw [cut9, if_neg hx] at h ⊢
      simp only [List.cons_append, List.cons.injEq, true_and]
      exact ih h
theorem wk_cases (l : List UInt8) : (∃ t, l = 87 :: 47 :: t ∧ wkL l = true ∧ unwL l = t) ∨ (wkL l = false ∧ unwL l = l) := by
  cases h : wkL l with
  | false => exact .inr ⟨rfl, by unfold unwL; rw [h]; rfl⟩
  | true =>
    refine .inl ?_
    have h2 := h
    unfold wkL at h2
    obtain ⟨t, rfl⟩ := List.isPrefixOf_iff_prefix.mp h2
    exact ⟨t, rfl, rfl, by unfold unwL; rw [h]; rfl⟩
theorem qt_cases (l : List UInt8) : (∃ t, l = 34 :: t ∧ qtL l = true ∧ unqL l = t) ∨ (qtL l = false ∧ unqL l = l) := by
  cases h : qtL l with
  | false => exact .inr ⟨rfl, by unfold unqL; rw [h]; rfl⟩
  | true =>
    refine .inl ?_
    have h2 := h
    unfold qtL at h2
    obtain ⟨t, rfl⟩ := List.isPrefixOf_iff_prefix.mp h2
    exact ⟨t, rfl, rfl, by unfold unqL; rw [h]; rfl⟩
theorem txt_not {l : List UInt8} (h : txtB l = true) : (34 : UInt8) ∉ l := fun hm => by
  have := List.all_eq_true.mp h _ hm
  revert this; decide
theorem cutTL_some {l : List UInt8} {t : Tg} {r : List UInt8} (h : cutTL l = some (t, r)) : txtB t.2 = true ∧ l = texL t ++ r := by
  unfold cutTL at h
  split at h
  · rename_i hc
    obtain ⟨h1, h2, h3⟩ := hc
    simp only [Option.some.injEq, Prod.mk.injEq] at h
    obtain ⟨rfl, rfl⟩ := h
    refine ⟨h3, ?_⟩
    have e := cut9_inv 34 _ h2
    rcases qt_cases (unwL l) with ⟨t, ht, _, hu⟩ | ⟨hf, _⟩
    · rw [hu] at e
      rcases wk_cases l with ⟨x, hx, hw, hux⟩ | ⟨hw, hux⟩
      · rw [hux] at ht
        show l = (if wkL l = true then [87, 47] else []) ++ 34 :: (_ ++ [34]) ++ _
        rw [hw, if_pos rfl]
        conv => lhs; rw [hx, ht, e]
        rw [hu]; simp
      · rw [hux] at ht
        show l = (if wkL l = true then [87, 47] else []) ++ 34 :: (_ ++ [34]) ++ _
        rw [hw, if_neg (by simp)]
        conv => lhs; rw [ht, e]
        rw [hu]; simp
    · rw [hf] at h1; cases h1
  · cases h
theorem cutTL_tex (t : Tg) (r : List UInt8) (h : txtB t.2 = true) : cutTL (texL t ++ r) = some (t, r) := by
  obtain ⟨k, a⟩ := t
  have hn := txt_not h
  have e2 : cut9 34 (a ++ 34 :: r) = (a, r, true) := cut9_app 34 _ _ hn
  have hq : qtL (34 :: (a ++ 34 :: r)) = true := rfl
  have hu : unqL (34 :: (a ++ 34 :: r)) = a ++ 34 :: r := rfl
  cases k with
  | true =>
    have e : texL (true, a) ++ r = 87 :: 47 :: 34 :: (a ++ 34 :: r) := by simp [texL]
    have hw : wkL (87 :: 47 :: 34 :: (a ++ 34 :: r)) = true := rfl
    have hx : unwL (87 :: 47 :: 34 :: (a ++ 34 :: r)) = 34 :: (a ++ 34 :: r) := rfl
    rw [e]; unfold cutTL
    rw [hx, hq, hu, e2, hw]
    simp only [true_and]
    rw [if_pos h]
  | false =>
    have e : texL (false, a) ++ r = 34 :: (a ++ 34 :: r) := by simp [texL]
    have hw : wkL (34 :: (a ++ 34 :: r)) = false := rfl
    have hx : unwL (34 :: (a ++ 34 :: r)) = 34 :: (a ++ 34 :: r) := rfl
    rw [e]; unfold cutTL
    rw [hx, hq, hu, e2, hw]
    simp only [true_and]
    rw [if_pos h]
theorem readTL_some {l : List UInt8} {t : Tg} (h : readTL l = some t) : txtB t.2 = true ∧ l = texL t := by
  unfold readTL at h
  cases hc : cutTL l with
  | none => rw [hc] at h; cases h
  | some p =>
    obtain ⟨t', r⟩ := p
    rw [hc] at h
    simp only at h
    split at h
    · rename_i hr
      subst hr
      cases h
      have := cutTL_some hc
      simpa using this
    · cases h
theorem readTL_tex (t : Tg) (h : txtB t.2 = true) : readTL (texL t) = some t := by
  have := cutTL_tex t [] h
  rw [List.append_nil] at this
  unfold readTL; rw [this]; rfl
theorem readTL_more (t : Tg) {r : List UInt8} (h : txtB t.2 = true) (hr : r ≠ []) : readTL (texL t ++ r) = none := by
  unfold readTL; rw [cutTL_tex t r h]; simp only; rw [if_neg hr]

/-- One part of a list: nothing, a tag, or a fault. -/
def addT (cur : List UInt8) (acc : List Tg) : Option (List Tg) :=
  if trimB cur = [] then some acc else (readTL (trimB cur)).map fun t => acc ++ [t]
def finT (acc : List Tg) : Option (List Tg) := if acc = [] then none else some acc
/-- The tags of a list, divided at its commas outside quotes; cur: the part so far. -/
def lstG : List UInt8 → Bool → List UInt8 → List Tg → Option (List Tg)
  | cur, _, [], acc => (addT cur acc).bind finT
  | cur, q, c :: l, acc =>
    if (if c = 34 then !q else q) = true ∨ c ≠ 44 then lstG (cur ++ [c]) (if c = 34 then !q else q) l acc
    else (addT cur acc).bind fun acc' => lstG [] (if c = 34 then !q else q) l acc'
def lstL (l : List UInt8) (acc : List Tg) : Option (List Tg) := lstG [] false l acc
theorem lstG_end (cur : List UInt8) (q : Bool) (acc : List Tg) : lstG cur q [] acc = (addT cur acc).bind finT := by rw [lstG]
theorem lstG_cons (cur : List UInt8) (q : Bool) (c : UInt8) (l : List UInt8) (acc : List Tg) : lstG cur q (c :: l) acc =
    if (if c = 34 then !q else q) = true ∨ c ≠ 44 then lstG (cur ++ [c]) (if c = 34 then !q else q) l acc
    else (addT cur acc).bind fun acc' => lstG [] (if c = 34 then !q else q) l acc' := by rw [lstG]

theorem blank_plain {c : UInt8} (h : blank c = true) : c ≠ 34 ∧ c ≠ 44 := by
  constructor <;> (rintro rfl; revert h; decide)
theorem trim_front {b : UInt8} (h : blank b = true) (l : List UInt8) : trimB (b :: l) = trimB l := by
  rw [trimB_eq, trimB_eq, tL_cons, if_pos h]
theorem trim_back {b : UInt8} (h : blank b = true) (l : List UInt8) : trimB (l ++ [b]) = trimB l := by
  rw [trimB_eq, trimB_eq, tR_tL, tR_tL, tR_snoc, if_pos h]
theorem add_front {b : UInt8} (h : blank b = true) (l : List UInt8) (acc : List Tg) : addT (b :: l) acc = addT l acc := by unfold addT; rw [trim_front h]
theorem add_back {b : UInt8} (h : blank b = true) (l : List UInt8) (acc : List Tg) : addT (l ++ [b]) acc = addT l acc := by unfold addT; rw [trim_back h]
theorem lstG_front {b : UInt8} (h : blank b = true) : ∀ (l cur : List UInt8) (q : Bool) (acc : List Tg), lstG (b :: cur) q l acc = lstG cur q l acc := by
  intro l
  induction l with
  | nil => intro cur q acc; unfold lstG; rw [add_front h]
  | cons c l ih =>
    intro cur q acc
    unfold lstG
    rw [add_front h, List.cons_append, ih]
theorem lstG_back {b : UInt8} (h : blank b = true) : ∀ (l cur : List UInt8) (q : Bool) (acc : List Tg), lstG cur q (l ++ [b]) acc = lstG cur q l acc := by
  obtain ⟨h1, h2⟩ := blank_plain h
  intro l
  induction l with
  | nil =>
    intro cur q acc
    rw [List.nil_append, lstG_cons, if_pos (.inr h2), lstG_end, lstG_end, add_back h]
  | cons c l ih =>
    intro cur q acc
    rw [List.cons_append, lstG, lstG]
    simp only [ih]
theorem lstL_tL (l : List UInt8) (acc : List Tg) : lstL (tL l) acc = lstL l acc := by
  induction l with
  | nil => rfl
  | cons c t ih =>
    rw [tL_cons]
    by_cases hc : blank c = true
    · rw [if_pos hc, ih]
      obtain ⟨h1, h2⟩ := blank_plain hc
      show _ = lstG [] false (c :: t) acc
      rw [lstG, if_pos (.inr h2), if_neg h1, List.nil_append]
      exact (lstG_front hc t [] false acc).symm
    · rw [if_neg hc]
theorem tR_split (l : List UInt8) : ∃ bl, l = tR l ++ bl ∧ ∀ c ∈ bl, blank c = true := by
  induction l with
  | nil => exact ⟨[], rfl, by simp⟩
  | cons c t ih =>
    obtain ⟨bl, h1, h2⟩ := ih
    rw [tR_cons]
    split
    · rename_i h
      refine ⟨c :: t, rfl, ?_⟩
      rw [h.1, List.nil_append] at h1
      intro d hd
      rcases List.mem_cons.mp hd with rfl | hd
      · exact h.2
      · exact h2 d (h1 ▸ hd)
    · exact ⟨bl, by rw [List.cons_append, ← h1], h2⟩
theorem lstG_blanks (cur : List UInt8) (q : Bool) (l : List UInt8) (acc : List Tg) : ∀ bl : List UInt8, (∀ c ∈ bl, blank c = true) → lstG cur q (l ++ bl) acc = lstG cur q l acc := by
  intro bl
  induction bl generalizing l with
  | nil => intro _; rw [List.append_nil]
  | cons c t ih =>
    intro h
    have e : l ++ c :: t = (l ++ [c]) ++ t := by simp
    rw [e, ih _ (fun d hd => h d (by simp [hd])), lstG_back (h c (by simp))]
theorem lstL_tR (l : List UInt8) (acc : List Tg) : lstL (tR l) acc = lstL l acc := by
  obtain ⟨bl, h1, h2⟩ := tR_split l
  conv => rhs; rw [h1]
  exact (lstG_blanks [] false (tR l) acc bl h2).symm
theorem lstL_trim (l : List UInt8) (acc : List Tg) : lstL (trimB l) acc = lstL l acc := by rw [trimB_eq, lstL_tR, lstL_tL]

theorem lstL_nil (acc : List Tg) : lstL [] acc = finT acc := rfl
theorem lstL_comma (t : List UInt8) (acc : List Tg) : lstL (44 :: t) acc = lstL (trimB t) acc := by
  rw [lstL_trim]; rfl
/-- The bytes of a text without quotes and commas, and those of a text without quotes inside quotes, go to the part. -/
theorem lstG_plain : ∀ (x cur : List UInt8) (l : List UInt8) (acc : List Tg), (∀ c ∈ x, c ≠ 34 ∧ c ≠ 44) → lstG cur false (x ++ l) acc = lstG (cur ++ x) false l acc := by
  intro x
  induction x with
  | nil => intro cur l acc _; simp
  | cons c t ih =>
    intro cur l acc h
    obtain ⟨h1, h2⟩ := h c (by simp)
    rw [List.cons_append, lstG, if_pos (.inr h2), if_neg h1, ih _ _ _ (fun d hd => h d (by simp [hd]))]
    simp
theorem lstG_quoted : ∀ (x cur : List UInt8) (l : List UInt8) (acc : List Tg), (34 : UInt8) ∉ x → lstG cur true (x ++ l) acc = lstG (cur ++ x) true l acc := by
  intro x
  induction x with
  | nil => intro cur l acc _; simp
  | cons c t ih =>
    intro cur l acc h
    have h1 : c ≠ 34 := fun e => h (by simp [e])
    rw [List.cons_append, lstG, if_neg h1, if_pos (.inl rfl), ih _ _ _ (fun hd => h (by simp [hd]))]
    simp
theorem lstG_tex (t : Tg) (h : txtB t.2 = true) (l : List UInt8) (acc : List Tg) : lstG [] false (texL t ++ l) acc = lstG (texL t) false l acc := by
  obtain ⟨k, a⟩ := t
  have hn := txt_not h
  have e1 : ∀ cur : List UInt8, lstG cur false (34 :: (a ++ 34 :: l)) acc = lstG (cur ++ 34 :: (a ++ [34])) false l acc := by
    intro cur
    rw [lstG, if_pos (.inr (by decide)), if_pos rfl]
    show lstG _ true _ _ = _
    rw [lstG_quoted _ _ _ _ hn, lstG, if_pos (.inr (by decide)), if_pos rfl]
    simp
  cases k with
  | true =>
    have e : texL (true, a) ++ l = [87, 47] ++ 34 :: (a ++ 34 :: l) := by simp [texL]
    rw [e, lstG_plain _ _ _ _ (by decide), e1]
    rfl
  | false =>
    have e : texL (false, a) ++ l = 34 :: (a ++ 34 :: l) := by simp [texL]
    rw [e, e1]
    rfl
theorem tex_first (t : Tg) : ∃ c r, texL t = c :: r ∧ blank c = false := by
  obtain ⟨k, a⟩ := t
  cases k
  · exact ⟨34, a ++ [34], rfl, by decide⟩
  · exact ⟨87, 47 :: 34 :: (a ++ [34]), rfl, by decide⟩
theorem tex_last (t : Tg) : ∃ r, texL t = r ++ [34] := by
  obtain ⟨k, a⟩ := t
  cases k
  · exact ⟨34 :: a, rfl⟩
  · exact ⟨87 :: 47 :: 34 :: a, rfl⟩
theorem tR_all (q bl : List UInt8) (h : ∀ c ∈ bl, blank c = true) : tR (q ++ bl) = tR q := by
  induction bl generalizing q with
  | nil => simp
  | cons c t ih =>
    have e : q ++ c :: t = (q ++ [c]) ++ t := by simp
    rw [e, ih _ (fun d hd => h d (by simp [hd])), tR_snoc, if_pos (h c (by simp))]
theorem tL_first {c : UInt8} (h : blank c = false) (l : List UInt8) : tL (c :: l) = c :: l := by rw [tL_cons, h]; rfl
theorem tR_keep {c : UInt8} (h : blank c = false) (q l : List UInt8) : tR (q ++ c :: l) = q ++ c :: tR l := by
  obtain ⟨bl, h1, h2⟩ := tR_split l
  conv => lhs; rw [h1, ← List.cons_append, ← List.append_assoc, tR_all _ _ h2]
  rcases List.eq_nil_or_concat (tR l) with e | ⟨r, d, e⟩
  · rw [e, tR_snoc, h]; rfl
  · rw [e, List.concat_eq_append]
    have hd : blank d = false := by
      have := tR_all (r ++ [d]) bl h2
      rw [List.concat_eq_append] at e
      rw [← e, ← h1, e, tR_snoc] at this
      split at this
      · rename_i hb
        obtain ⟨b2, g1, _⟩ := tR_split r
        have hl := congrArg List.length this
        have hg := congrArg List.length g1
        simp at hl hg; omega
      · rename_i hb; simpa using hb
    have : q ++ c :: (r ++ [d]) = (q ++ c :: r) ++ [d] := by simp
    rw [this, tR_snoc, hd]; rfl
theorem trim_tex (t : Tg) (bl : List UInt8) (h : ∀ c ∈ bl, blank c = true) : trimB (texL t ++ bl) = texL t := by
  obtain ⟨c, r, e1, h1⟩ := tex_first t
  obtain ⟨r2, e2⟩ := tex_last t
  have e3 : tL (texL t ++ bl) = texL t ++ bl := by rw [e1, List.cons_append, tL_first h1]
  rw [trimB_eq, e3, tR_all _ _ h, e2, tR_snoc]; rfl
theorem trim_tex_more (t : Tg) (bl : List UInt8) {c : UInt8} (h : blank c = false) (x : List UInt8) : trimB (texL t ++ (bl ++ c :: x)) = texL t ++ (bl ++ c :: tR x) := by
  obtain ⟨d, r, e1, h1⟩ := tex_first t
  have e3 : tL (texL t ++ (bl ++ c :: x)) = texL t ++ (bl ++ c :: x) := by rw [e1, List.cons_append, tL_first h1]
  rw [trimB_eq, e3, ← List.append_assoc, tR_keep h, List.append_assoc]
theorem add_tex (t : Tg) (ht : txtB t.2 = true) (bl : List UInt8) (h : ∀ c ∈ bl, blank c = true) (acc : List Tg) : addT (texL t ++ bl) acc = some (acc ++ [t]) := by
  obtain ⟨d, r, e1, _⟩ := tex_first t
  unfold addT
  rw [trim_tex t bl h, if_neg (by rw [e1]; simp), readTL_tex t ht]; rfl
/-- Where a part is faulty whatever follows, so is the list. -/
theorem lstG_bad : ∀ (l cur : List UInt8) (q : Bool) (acc : List Tg), (∀ x, addT (cur ++ x) acc = none) → lstG cur q l acc = none := by
  intro l
  induction l with
  | nil =>
    intro cur q acc h
    have := h []
    rw [List.append_nil] at this
    rw [lstG, this]; rfl
  | cons c l ih =>
    intro cur q acc h
    rw [lstG_cons]
    by_cases hX : (if c = 34 then !q else q) = true ∨ c ≠ 44
    · rw [if_pos hX]
      refine ih _ _ _ fun x => ?_
      rw [List.append_assoc]; exact h _
    · rw [if_neg hX]
      have := h []
      rw [List.append_nil] at this
      rw [this]; rfl
theorem tL_split (l : List UInt8) : ∃ bl, l = bl ++ tL l ∧ ∀ c ∈ bl, blank c = true := by
  induction l with
  | nil => exact ⟨[], rfl, by simp⟩
  | cons c t ih =>
    obtain ⟨bl, h1, h2⟩ := ih
    rw [tL_cons]
    split
    · rename_i h
      refine ⟨c :: bl, by rw [List.cons_append, ← h1], ?_⟩
      intro d hd
      rcases List.mem_cons.mp hd with rfl | hd
      · exact h
      · exact h2 d hd
    · exact ⟨[], rfl, by simp⟩
theorem tL_head {l : List UInt8} {c : UInt8} {r : List UInt8} (h : tL l = c :: r) : blank c = false := by
  induction l with
  | nil => simp [tL] at h
  | cons d t ih =>
    rw [tL_cons] at h
    split at h
    · exact ih h
    · rename_i hd
      simp only [List.cons.injEq] at h
      rw [← h.1]; simpa using hd
theorem tR_cons_ne {c : UInt8} (h : blank c = false) (l : List UInt8) : tR (c :: l) = c :: tR l := by
  rw [tR_cons, if_neg (by rw [h]; simp)]
/-- A tag and what follows it, as the list is read from the left. -/
theorem lstL_last {l : List UInt8} {t : Tg} {r : List UInt8} (h : cutTL l = some (t, r)) (hr : trimB r = []) (acc : List Tg) : lstL l acc = lstL [] (acc ++ [t]) := by
  obtain ⟨ht, rfl⟩ := cutTL_some h
  unfold lstL
  rw [lstG_tex t ht]
  have hb : ∀ c ∈ r, blank c = true := by
    obtain ⟨bl, h1, h2⟩ := tL_split r
    cases e : tL r with
    | nil => rw [e, List.append_nil] at h1; rwa [h1]
    | cons c x =>
      rw [trimB_eq, e, tR_cons_ne (tL_head e)] at hr; cases hr
  rw [← List.nil_append r, lstG_blanks _ _ [] _ r hb, lstG, lstG]
  have := add_tex t ht [] (by simp) acc
  rw [List.append_nil] at this
  rw [this]; rfl
theorem lstL_more {l : List UInt8} {t : Tg} {r z : List UInt8} (h : cutTL l = some (t, r)) (hr : trimB r = 44 :: z) (acc : List Tg) : lstL l acc = lstL (trimB z) (acc ++ [t]) := by
  obtain ⟨ht, rfl⟩ := cutTL_some h
  obtain ⟨bl, h1, h2⟩ := tL_split r
  cases e : tL r with
  | nil => rw [trimB_eq, e] at hr; cases hr
  | cons c x =>
    rw [trimB_eq, e, tR_cons_ne (tL_head e)] at hr
    simp only [List.cons.injEq] at hr
    obtain ⟨rfl, rfl⟩ := hr
    have e2 : lstL (texL t ++ r) acc = lstL x (acc ++ [t]) := by
      unfold lstL
      rw [lstG_tex t ht, h1, e, lstG_plain _ _ _ _ (fun c hc => blank_plain (h2 c hc)), lstG, if_neg (by simp), add_tex t ht bl h2]
      rfl
    rw [e2, lstL_trim, lstL_tR]
theorem lstL_bad {l : List UInt8} {t : Tg} {r z : List UInt8} {c : UInt8} (h : cutTL l = some (t, r)) (hr : trimB r = c :: z) (hc : c ≠ 44) (acc : List Tg) : lstL l acc = none := by
  obtain ⟨ht, rfl⟩ := cutTL_some h
  obtain ⟨bl, h1, h2⟩ := tL_split r
  cases e : tL r with
  | nil => rw [trimB_eq, e] at hr; cases hr
  | cons d x =>
    have hd := tL_head e
    rw [trimB_eq, e, tR_cons_ne hd] at hr
    simp only [List.cons.injEq] at hr
    obtain ⟨rfl, rfl⟩ := hr
    have hbad : ∀ y, addT (texL t ++ bl ++ [d] ++ y) acc = none := by
      intro y
      have e3 : texL t ++ bl ++ [d] ++ y = texL t ++ (bl ++ d :: y) := by simp
      rw [e3]; unfold addT
      rw [trim_tex_more t bl hd]
      have hne : bl ++ d :: tR y ≠ [] := by simp
      rw [readTL_more t ht hne]
      obtain ⟨c, r, e1, _⟩ := tex_first t
      rw [if_neg (by rw [e1]; simp)]; rfl
    unfold lstL
    rw [lstG_tex t ht, h1, e, lstG_plain _ _ _ _ (fun c hc => blank_plain (h2 c hc)), lstG, if_pos (.inr hc)]
    exact lstG_bad _ _ _ _ hbad
theorem lstG_first : ∀ (l cur : List UInt8) (q : Bool) (acc : List Tg), ∃ p r, l = p ++ r ∧ (addT (cur ++ p) acc = none → lstG cur q l acc = none) := by
  intro l
  induction l with
  | nil => intro cur q acc; exact ⟨[], [], rfl, fun h => by rw [List.append_nil] at h; rw [lstG, h]; rfl⟩
  | cons c l ih =>
    intro cur q acc
    rw [lstG_cons]
    by_cases hX : (if c = 34 then !q else q) = true ∨ c ≠ 44
    · rw [if_pos hX]
      obtain ⟨p, r, h1, h2⟩ := ih (cur ++ [c]) (if c = 34 then !q else q) acc
      refine ⟨c :: p, r, by rw [h1]; rfl, fun h => h2 ?_⟩
      rw [List.append_assoc]; exact h
    · rw [if_neg hX]
      exact ⟨[], c :: l, rfl, fun h => by rw [List.append_nil] at h; rw [h]; rfl⟩
theorem lstL_no {c : UInt8} {l : List UInt8} (hb : blank c = false) (hc : c ≠ 44) (h : cutTL (c :: l) = none) (acc : List Tg) : lstL (c :: l) acc = none := by
  unfold lstL
  rw [lstG, if_pos (.inr hc), List.nil_append]
  obtain ⟨p, r, h1, h2⟩ := lstG_first l [c] (if c = 34 then !false else false) acc
  refine h2 ?_
  have e : trimB ([c] ++ p) = c :: tR p := by
    rw [trimB_eq, List.singleton_append, tL_first hb, tR_cons_ne hb]
  unfold addT
  rw [e, if_neg (by simp)]
  cases hq : readTL (c :: tR p) with
  | none => rfl
  | some t =>
    obtain ⟨ht, hx⟩ := readTL_some hq
    obtain ⟨bl, g1, _⟩ := tR_split p
    have e2 : c :: l = texL t ++ (bl ++ r) := by
      rw [← hx, h1]
      conv => lhs; rw [g1]
      simp
    rw [e2, cutTL_tex t _ ht] at h
    cases h
end Go.Proofs.YtoiampkdmjpljaaGreatDoor
