/- Plain mathematics: stable order by names; the steps of a stable merge in place; nothing of the program. -/
import Derived.Test.YtbmbcdbldbjddaaGreatDoorFSpec
import Derived.Lib.Bytealg
namespace Go.Proofs.YtbmbcdbldbjddaaGreatDoor
open Go.RowKit

def ltK (a b : List UInt8) : Bool := decide (Lib.compareBytes a b < 0)
theorem cmp_cons (a b : UInt8) (s t : List UInt8) : Lib.compareBytes (a :: s) (b :: t) = if a < b then -1 else if b < a then 1 else Lib.compareBytes s t := rfl
theorem u8_lt_irrefl (a : UInt8) : ¬ a < a := by rw [UInt8.lt_iff_toNat_lt]; omega
theorem u8_tri {a b : UInt8} (h1 : ¬ a < b) (h2 : ¬ b < a) : a = b := by
  rw [UInt8.lt_iff_toNat_lt] at h1 h2
  exact UInt8.toNat_inj.mp (by omega)
theorem lt_cons (a b : UInt8) (s t : List UInt8) : ltK (a :: s) (b :: t) = true ↔ a < b ∨ (a = b ∧ ltK s t = true) := by
  unfold ltK
  rw [cmp_cons]
  by_cases h1 : a < b
  · simp [h1]
  · by_cases h2 : b < a
    · have : a ≠ b := fun e => by subst e; exact u8_lt_irrefl a h2
      simp [h1, h2, this]
    · have := u8_tri h1 h2
      subst this
      simp [u8_lt_irrefl a]
theorem lt_nil (s : List UInt8) : ltK s [] = false := by
  cases s with
  | nil => rfl
  | cons a r => rfl
theorem nil_lt (a : UInt8) (s : List UInt8) : ltK [] (a :: s) = true := rfl
theorem lt_irrefl' (s : List UInt8) : ltK s s = false := by
  induction s with
  | nil => rfl
  | cons a r ih =>
    rw [Bool.eq_false_iff]
    intro h
    rcases (lt_cons a a r r).1 h with h | h
    · exact u8_lt_irrefl a h
    · rw [ih] at h; cases h.2
theorem lt_trans' : ∀ {s t u : List UInt8}, ltK s t = true → ltK t u = true → ltK s u = true := by
  intro s
  induction s with
  | nil =>
    intro t u h1 h2
    cases u with
    | nil => rw [lt_nil] at h2; cases h2
    | cons c u => rfl
  | cons a s ih =>
    intro t u h1 h2
    cases t with
    | nil => rw [lt_nil] at h1; cases h1
    | cons b t =>
      cases u with
      | nil => rw [lt_nil] at h2; cases h2
      | cons c u =>
        rw [lt_cons] at h1 h2 ⊢
        rw [UInt8.lt_iff_toNat_lt] at *
        rcases h1 with h1 | ⟨rfl, h1⟩
        · rcases h2 with h2 | ⟨rfl, h2⟩
          · exact .inl (by omega)
          · exact .inl h1
        · rcases h2 with h2 | ⟨rfl, h2⟩
          · exact .inl h2
          · exact .inr ⟨rfl, ih h1 h2⟩
theorem lt_tri : ∀ {s t : List UInt8}, ltK s t = false → ltK t s = false → s = t := by
  intro s
  induction s with
  | nil =>
    intro t h1 _
    cases t with
    | nil => rfl
    | cons b t => rw [nil_lt] at h1; cases h1
  | cons a s ih =>
    intro t h1 h2
    cases t with
    | nil => rw [nil_lt] at h2; cases h2
    | cons b t =>
      rw [Bool.eq_false_iff] at h1 h2
      have n1 : ¬ a < b := fun h => h1 ((lt_cons _ _ _ _).2 (.inl h))
      have n2 : ¬ b < a := fun h => h2 ((lt_cons _ _ _ _).2 (.inl h))
      have e := u8_tri n1 n2
      subst e
      have m1 : ltK s t = false := by rw [Bool.eq_false_iff]; exact fun h => h1 ((lt_cons _ _ _ _).2 (.inr ⟨rfl, h⟩))
      have m2 : ltK t s = false := by rw [Bool.eq_false_iff]; exact fun h => h2 ((lt_cons _ _ _ _).2 (.inr ⟨rfl, h⟩))
      rw [ih m1 m2]
theorem lt_asymm {s t : List UInt8} (h : ltK s t = true) : ltK t s = false := by
  rw [Bool.eq_false_iff]; intro h2
  have := lt_trans' h h2
  rw [lt_irrefl'] at this; cases this
/-- s is not after t. -/
def leK (s t : List UInt8) : Prop := ltK t s = false
theorem le_refl' (s : List UInt8) : leK s s := lt_irrefl' s
theorem lt_le {s t : List UInt8} (h : ltK s t = true) : leK s t := lt_asymm h
theorem le_trans' {s t u : List UInt8} (h1 : leK s t) (h2 : leK t u) : leK s u := by
  unfold leK at *
  rw [Bool.eq_false_iff]; intro h
  by_cases h3 : ltK t s = true
  · rw [h1] at h3; cases h3
  · by_cases h4 : ltK s t = true
    · have := lt_trans' h h4
      rw [h2] at this; cases this
    · have e := lt_tri (by simpa using h4) h1
      subst e
      rw [h2] at h; cases h
theorem lt_le_lt {s t u : List UInt8} (h1 : ltK s t = true) (h2 : leK t u) : ltK s u = true := by
  cases h : ltK s u with
  | true => rfl
  | false =>
    have : leK u s := h
    have := le_trans' h2 this
    unfold leK at this
    rw [h1] at this; cases this
theorem le_lt_lt {s t u : List UInt8} (h1 : leK s t) (h2 : ltK t u = true) : ltK s u = true := by
  cases h : ltK s u with
  | true => rfl
  | false =>
    have : leK u s := h
    have := le_trans' this h1
    unfold leK at this
    rw [h2] at this; cases this

def Srt (l : Flds) : Prop := l.Pairwise fun p q => leK p.1 q.1
def hasK (n : List UInt8) (p : List UInt8 × List UInt8) : Bool := decide (p.1 = n)
/-- The fields of each name are the same, in the same order. -/
def SameF (l m : Flds) : Prop := ∀ n, l.filter (hasK n) = m.filter (hasK n)
theorem SameF.refl (l : Flds) : SameF l l := fun _ => rfl
theorem SameF.symm {l m : Flds} (h : SameF l m) : SameF m l := fun n => (h n).symm
theorem SameF.trans {l m k : Flds} (h : SameF l m) (h' : SameF m k) : SameF l k := fun n => (h n).trans (h' n)
theorem SameF.app {l m l' m' : Flds} (h : SameF l m) (h' : SameF l' m') : SameF (l ++ l') (m ++ m') := fun n => by rw [List.filter_append, List.filter_append, h n, h' n]
theorem SameF.swap {l m : Flds} (h : ∀ p ∈ l, ∀ q ∈ m, p.1 ≠ q.1) : SameF (m ++ l) (l ++ m) := by
  intro n
  rw [List.filter_append, List.filter_append]
  by_cases hl : l.filter (hasK n) = []
  · rw [hl]; simp
  · have hm : m.filter (hasK n) = [] := by
      rw [List.filter_eq_nil_iff]
      intro q hq hk
      obtain ⟨p, hp⟩ := List.exists_mem_of_ne_nil _ hl
      rw [List.mem_filter] at hp
      exact h p hp.1 q hq ((of_decide_eq_true hp.2).trans (of_decide_eq_true hk).symm)
    rw [hm]; simp
theorem SameF.mem {l m : Flds} (h : SameF l m) {p : List UInt8 × List UInt8} (hp : p ∈ l) : p ∈ m := by
  have : p ∈ l.filter (hasK p.1) := List.mem_filter.2 ⟨hp, decide_eq_true rfl⟩
  rw [h p.1] at this
  exact (List.mem_filter.1 this).1
theorem SameF.perm {l m : Flds} (h : SameF l m) : l.Perm m := by
  rw [List.perm_iff_count]
  intro p
  have e : ∀ k : Flds, k.count p = (k.filter (hasK p.1)).count p := fun k => (List.count_filter (by unfold hasK; simp)).symm
  rw [e l, e m, h p.1]
theorem SameF.length {l m : Flds} (h : SameF l m) : l.length = m.length := h.perm.length_eq
theorem Srt.app {l m : Flds} (hl : Srt l) (hm : Srt m) (h : ∀ p ∈ l, ∀ q ∈ m, leK p.1 q.1) : Srt (l ++ m) := List.pairwise_append.2 ⟨hl, hm, h⟩
theorem Srt.left {l m : Flds} (h : Srt (l ++ m)) : Srt l := (List.pairwise_append.1 h).1
theorem Srt.right {l m : Flds} (h : Srt (l ++ m)) : Srt m := (List.pairwise_append.1 h).2.1
theorem Srt.cross {l m : Flds} (h : Srt (l ++ m)) : ∀ p ∈ l, ∀ q ∈ m, leK p.1 q.1 := (List.pairwise_append.1 h).2.2
theorem srt_nil : Srt [] := List.Pairwise.nil
theorem srt_one (p : List UInt8 × List UInt8) : Srt [p] := List.pairwise_singleton _ _
/-- There is one stable order. -/
theorem srt_unique : ∀ {l m : Flds}, Srt l → Srt m → SameF l m → l = m := by
  intro l
  induction l with
  | nil =>
    intro m _ _ h
    have := h.length
    exact (List.eq_nil_of_length_eq_zero this.symm).symm
  | cons p r ih =>
    intro m hl hm h
    cases m with
    | nil => have := h.length; simp at this
    | cons q s =>
      have hp : p ∈ q :: s := h.mem (List.mem_cons_self ..)
      have hq : q ∈ p :: r := h.symm.mem (List.mem_cons_self ..)
      have h1 : leK q.1 p.1 := by
        rcases List.mem_cons.1 hp with e | e
        · rw [e]; exact le_refl' _
        · exact (List.pairwise_cons.1 hm).1 p e
      have h2 : leK p.1 q.1 := by
        rcases List.mem_cons.1 hq with e | e
        · rw [e]; exact le_refl' _
        · exact (List.pairwise_cons.1 hl).1 q e
      have e : p.1 = q.1 := lt_tri h1 h2
      have hh := h p.1
      rw [List.filter_cons_of_pos (by unfold hasK; simp), List.filter_cons_of_pos (by unfold hasK; simp [e])] at hh
      have e2 : p = q := (List.cons.inj hh).1
      subst e2
      have hr : SameF r s := by
        intro n
        have := h n
        by_cases hn : hasK n p = true
        · rw [List.filter_cons_of_pos hn, List.filter_cons_of_pos hn] at this
          exact (List.cons.inj this).2
        · rw [List.filter_cons_of_neg hn, List.filter_cons_of_neg hn] at this
          exact this
      rw [ih (List.pairwise_cons.1 hl).2 (List.pairwise_cons.1 hm).2 hr]
end Go.Proofs.YtbmbcdbldbjddaaGreatDoor
