/- Heads of messages as lists of bytes: prefixes, and a byte inserted. -/
import Derived.Test.YthjkneifffdglaaDoorGEnd
namespace Go.Proofs.YthjkneifffdglaaDoor

theorem end4_some : ∀ {l : List UInt8} {n : Nat}, end4 l = some n → 4 ≤ n ∧ n ≤ l.length := by
  intro l
  induction l with
  | nil => intro n h; cases h
  | cons c r ih =>
    intro n h
    rw [end4] at h
    by_cases hc : c = 13 ∧ r.take 3 = [10, 13, 10]
    · rw [if_pos hc] at h
      obtain rfl := Option.some.inj h
      have := congrArg List.length hc.2
      simp at this ⊢
      omega
    · rw [if_neg hc] at h
      cases h2 : end4 r with
      | none => rw [h2] at h; cases h
      | some m =>
        rw [h2] at h
        obtain rfl := Option.some.inj h
        have := ih h2
        simp; omega
theorem end4_small {l : List UInt8} (h : l.length < 4) : end4 l = none := by
  cases h2 : end4 l with
  | none => rfl
  | some n => have := end4_some h2; omega
theorem end4_pre : ∀ {l : List UInt8} {n : Nat}, end4 l = some n → ∀ r, end4 (l.take n ++ r) = some n := by
  intro l
  induction l with
  | nil => intro n h; cases h
  | cons c t ih =>
    intro n h r
    rw [end4] at h
    by_cases hc : c = 13 ∧ t.take 3 = [10, 13, 10]
    · rw [if_pos hc] at h
      obtain rfl := Option.some.inj h
      obtain ⟨rfl, h3⟩ := hc
      rw [List.take_succ_cons, h3]
      exact end4_hit r
    · rw [if_neg hc] at h
      cases h2 : end4 t with
      | none => rw [h2] at h; cases h
      | some m =>
        rw [h2] at h
        obtain rfl := Option.some.inj h
        have hm := end4_some h2
        have e : (t.take m ++ r).take 3 = t.take 3 := by
          rw [List.take_append_of_le_length (by rw [List.length_take]; omega), List.take_take, Nat.min_eq_left (by omega)]
        show end4 ((c :: t).take (m + 1) ++ r) = _
        rw [List.take_succ_cons, List.cons_append, end4, if_neg (by rw [e]; exact hc), ih h2]; rfl
theorem end4_short : ∀ {l : List UInt8} {n i : Nat}, end4 l = some n → i < n → end4 (l.take i) = none := by
  intro l
  induction l with
  | nil => intro n i h; cases h
  | cons c t ih =>
    intro n i h hi
    rw [end4] at h
    cases i with
    | zero => rfl
    | succ i =>
      by_cases hc : c = 13 ∧ t.take 3 = [10, 13, 10]
      · rw [if_pos hc] at h
        obtain rfl := Option.some.inj h
        exact end4_small (by rw [List.length_take]; omega)
      · rw [if_neg hc] at h
        cases h2 : end4 t with
        | none => rw [h2] at h; cases h
        | some m =>
          rw [h2] at h
          obtain rfl := Option.some.inj h
          rw [List.take_succ_cons, end4, if_neg, ih h2 (by simp at hi; omega)]
          · rfl
          · rintro ⟨h13, h3⟩
            apply hc
            refine ⟨h13, ?_⟩
            rw [List.take_take] at h3
            by_cases hi3 : 3 ≤ i
            · rwa [Nat.min_eq_left hi3] at h3
            · have := congrArg List.length h3
              rw [List.length_take] at this
              simp at this; omega
/-- No bare byte, position by position. -/
theorem bareF_iff : ∀ (l : List UInt8) (p : UInt8), bareF p l = false ↔ ((∀ i : Nat, l[i]? ≠ some 0) ∧ (∀ i : Nat, l[i]? = some 13 → l[i + 1]? = some 10) ∧ (∀ i : Nat, l[i + 1]? = some 10 → l[i]? = some 13) ∧ (l[0]? = some 10 → p = 13)) := by
  intro l
  induction l with
  | nil => intro p; simp [bareF]
  | cons c r ih =>
    intro p
    rw [bareF]
    simp only [Bool.or_eq_false_iff, Bool.and_eq_false_iff, decide_eq_false_iff_not, Decidable.not_not, ih c]
    have hd : r.head? = r[0]? := List.head?_eq_getElem?
    constructor
    · rintro ⟨⟨⟨h0, h13⟩, h10⟩, a, b, d, e⟩
      refine ⟨?_, ?_, ?_, ?_⟩
      · intro i; cases i with
        | zero => simp only [List.getElem?_cons_zero]; intro h; exact h0 (Option.some.inj h)
        | succ i => simp only [List.getElem?_cons_succ]; exact a i
      · intro i; cases i with
        | zero =>
          simp only [List.getElem?_cons_zero, List.getElem?_cons_succ]
          intro h
          rcases h13 with h2 | h2
          · exact absurd (Option.some.inj h) h2
          · rw [← hd]; exact h2
        | succ i => simp only [List.getElem?_cons_succ]; exact b i
      · intro i; cases i with
        | zero => simp only [List.getElem?_cons_zero, List.getElem?_cons_succ]; intro h; rw [e h]
        | succ i => simp only [List.getElem?_cons_succ]; exact d i
      · simp only [List.getElem?_cons_zero]
        intro h
        rcases h10 with h2 | h2
        · exact absurd (Option.some.inj h) h2
        · exact h2
    · rintro ⟨a, b, d, e⟩
      refine ⟨⟨⟨?_, ?_⟩, ?_⟩, ?_, ?_, ?_, ?_⟩
      · intro h; exact a 0 (by simp [h])
      · by_cases h : c = 13
        · right; rw [hd]; have := b 0 (by simp [h]); simpa using this
        · exact .inl h
      · by_cases h : c = 10
        · right; exact e (by simp [h])
        · exact .inl h
      · intro i; have := a (i + 1); simpa using this
      · intro i h; have := b (i + 1) (by simpa using h); simpa using this
      · intro i h; have := d (i + 1) (by simpa using h); simpa using this
      · intro h; have := d 0 (by simpa using h); simpa using this
theorem endO_ne {h : List UInt8} (h2 : h.take 2 ≠ [13, 10]) (r : List UInt8) (hl : 2 ≤ h.length) : endO (h ++ r) = end4 (h ++ r) := by
  unfold endO; rw [if_neg]; rw [List.take_append_of_le_length hl]; exact h2
/-- Where the head of h ends, with a byte inserted: not before it; and then it is bare, unless it is the last LF again. -/
theorem insert_bare {h : List UInt8} {i n' : Nat} {c : UInt8} (he : end4 h = some h.length) (hb : bareF 0 h = false) (hi : i < h.length) (hc : c = 0 ∨ c = 13 ∨ c = 10) (hx : ¬ (c = 10 ∧ i + 1 = h.length))
    (hn : end4 (h.take i ++ c :: h.drop i) = some n') : bareF 0 ((h.take i ++ c :: h.drop i).take n') = true := by
  have hs := end4_some he
  have hti : (h.take i).length = i := by rw [List.length_take]; omega
  have hn' := end4_some hn
  have hin : i < n' := by
    apply Classical.byContradiction
    intro hh
    have e1 := end4_pre hn []
    rw [List.append_nil, List.take_append_of_le_length (by omega), List.take_take, Nat.min_eq_left (by omega)] at e1
    rw [end4_short he (show n' < h.length by omega)] at e1
    cases e1
  obtain ⟨z0, z13, z10, zf⟩ := (bareF_iff h 0).1 hb
  obtain ⟨s', hs'⟩ : ∃ s', s' = h.take i ++ c :: h.drop i := ⟨_, rfl⟩
  have gl : ∀ j, j < i → s'[j]? = h[j]? := fun j hj => by
    rw [hs', List.getElem?_append_left (by omega), List.getElem?_take_of_lt hj]
  have gi : s'[i]? = some c := by rw [hs', List.getElem?_append_right (by omega), hti, Nat.sub_self]; rfl
  have gr : ∀ j, s'[i + 1 + j]? = h[i + j]? := fun j => by
    rw [hs', List.getElem?_append_right (by omega), hti, show i + 1 + j - i = j + 1 by omega, List.getElem?_cons_succ, List.getElem?_drop]
  rw [← hs'] at hn ⊢
  rw [← hs'] at hn'
  have gt : ∀ j, j < n' → (s'.take n')[j]? = s'[j]? := fun j hj => List.getElem?_take_of_lt hj
  apply Classical.byContradiction
  intro hh
  have hf : bareF 0 (s'.take n') = false := by simpa using hh
  obtain ⟨y0, y13, y10, yf⟩ := (bareF_iff _ 0).1 hf
  have hci : (s'.take n')[i]? = some c := (gt i hin).trans gi
  rcases hc with rfl | rfl | rfl
  · exact y0 i hci
  · have e1 := y13 i hci
    have hlt : i + 1 < n' := by
      apply Classical.byContradiction
      intro hk
      rw [List.getElem?_eq_none (by rw [List.length_take]; omega)] at e1
      cases e1
    rw [gt _ hlt] at e1
    have e2 := gr 0
    rw [Nat.add_zero, Nat.add_zero] at e2
    rw [e2] at e1
    cases i with
    | zero => have := zf e1; exact absurd this (by decide)
    | succ i =>
      have e3 := z10 i e1
      have e4 := y13 i (by rw [gt i (by omega), gl i (by omega)]; exact e3)
      rw [hci] at e4
      exact absurd (Option.some.inj e4) (by decide)
  · cases i with
    | zero => have := yf hci; exact absurd this (by decide)
    | succ i =>
      have e1 := y10 i hci
      rw [gt i (by omega), gl i (by omega)] at e1
      have e2 := z13 i e1
      have e3 := gr 0
      rw [Nat.add_zero, Nat.add_zero, e2] at e3
      by_cases hlt : i + 1 + 1 < n'
      · have e4 := y10 (i + 1) (by rw [gt _ hlt]; exact e3)
        rw [hci] at e4
        exact absurd (Option.some.inj e4) (by decide)
      · have hne : n' = i + 2 := by omega
        subst hne
        have e5 : s'.take (i + 2) = h.take (i + 2) := by
          apply List.ext_getElem?
          intro j
          by_cases hj : j < i + 1
          · rw [gt j (by omega), gl j hj, List.getElem?_take_of_lt (by omega)]
          · by_cases hj2 : j = i + 1
            · subst hj2; rw [hci, List.getElem?_take_of_lt (by omega)]; exact e2.symm
            · rw [List.getElem?_eq_none (by rw [List.length_take]; omega), List.getElem?_eq_none (by rw [List.length_take]; omega)]
        have e6 := end4_pre hn []
        rw [List.append_nil, e5] at e6
        by_cases hl : i + 2 < h.length
        · rw [end4_short he hl] at e6; cases e6
        · exact hx ⟨rfl, by omega⟩
end Go.Proofs.YthjkneifffdglaaDoor
