/- Heads of messages as lists of bytes: where a head ends, its lines, bare bytes; a head that is accepted is the text of its lines. -/
namespace Go.Proofs.YtfmgfcddnnggeaaGreatDoor

/-- The end of the first CR LF CR LF. -/
def end4 : List UInt8 → Option Nat
  | [] => none
  | c :: r => if c = 13 ∧ r.take 3 = [10, 13, 10] then some 4 else (end4 r).map (· + 1)
/-- The end of a head. -/
def endO (l : List UInt8) : Option Nat := if l.take 2 = [13, 10] then some 2 else end4 l
/-- Is there a CR without LF, an LF without CR, or a byte 0? p is the byte before. -/
def bareF (p : UInt8) : List UInt8 → Bool
  | [] => false
  | c :: r => decide (c = 0) || (decide (c = 13) && decide (r.head? ≠ some 10)) || (decide (c = 10) && decide (p ≠ 13)) || bareF c r
/-- The lines that end with CR LF; cur is what stands before. -/
def linesF (cur : List UInt8) : List UInt8 → List (List UInt8)
  | [] => []
  | c :: r => if c = 13 ∧ r.head? = some 10 then cur :: linesF [] r.tail else linesF (cur ++ [c]) r
termination_by l => l.length
decreasing_by all_goals simp_wf; all_goals (try have := List.length_tail (l := r)); all_goals (try omega)
/-- No CR, no LF, no byte 0. -/
def Clean (l : List UInt8) : Prop := ∀ c ∈ l, c ≠ 0 ∧ c ≠ 13 ∧ c ≠ 10
/-- Lines and what ends them. -/
def flat (ls : List (List UInt8)) : List UInt8 := ls.flatMap (· ++ [13, 10])
/-- The head that has these lines. -/
def enc (ls : List (List UInt8)) : List UInt8 := flat ls ++ [13, 10]
theorem flat_cons (x : List UInt8) (ls : List (List UInt8)) : flat (x :: ls) = x ++ 13 :: 10 :: flat ls := by simp [flat]
theorem enc_cons (x : List UInt8) (ls : List (List UInt8)) : enc (x :: ls) = x ++ 13 :: 10 :: enc ls := by simp [enc, flat_cons]
theorem clean_nil : Clean [] := by intro c h; cases h
theorem clean_cons {c : UInt8} {l : List UInt8} : Clean (c :: l) ↔ (c ≠ 0 ∧ c ≠ 13 ∧ c ≠ 10) ∧ Clean l := by
  constructor
  · intro h; exact ⟨h c (by simp), fun d hd => h d (by simp [hd])⟩
  · intro h d hd
    rcases List.mem_cons.1 hd with rfl | hd
    · exact h.1
    · exact h.2 d hd
theorem clean_app {a b : List UInt8} : Clean (a ++ b) ↔ Clean a ∧ Clean b := by
  constructor
  · intro h; exact ⟨fun c hc => h c (by simp [hc]), fun c hc => h c (by simp [hc])⟩
  · intro h c hc
    rcases List.mem_append.1 hc with hc | hc
    · exact h.1 c hc
    · exact h.2 c hc
theorem end4_clean {x : List UInt8} (h : Clean x) (r : List UInt8) : end4 (x ++ r) = (end4 r).map (· + x.length) := by
  induction x with
  | nil => simp
  | cons c t ih =>
    rw [clean_cons] at h
    rw [List.cons_append, end4, if_neg (by intro e; exact h.1.2.1 e.1), ih h.2]
    cases end4 r <;> simp; omega
theorem end4_hit (r : List UInt8) : end4 (13 :: 10 :: 13 :: 10 :: r) = some 4 := by rw [end4, if_pos ⟨rfl, rfl⟩]
theorem end4_crlf {r : List UInt8} (h : r.take 2 ≠ [13, 10]) : end4 (13 :: 10 :: r) = (end4 r).map (· + 2) := by
  rw [end4, if_neg (by rintro ⟨_, e⟩; apply h; rw [List.take_succ_cons] at e; injection e), end4, if_neg (by rintro ⟨e, _⟩; exact absurd e (by decide))]
  cases end4 r <;> simp
theorem take2_line {y : List UInt8} (h : Clean y) (hne : y ≠ []) (r : List UInt8) : (y ++ r).take 2 ≠ [13, 10] := by
  cases y with
  | nil => exact absurd rfl hne
  | cons c t =>
    rw [clean_cons] at h
    intro e
    rw [List.cons_append, List.take_succ_cons] at e
    injection e with e1 _
    exact h.1.2.1 e1
/-- The head of clean lines, none of them empty, ends where its text ends. -/
theorem end4_enc : ∀ (ls : List (List UInt8)), ls ≠ [] → (∀ x ∈ ls, Clean x ∧ x ≠ []) → ∀ r, end4 (enc ls ++ r) = some (enc ls).length := by
  intro ls
  induction ls with
  | nil => intro h; exact absurd rfl h
  | cons x xs ih =>
    intro _ hc r
    obtain ⟨hx, hxn⟩ := hc x (by simp)
    rw [enc_cons, List.append_assoc, end4_clean hx]
    cases xs with
    | nil =>
      show Option.map _ (end4 (13 :: 10 :: 13 :: 10 :: r)) = _
      rw [end4_hit]; simp [enc, flat]; omega
    | cons y ys =>
      obtain ⟨hy, hyn⟩ := hc y (by simp)
      have e : (13 :: 10 :: enc (y :: ys)) ++ r = 13 :: 10 :: (enc (y :: ys) ++ r) := rfl
      rw [e, end4_crlf (by rw [enc_cons, List.append_assoc]; exact take2_line hy hyn _), ih (by simp) (fun z hz => hc z (by simp [hz])) r]
      simp; omega
theorem endO_enc {ls : List (List UInt8)} (h : ls ≠ []) (hc : ∀ x ∈ ls, Clean x ∧ x ≠ []) (r : List UInt8) : endO (enc ls ++ r) = some (enc ls).length := by
  unfold endO
  rw [if_neg, end4_enc ls h hc]
  cases ls with
  | nil => exact absurd rfl h
  | cons x xs =>
    obtain ⟨hx, hxn⟩ := hc x (by simp)
    rw [enc_cons, List.append_assoc]; exact take2_line hx hxn _
/-- A text without bare bytes is divided into clean lines and a clean rest. -/
theorem bare_flat : ∀ (k : Nat) (l : List UInt8) (p : UInt8), l.length ≤ k → p ≠ 13 → bareF p l = false → ∃ ls t, (∀ x ∈ ls, Clean x) ∧ Clean t ∧ l = flat ls ++ t := by
  intro k
  induction k with
  | zero =>
    intro l p hk _ _
    obtain rfl : l = [] := List.eq_nil_of_length_eq_zero (by omega)
    exact ⟨[], [], by simp, clean_nil, rfl⟩
  | succ k ih =>
    intro l p hk hp hb
    cases l with
    | nil => exact ⟨[], [], by simp, clean_nil, rfl⟩
    | cons c r =>
      rw [bareF] at hb
      simp only [Bool.or_eq_false_iff, Bool.and_eq_false_iff, decide_eq_false_iff_not, Decidable.not_not] at hb
      obtain ⟨⟨⟨h0, h13⟩, h10⟩, hr⟩ := hb
      have h10' : c ≠ 10 := by
        rcases h10 with h | h
        · exact h
        · exact absurd h hp
      by_cases e : c = 13
      · subst e
        have hh : r.head? = some 10 := by
          rcases h13 with h | h
          · exact absurd rfl h
          · exact h
        cases r with
        | nil => cases hh
        | cons d r2 =>
          have : d = 10 := Option.some.inj hh
          subst this
          rw [bareF] at hr
          simp only [Bool.or_eq_false_iff] at hr
          obtain ⟨ls, t, h1, h2, rfl⟩ := ih r2 10 (by simp at hk; omega) (by decide) hr.2
          exact ⟨[] :: ls, t, by intro x hx; rcases List.mem_cons.1 hx with rfl | hx; exact clean_nil; exact h1 x hx, h2, by rw [flat_cons]; rfl⟩
      · obtain ⟨ls, t, h1, h2, rfl⟩ := ih r c (by simp at hk; omega) e hr
        cases ls with
        | nil => exact ⟨[], c :: t, by simp, clean_cons.2 ⟨⟨h0, e, h10'⟩, h2⟩, rfl⟩
        | cons y ys =>
          refine ⟨(c :: y) :: ys, t, ?_, h2, by rw [flat_cons, flat_cons]; rfl⟩
          intro x hx
          rcases List.mem_cons.1 hx with rfl | hx
          · exact clean_cons.2 ⟨⟨h0, e, h10'⟩, h1 y (by simp)⟩
          · exact h1 x (by simp [hx])
/-- A text in clean lines that ends where its first empty line ends is the head of lines that are not empty. -/
theorem enc_of : ∀ (ls : List (List UInt8)) (t : List UInt8), (∀ x ∈ ls, Clean x) → Clean t → (∀ x xs, ls = x :: xs → x ≠ []) → end4 (flat ls ++ t) = some (flat ls ++ t).length →
    ∃ ks, ks ≠ [] ∧ (∀ x ∈ ks, Clean x ∧ x ≠ []) ∧ flat ls ++ t = enc ks := by
  intro ls
  induction ls with
  | nil =>
    intro t _ ht _ he
    have := end4_clean ht []
    rw [List.append_nil] at this
    rw [show flat [] ++ t = t from rfl, this] at he
    cases he
  | cons x xs ih =>
    intro t hc ht hne he
    have hx := hc x (by simp)
    have hxn := hne x xs rfl
    rw [flat_cons, List.append_assoc, end4_clean hx] at he
    cases xs with
    | nil =>
      exfalso
      rw [show (13 :: 10 :: flat []) ++ t = 13 :: 10 :: t from rfl, end4_crlf (by
        cases t with
        | nil => simp
        | cons c t' => rw [clean_cons] at ht; intro e; injection e with e1 _; exact ht.1.2.1 e1)] at he
      have h2 := end4_clean ht []
      rw [List.append_nil] at h2
      rw [h2] at he
      cases he
    | cons y ys =>
      by_cases hy : y = []
      · subst hy
        have e : (13 :: 10 :: flat ([] :: ys)) ++ t = 13 :: 10 :: 13 :: 10 :: (flat ys ++ t) := by rw [flat_cons]; rfl
        rw [e, end4_hit] at he
        simp only [Option.map_some, Option.some.injEq, List.length_append, List.length_cons] at he
        have hz : flat ys ++ t = [] := List.eq_nil_of_length_eq_zero (by rw [List.length_append]; omega)
        refine ⟨[x], by simp, by intro z hz; rw [List.mem_singleton] at hz; rw [hz]; exact ⟨hx, hxn⟩, ?_⟩
        rw [flat_cons, List.append_assoc, e, hz]; simp [enc, flat]
      · have hyc := hc y (by simp)
        have e : (13 :: 10 :: flat (y :: ys)) ++ t = 13 :: 10 :: (flat (y :: ys) ++ t) := rfl
        rw [e, end4_crlf (by rw [flat_cons, List.append_assoc]; exact take2_line hyc hy _)] at he
        have he2 : end4 (flat (y :: ys) ++ t) = some (flat (y :: ys) ++ t).length := by
          cases h : end4 (flat (y :: ys) ++ t) with
          | none => rw [h] at he; cases he
          | some n =>
            rw [h] at he
            simp only [Option.map_some, Option.some.injEq, List.length_append, List.length_cons] at he
            rw [List.length_append]; congr 1; omega
        obtain ⟨ks, k1, k2, k3⟩ := ih t (fun z hz => hc z (by simp [hz])) ht (fun a az hh => by injection hh with h1 _; rw [← h1]; exact hy) he2
        refine ⟨x :: ks, by simp, ?_, ?_⟩
        · intro z hz
          rcases List.mem_cons.1 hz with rfl | hz
          · exact ⟨hx, hxn⟩
          · exact k2 z hz
        · rw [enc_cons, ← k3, flat_cons, List.append_assoc]; rfl
theorem linesF_line {x : List UInt8} (h : Clean x) : ∀ (cur r : List UInt8), linesF cur (x ++ 13 :: 10 :: r) = (cur ++ x) :: linesF [] r := by
  induction x with
  | nil => intro cur r; rw [List.nil_append, linesF, if_pos ⟨rfl, rfl⟩]; simp
  | cons c t ih =>
    rw [clean_cons] at h
    intro cur r
    rw [List.cons_append, linesF, if_neg (by rintro ⟨e, _⟩; exact h.1.2.1 e), ih h.2]; simp
theorem linesF_enc : ∀ (ls : List (List UInt8)), (∀ x ∈ ls, Clean x) → linesF [] (enc ls) = ls ++ [[]] := by
  intro ls
  induction ls with
  | nil =>
    intro _
    show linesF [] (13 :: 10 :: []) = _
    rw [linesF, if_pos ⟨rfl, rfl⟩]; simp [linesF]
  | cons x xs ih =>
    intro h
    rw [enc_cons, linesF_line (h x (by simp)), ih (fun z hz => h z (by simp [hz]))]; rfl
theorem bareF_clean {x : List UInt8} (h : Clean x) : ∀ (p : UInt8) (r : List UInt8), bareF p (x ++ r) = bareF ((x.getLast?).getD p) r ∨ x = [] := by
  induction x with
  | nil => intro p r; exact .inr rfl
  | cons c t ih =>
    rw [clean_cons] at h
    intro p r
    left
    rw [List.cons_append, bareF]
    have e : (decide (c = 0) || decide (c = 13) && decide ((t ++ r).head? ≠ some 10) || decide (c = 10) && decide (p ≠ 13)) = false := by
      simp [h.1.1, h.1.2.1, h.1.2.2]
    rw [e, Bool.false_or]
    rcases ih h.2 c r with h2 | h2
    · rw [h2]
      cases t with
      | nil => rfl
      | cons d t' => rw [List.getLast?_cons_cons]; simp [List.getLast?_cons]
    · subst h2; rfl
theorem bareF_crlf (p : UInt8) (r : List UInt8) : bareF p (13 :: 10 :: r) = bareF 10 r := by
  rw [bareF, bareF]
  simp
theorem bareF_line {x : List UInt8} (h : Clean x) (p : UInt8) (r : List UInt8) : bareF p (x ++ 13 :: 10 :: r) = bareF 10 r := by
  rcases bareF_clean h p (13 :: 10 :: r) with e | e
  · rw [e, bareF_crlf]
  · subst e; exact bareF_crlf p r
theorem bare_enc : ∀ (ls : List (List UInt8)), (∀ x ∈ ls, Clean x) → ∀ p, bareF p (enc ls) = false := by
  intro ls
  induction ls with
  | nil => intro _ p; show bareF p (13 :: 10 :: []) = false; rw [bareF_crlf]; rfl
  | cons x xs ih =>
    intro h p
    rw [enc_cons, bareF_line (h x (by simp)), ih (fun z hz => h z (by simp [hz]))]
end Go.Proofs.YtfmgfcddnnggeaaGreatDoor

/- Heads of messages as lists of bytes: prefixes, and a byte inserted. -/
namespace Go.Proofs.YtfmgfcddnnggeaaGreatDoor

theorem end4_some : ∀ {l : List UInt8} {n : Nat}, end4 l = some n → 4 ≤ n ∧ n ≤ l.length := by
  intro l
  induction l with
  | nil => intro n h; cases h
  | cons c r ih =>
    intro n h
    rw [end4] at h
    by_cases hc : c = 13 ∧ r.take 3 = [10, 13, 10]
    · rw [if_pos hc] at h
      obtain rfl := Option.some.inj h
      have := congrArg List.length hc.2
      simp at this ⊢
      omega
    · rw [if_neg hc] at h
      cases h2 : end4 r with
      | none => rw [h2] at h; cases h
      | some m =>
        rw [h2] at h
        obtain rfl := Option.some.inj h
        have := ih h2
        simp; omega
theorem end4_small {l : List UInt8} (h : l.length < 4) : end4 l = none := by
  cases h2 : end4 l with
  | none => rfl
  | some n => have := end4_some h2; omega
theorem end4_pre : ∀ {l : List UInt8} {n : Nat}, end4 l = some n → ∀ r, end4 (l.take n ++ r) = some n := by
  intro l
  induction l with
  | nil => intro n h; cases h
  | cons c t ih =>
    intro n h r
    rw [end4] at h
    by_cases hc : c = 13 ∧ t.take 3 = [10, 13, 10]
    · rw [if_pos hc] at h
      obtain rfl := Option.some.inj h
      obtain ⟨rfl, h3⟩ := hc
      rw [List.take_succ_cons, h3]
      exact end4_hit r
    · rw [if_neg hc] at h
      cases h2 : end4 t with
      | none => rw [h2] at h; cases h
      | some m =>
        rw [h2] at h
        obtain rfl := Option.some.inj h
        have hm := end4_some h2
        have e : (t.take m ++ r).take 3 = t.take 3 := by
          rw [List.take_append_of_le_length (by rw [List.length_take]; omega), List.take_take, Nat.min_eq_left (by omega)]
        show end4 ((c :: t).take (m + 1) ++ r) = _
        rw [List.take_succ_cons, List.cons_append, end4, if_neg (by rw [e]; exact hc), ih h2]; rfl
theorem end4_short : ∀ {l : List UInt8} {n i : Nat}, end4 l = some n → i < n → end4 (l.take i) = none := by
  intro l
  induction l with
  | nil => intro n i h; cases h
  | cons c t ih =>
    intro n i h hi
    rw [end4] at h
    cases i with
    | zero => rfl
    | succ i =>
      by_cases hc : c = 13 ∧ t.take 3 = [10, 13, 10]
      · rw [if_pos hc] at h
        obtain rfl := Option.some.inj h
        exact end4_small (by rw [List.length_take]; omega)
      · rw [if_neg hc] at h
        cases h2 : end4 t with
        | none => rw [h2] at h; cases h
        | some m =>
          rw [h2] at h
          obtain rfl := Option.some.inj h
          rw [List.take_succ_cons, end4, if_neg, ih h2 (by simp at hi; omega)]
          · rfl
          · rintro ⟨h13, h3⟩
            apply hc
            refine ⟨h13, ?_⟩
            rw [List.take_take] at h3
            by_cases hi3 : 3 ≤ i
            · rwa [Nat.min_eq_left hi3] at h3
            · have := congrArg List.length h3
              rw [List.length_take] at this
              simp at this; omega
/-- No bare byte, position by position. -/
theorem bareF_iff : ∀ (l : List UInt8) (p : UInt8), bareF p l = false ↔ ((∀ i : Nat, l[i]? ≠ some 0) ∧ (∀ i : Nat, l[i]? = some 13 → l[i + 1]? = some 10) ∧ (∀ i : Nat, l[i + 1]? = some 10 → l[i]? = some 13) ∧ (l[0]? = some 10 → p = 13)) := by
  intro l
  induction l with
  | nil => intro p; simp [bareF]
  | cons c r ih =>
    intro p
    rw [bareF]
    simp only [Bool.or_eq_false_iff, Bool.and_eq_false_iff, decide_eq_false_iff_not, Decidable.not_not, ih c]
    have hd : r.head? = r[0]? := List.head?_eq_getElem?
    constructor
    · rintro ⟨⟨⟨h0, h13⟩, h10⟩, a, b, d, e⟩
      refine ⟨?_, ?_, ?_, ?_⟩
      · intro i; cases i with
        | zero => simp only [List.getElem?_cons_zero]; intro h; exact h0 (Option.some.inj h)
        | succ i => simp only [List.getElem?_cons_succ]; exact a i
      · intro i; cases i with
        | zero =>
          simp only [List.getElem?_cons_zero, List.getElem?_cons_succ]
          intro h
          rcases h13 with h2 | h2
          · exact absurd (Option.some.inj h) h2
          · rw [← hd]; exact h2
        | succ i => simp only [List.getElem?_cons_succ]; exact b i
      · intro i; cases i with
        | zero => simp only [List.getElem?_cons_zero, List.getElem?_cons_succ]; intro h; rw [e h]
        | succ i => simp only [List.getElem?_cons_succ]; exact d i
      · simp only [List.getElem?_cons_zero]
        intro h
        rcases h10 with h2 | h2
        · exact absurd (Option.some.inj h) h2
        · exact h2
    · rintro ⟨a, b, d, e⟩
      refine ⟨⟨⟨?_, ?_⟩, ?_⟩, ?_, ?_, ?_, ?_⟩
      · intro h; exact a 0 (by simp [h])
      · by_cases h : c = 13
        · right; rw [hd]; have := b 0 (by simp [h]); simpa using this
        · exact .inl h
      · by_cases h : c = 10
        · right; exact e (by simp [h])
        · exact .inl h
      · intro i; have := a (i + 1); simpa using this
      · intro i h; have := b (i + 1) (by simpa using h); simpa using this
      · intro i h; have := d (i + 1) (by simpa using h); simpa using this
      · intro h; have := d 0 (by simpa using h); simpa using this
theorem endO_ne {h : List UInt8} (h2 : h.take 2 ≠ [13, 10]) (r : List UInt8) (hl : 2 ≤ h.length) : endO (h ++ r) = end4 (h ++ r) := by
  unfold endO; rw [if_neg]; rw [List.take_append_of_le_length hl]; exact h2
/-- Where the head of h ends, with a byte inserted: not before it; and then it is bare, unless it is the last LF again. -/
theorem insert_bare {h : List UInt8} {i n' : Nat} {c : UInt8} (he : end4 h = some h.length) (hb : bareF 0 h = false) (hi : i < h.length) (hc : c = 0 ∨ c = 13 ∨ c = 10) (hx : ¬ (c = 10 ∧ i + 1 = h.length))
    (hn : end4 (h.take i ++ c :: h.drop i) = some n') : bareF 0 ((h.take i ++ c :: h.drop i).take n') = true := by
  have hs := end4_some he
  have hti : (h.take i).length = i := by rw [List.length_take]; omega
  have hn' := end4_some hn
  have hin : i < n' := by
    apply Classical.byContradiction
    intro hh
    have e1 := end4_pre hn []
    rw [List.append_nil, List.take_append_of_le_length (by omega), List.take_take, Nat.min_eq_left (by omega)] at e1
    rw [end4_short he (show n' < h.length by omega)] at e1
    cases e1
  obtain ⟨z0, z13, z10, zf⟩ := (bareF_iff h 0).1 hb
  obtain ⟨s', hs'⟩ : ∃ s', s' = h.take i ++ c :: h.drop i := ⟨_, rfl⟩
  have gl : ∀ j, j < i → s'[j]? = h[j]? := fun j hj => by
    rw [hs', List.getElem?_append_left (by omega), List.getElem?_take_of_lt hj]
  have gi : s'[i]? = some c := by rw [hs', List.getElem?_append_right (by omega), hti, Nat.sub_self]; rfl
  have gr : ∀ j, s'[i + 1 + j]? = h[i + j]? := fun j => by
    rw [hs', List.getElem?_append_right (by omega), hti, show i + 1 + j - i = j + 1 by omega, List.getElem?_cons_succ, List.getElem?_drop]
  rw [← hs'] at hn ⊢
  rw [← hs'] at hn'
  have gt : ∀ j, j < n' → (s'.take n')[j]? = s'[j]? := fun j hj => List.getElem?_take_of_lt hj
  apply Classical.byContradiction
  intro hh
  have hf : bareF 0 (s'.take n') = false := by simpa using hh
  obtain ⟨y0, y13, y10, yf⟩ := (bareF_iff _ 0).1 hf
  have hci : (s'.take n')[i]? = some c := (gt i hin).trans gi
  rcases hc with rfl | rfl | rfl
  · exact y0 i hci
  · have e1 := y13 i hci
    have hlt : i + 1 < n' := by
      apply Classical.byContradiction
      intro hk
      rw [List.getElem?_eq_none (by rw [List.length_take]; omega)] at e1
      cases e1
    rw [gt _ hlt] at e1
    have e2 := gr 0
    rw [Nat.add_zero, Nat.add_zero] at e2
    rw [e2] at e1
    cases i with
    | zero => have := zf e1; exact absurd this (by decide)
    | succ i =>
      have e3 := z10 i e1
      have e4 := y13 i (by rw [gt i (by omega), gl i (by omega)]; exact e3)
      rw [hci] at e4
      exact absurd (Option.some.inj e4) (by decide)
  · cases i with
    | zero => have := yf hci; exact absurd this (by decide)
    | succ i =>
      have e1 := y10 i hci
      rw [gt i (by omega), gl i (by omega)] at e1
      have e2 := z13 i e1
      have e3 := gr 0
      rw [Nat.add_zero, Nat.add_zero, e2] at e3
      by_cases hlt : i + 1 + 1 < n'
      · have e4 := y10 (i + 1) (by rw [gt _ hlt]; exact e3)
        rw [hci] at e4
        exact absurd (Option.some.inj e4) (by decide)
      · have hne : n' = i + 2 := by omega
        subst hne
        have e5 : s'.take (i + 2) = h.take (i + 2) := by
          apply List.ext_getElem?
          intro j
          by_cases hj : j < i + 1
          · rw [gt j (by omega), gl j hj, List.getElem?_take_of_lt (by omega)]
          · by_cases hj2 : j = i + 1
            · subst hj2; rw [hci, List.getElem?_take_of_lt (by omega)]; exact e2.symm
            · rw [List.getElem?_eq_none (by rw [List.length_take]; omega), List.getElem?_eq_none (by rw [List.length_take]; omega)]
        have e6 := end4_pre hn []
        rw [List.append_nil, e5] at e6
        by_cases hl : i + 2 < h.length
        · rw [end4_short he hl] at e6; cases e6
        · exact hx ⟨rfl, by omega⟩
end Go.Proofs.YtfmgfcddnnggeaaGreatDoor

/- Reading and writing heads, in lists of bytes: requests. nm, vl, hs: what names, values and hosts are read as; lw: lower case. -/
namespace Go.Proofs.YtfmgfcddnnggeaaGreatDoor

structure Flk (nm vl hs : List UInt8 → Option (List UInt8)) (lw : List UInt8 → List UInt8) : Prop where
  nm_lw : ∀ {x y}, nm x = some y → y = lw x
  nm_id : ∀ {x y}, nm x = some y → nm y = some y
  nm_ok : ∀ {x y}, nm x = some y → x ≠ [] ∧ ∀ c ∈ x, c ≠ 0 ∧ c ≠ 13 ∧ c ≠ 10 ∧ c ≠ 58 ∧ c ≠ 32 ∧ c ≠ 9
  vl_ok : ∀ {x y}, vl x = some y → Clean x
  vl_id : ∀ {x y}, vl x = some y → vl y = some y ∧ y.length ≤ x.length
  vl_sp : ∀ {y}, vl y = some y → vl (32 :: y) = some y
  hs_lw : ∀ {x y}, hs x = some y → y = lw x
  hs_id : ∀ {x y}, hs x = some y → hs y = some y
  hs_vl : ∀ {x y}, hs x = some y → vl y = some y
  lw_len : ∀ x, (lw x).length = x.length
  lw_id : ∀ x, lw (lw x) = lw x
/-- What stands before the first c, and behind it. -/
def cut1 (c : UInt8) : List UInt8 → Option (List UInt8 × List UInt8)
  | [] => none
  | x :: t => if x = c then some ([], t) else (cut1 c t).map fun p => (x :: p.1, p.2)
def cutG (c : UInt8) (l : List UInt8) : List UInt8 × List UInt8 := (cut1 c l).getD (l, [])
theorem cut1_at {c : UInt8} {a : List UInt8} (h : c ∉ a) (b : List UInt8) : cut1 c (a ++ c :: b) = some (a, b) := by
  induction a with
  | nil => rw [List.nil_append, cut1, if_pos rfl]
  | cons x t ih =>
    simp only [List.mem_cons, not_or] at h
    rw [List.cons_append, cut1, if_neg (fun e => h.1 e.symm), ih h.2]; rfl
theorem cut1_some {c : UInt8} : ∀ {l a b : List UInt8}, cut1 c l = some (a, b) → l = a ++ c :: b ∧ c ∉ a := by
  intro l
  induction l with
  | nil => intro a b h; cases h
  | cons x t ih =>
    intro a b h
    rw [cut1] at h
    by_cases hx : x = c
    · rw [if_pos hx] at h
      obtain ⟨rfl, rfl⟩ := Prod.mk.inj (Option.some.inj h)
      exact ⟨by rw [hx]; rfl, by simp⟩
    · rw [if_neg hx] at h
      cases h2 : cut1 c t with
      | none => rw [h2] at h; cases h
      | some p =>
        rw [h2] at h
        obtain ⟨rfl, rfl⟩ := Prod.mk.inj (Option.some.inj h)
        obtain ⟨e1, e2⟩ := ih h2
        exact ⟨by rw [e1]; rfl, by simp only [List.mem_cons, not_or]; exact ⟨fun e => hx e.symm, e2⟩⟩
def wsB (c : UInt8) : Bool := decide (c = 32) || decide (c = 9)
abbrev Fs := List (List UInt8 × List UInt8)
section
variable (nm vl hs : List UInt8 → Option (List UInt8)) (lw : List UInt8 → List UInt8)
/-- A header line, read: the error's number, or the field. -/
def readF (l : List UInt8) : Nat × (List UInt8 × List UInt8) :=
  if l.head?.any wsB = true then (23, [], [])
  else match cut1 58 l with
    | none => (25, [], [])
    | some (b, a) =>
      if b = [] then (25, [], [])
      else if b.any wsB = true then (24, [], [])
      else match nm b, vl a with
        | some y, some v => (0, y, v)
        | _, _ => (25, [], [])
def readFs : List (List UInt8) → Nat × Fs
  | [] => (0, [])
  | l :: r => if (readF nm vl l).1 ≠ 0 then ((readF nm vl l).1, []) else if (readFs r).1 ≠ 0 then ((readFs r).1, []) else (0, (readF nm vl l).2 :: (readFs r).2)
def hostN : List UInt8 := [104, 111, 115, 116]
/-- The fields with their hosts, and how many there are. -/
def hostF : Fs → Option (Fs × Nat)
  | [] => some ([], 0)
  | f :: r => if lw f.1 = hostN then (hs f.2).bind fun h => (hostF r).map fun p => ((f.1, h) :: p.1, p.2 + 1) else (hostF r).map fun p => (f :: p.1, p.2)
def hosted (fs : Fs) : Option Fs := (hostF hs lw fs).bind fun p => if p.2 = 1 then some p.1 else none
def verL : List UInt8 := [72, 84, 84, 80, 47, 49, 46, 49]
def methodB (m : List UInt8) : Bool := m.all (fun c => decide (65 ≤ c.toNat) && decide (c.toNat ≤ 90)) && decide (1 ≤ m.length) && decide (m.length ≤ 16)
def targetB (m t : List UInt8) : Bool := t.all (fun c => decide (33 ≤ c.toNat) && decide (c.toNat ≤ 126)) && decide (1 ≤ t.length) && decide (t.length ≤ 2048) && (decide (t.head? = some 47) || (decide (t = [42]) && decide (m = [79, 80, 84, 73, 79, 78, 83])))
/-- The lines of a head without the empty one, its length, and the error's number. -/
def splitG (s : List UInt8) : Nat × List (List UInt8) × Nat :=
  match endO s with
  | none => (if s.length < 8192 then 21 else 5, [], 0)
  | some n =>
    if 8192 < n ∨ 66 < (linesF [] (s.take n)).length then (5, [], 0)
    else if n = 2 ∨ bareF 0 (s.take n) = true then (22, [], 0)
    else (0, (linesF [] (s.take n)).dropLast, n)
abbrev Rq := List UInt8 × List UInt8 × Fs
/-- A request, read from its lines. -/
def reqL (l : List (List UInt8)) : Nat × Rq :=
  let m := (cutG 32 (l.headD [])).1
  let r := (cutG 32 (l.headD [])).2
  if methodB m = false then (26, [], [], [])
  else if targetB m (cutG 32 r).1 = false then (27, [], [], [])
  else if (cutG 32 r).2 ≠ verL then (28, [], [], [])
  else if (readFs nm vl l.tail).1 ≠ 0 then ((readFs nm vl l.tail).1, [], [], [])
  else match hosted hs lw (readFs nm vl l.tail).2 with
    | none => (29, [], [], [])
    | some fs => (0, m, (cutG 32 r).1, fs)
def readQ (s : List UInt8) : Nat × Rq × Nat :=
  if (splitG s).1 ≠ 0 then ((splitG s).1, ([], [], []), 0)
  else if (reqL nm vl hs lw (splitG s).2.1).1 ≠ 0 then ((reqL nm vl hs lw (splitG s).2.1).1, ([], [], []), 0)
  else (0, (reqL nm vl hs lw (splitG s).2.1).2, (splitG s).2.2)
def startQ (m t : List UInt8) : List UInt8 := m ++ 32 :: (t ++ 32 :: verL)
/-- A field's line as it is written. -/
def lineW (f : List UInt8 × List UInt8) : List UInt8 := (nm f.1).getD f.1 ++ 58 :: 32 :: f.2
def goodB (fs : Fs) : Bool := fs.all fun f => (nm f.1).isSome && decide (vl f.2 = some f.2)
def writeQ (q : Rq) : Nat × List UInt8 :=
  if 64 < q.2.2.length ∨ 8192 < (enc (startQ q.1 q.2.1 :: q.2.2.map (lineW nm))).length then (5, [])
  else if methodB q.1 = false then (26, [])
  else if targetB q.1 q.2.1 = false then (27, [])
  else if goodB nm vl q.2.2 = false then (25, [])
  else match hosted hs lw q.2.2 with
    | none => (29, [])
    | some fs => (0, enc (startQ q.1 q.2.1 :: fs.map (lineW nm)))
end
/-- A head that is divided without an error is that of lines. -/
theorem splitG_some {s : List UInt8} {l : List (List UInt8)} {n : Nat} (h : splitG s = (0, l, n)) : l ≠ [] ∧ (∀ x ∈ l, Clean x ∧ x ≠ []) ∧ s.take n = enc l ∧ n = (enc l).length ∧ n ≤ s.length ∧ n ≤ 8192 ∧ l.length ≤ 65 := by
  unfold splitG at h
  cases he : endO s with
  | none => rw [he] at h; simp only at h; split at h <;> exact absurd (congrArg Prod.fst h) (by simp)
  | some k =>
    rw [he] at h
    simp only at h
    by_cases h1 : 8192 < k ∨ 66 < (linesF [] (s.take k)).length
    · rw [if_pos h1] at h; exact absurd (congrArg Prod.fst h) (by simp)
    · rw [if_neg h1] at h
      by_cases h2 : k = 2 ∨ bareF 0 (s.take k) = true
      · rw [if_pos h2] at h; exact absurd (congrArg Prod.fst h) (by simp)
      · rw [if_neg h2] at h
        have e := congrArg Prod.snd h
        obtain ⟨e1, e2⟩ := Prod.mk.inj e
        subst e2
        simp only [not_or, Bool.not_eq_true] at h1 h2
        have hk : end4 s = some k ∧ s.take 2 ≠ [13, 10] := by
          unfold endO at he
          by_cases h3 : s.take 2 = [13, 10]
          · rw [if_pos h3] at he; exact absurd (Option.some.inj he).symm h2.1
          · rw [if_neg h3] at he; exact ⟨he, h3⟩
        have hk2 := end4_some hk.1
        have hke := end4_pre hk.1 []
        rw [List.append_nil] at hke
        have hlen : (s.take k).length = k := by rw [List.length_take]; omega
        obtain ⟨ls, t, c1, c2, c3⟩ := bare_flat _ (s.take k) 0 (Nat.le_refl _) (by decide) h2.2
        have hne : ∀ x xs, ls = x :: xs → x ≠ [] := by
          rintro x xs rfl rfl
          rw [flat_cons] at c3
          apply hk.2
          have := congrArg (List.take 2) c3
          rw [List.take_take, Nat.min_eq_left (by omega)] at this
          rw [this]; rfl
        obtain ⟨ks, k1, k2, k3⟩ := enc_of ls t c1 c2 hne (by rw [← c3, hke, hlen])
        have c4 : s.take k = enc ks := c3.trans k3
        have hl : linesF [] (s.take k) = ks ++ [[]] := by rw [c4]; exact linesF_enc ks fun x hx => (k2 x hx).1
        rw [hl, List.dropLast_concat] at e1
        subst e1
        rw [hl, List.length_append] at h1
        exact ⟨k1, k2, c4, by rw [← c4, hlen], hk2.2, by omega, by simp at h1; omega⟩
theorem splitG_enc {l : List (List UInt8)} (h : l ≠ []) (hc : ∀ x ∈ l, Clean x ∧ x ≠ []) (hn : (enc l).length ≤ 8192) (hl : l.length ≤ 65) (r : List UInt8) : splitG (enc l ++ r) = (0, l, (enc l).length) := by
  have e : (enc l ++ r).take (enc l).length = enc l := by rw [List.take_append_of_le_length (Nat.le_refl _), List.take_length]
  have hl2 : linesF [] (enc l) = l ++ [[]] := linesF_enc l fun x hx => (hc x hx).1
  have hn2 : (enc l).length ≠ 2 := by
    cases l with
    | nil => exact absurd rfl h
    | cons x xs =>
      have := (hc x (by simp)).2
      have hp : 0 < x.length := List.length_pos_iff.2 this
      rw [enc_cons]; simp; omega
  unfold splitG
  rw [endO_enc h hc]
  simp only
  rw [e, hl2, if_neg (by simp; omega), if_neg (by rw [bare_enc l fun x hx => (hc x hx).1]; simp [hn2]), List.dropLast_concat]
end Go.Proofs.YtfmgfcddnnggeaaGreatDoor
