/- Heads of messages as lists of bytes: where a head ends, its lines, bare bytes; a head that is accepted is the text of its lines. -/
namespace Go.Proofs.YthjkneifffdglaaDoor

/-- The end of the first CR LF CR LF. -/
def end4 : List UInt8 → Option Nat
  | [] => none
  | c :: r => if c = 13 ∧ r.take 3 = [10, 13, 10] then some 4 else (end4 r).map (· + 1)
/-- The end of a head. -/
def endO (l : List UInt8) : Option Nat := if l.take 2 = [13, 10] then some 2 else end4 l
/-- Is there a CR without LF, an LF without CR, or a byte 0? p is the byte before. -/
def bareF (p : UInt8) : List UInt8 → Bool
  | [] => false
  | c :: r => decide (c = 0) || (decide (c = 13) && decide (r.head? ≠ some 10)) || (decide (c = 10) && decide (p ≠ 13)) || bareF c r
/-- The lines that end with CR LF; cur is what stands before. -/
def linesF (cur : List UInt8) : List UInt8 → List (List UInt8)
  | [] => []
  | c :: r => if c = 13 ∧ r.head? = some 10 then cur :: linesF [] r.tail else linesF (cur ++ [c]) r
termination_by l => l.length
decreasing_by all_goals simp_wf; all_goals (try have := List.length_tail (l := r)); all_goals (try omega)
/-- No CR, no LF, no byte 0. -/
def Clean (l : List UInt8) : Prop := ∀ c ∈ l, c ≠ 0 ∧ c ≠ 13 ∧ c ≠ 10
/-- Lines and what ends them. -/
def flat (ls : List (List UInt8)) : List UInt8 := ls.flatMap (· ++ [13, 10])
/-- The head that has these lines. -/
def enc (ls : List (List UInt8)) : List UInt8 := flat ls ++ [13, 10]
theorem flat_cons (x : List UInt8) (ls : List (List UInt8)) : flat (x :: ls) = x ++ 13 :: 10 :: flat ls := by simp [flat]
theorem enc_cons (x : List UInt8) (ls : List (List UInt8)) : enc (x :: ls) = x ++ 13 :: 10 :: enc ls := by simp [enc, flat_cons]
theorem clean_nil : Clean [] := by intro c h; cases h
theorem clean_cons {c : UInt8} {l : List UInt8} : Clean (c :: l) ↔ (c ≠ 0 ∧ c ≠ 13 ∧ c ≠ 10) ∧ Clean l := by
  constructor
  · intro h; exact ⟨h c (by simp), fun d hd => h d (by simp [hd])⟩
  · intro h d hd
    rcases List.mem_cons.1 hd with rfl | hd
    · exact h.1
    · exact h.2 d hd
theorem clean_app {a b : List UInt8} : Clean (a ++ b) ↔ Clean a ∧ Clean b := by
  constructor
  · intro h; exact ⟨fun c hc => h c (by simp [hc]), fun c hc => h c (by simp [hc])⟩
  · intro h c hc
    rcases List.mem_append.1 hc with hc | hc
    · exact h.1 c hc
    · exact h.2 c hc
theorem end4_clean {x : List UInt8} (h : Clean x) (r : List UInt8) : end4 (x ++ r) = (end4 r).map (· + x.length) := by
  induction x with
  | nil => simp
  | cons c t ih =>
    rw [clean_cons] at h
    rw [List.cons_append, end4, if_neg (by intro e; exact h.1.2.1 e.1), ih h.2]
    cases end4 r <;> simp; omega
theorem end4_hit (r : List UInt8) : end4 (13 :: 10 :: 13 :: 10 :: r) = some 4 := by rw [end4, if_pos ⟨rfl, rfl⟩]
theorem end4_crlf {r : List UInt8} (h : r.take 2 ≠ [13, 10]) : end4 (13 :: 10 :: r) = (end4 r).map (· + 2) := by
  rw [end4, if_neg (by rintro ⟨_, e⟩; apply h; rw [List.take_succ_cons] at e; injection e), end4, if_neg (by rintro ⟨e, _⟩; exact absurd e (by decide))]
  cases end4 r <;> simp
theorem take2_line {y : List UInt8} (h : Clean y) (hne : y ≠ []) (r : List UInt8) : (y ++ r).take 2 ≠ [13, 10] := by
  cases y with
  | nil => exact absurd rfl hne
  | cons c t =>
    rw [clean_cons] at h
    intro e
    rw [List.cons_append, List.take_succ_cons] at e
    injection e with e1 _
    exact h.1.2.1 e1
/-- The head of clean lines, none of them empty, ends where its text ends. -/
theorem end4_enc : ∀ (ls : List (List UInt8)), ls ≠ [] → (∀ x ∈ ls, Clean x ∧ x ≠ []) → ∀ r, end4 (enc ls ++ r) = some (enc ls).length := by
  intro ls
  induction ls with
  | nil => intro h; exact absurd rfl h
  | cons x xs ih =>
    intro _ hc r
    obtain ⟨hx, hxn⟩ := hc x (by simp)
    rw [enc_cons, List.append_assoc, end4_clean hx]
    cases xs with
    | nil =>
      show Option.map _ (end4 (13 :: 10 :: 13 :: 10 :: r)) = _
      rw [end4_hit]; simp [enc, flat]; omega
    | cons y ys =>
      obtain ⟨hy, hyn⟩ := hc y (by simp)
      have e : (13 :: 10 :: enc (y :: ys)) ++ r = 13 :: 10 :: (enc (y :: ys) ++ r) := rfl
      rw [e, end4_crlf (by rw [enc_cons, List.append_assoc]; exact take2_line hy hyn _), ih (by simp) (fun z hz => hc z (by simp [hz])) r]
      simp; omega
theorem endO_enc {ls : List (List UInt8)} (h : ls ≠ []) (hc : ∀ x ∈ ls, Clean x ∧ x ≠ []) (r : List UInt8) : endO (enc ls ++ r) = some (enc ls).length := by
  unfold endO
  rw [if_neg, end4_enc ls h hc]
  cases ls with
  | nil => exact absurd rfl h
  | cons x xs =>
    obtain ⟨hx, hxn⟩ := hc x (by simp)
    rw [enc_cons, List.append_assoc]; exact take2_line hx hxn _
/-- A text without bare bytes is divided into clean lines and a clean rest. -/
theorem bare_flat : ∀ (k : Nat) (l : List UInt8) (p : UInt8), l.length ≤ k → p ≠ 13 → bareF p l = false → ∃ ls t, (∀ x ∈ ls, Clean x) ∧ Clean t ∧ l = flat ls ++ t := by
  intro k
  induction k with
  | zero =>
    intro l p hk _ _
    obtain rfl : l = [] := List.eq_nil_of_length_eq_zero (by omega)
    exact ⟨[], [], by simp, clean_nil, rfl⟩
  | succ k ih =>
    intro l p hk hp hb
    cases l with
    | nil => exact ⟨[], [], by simp, clean_nil, rfl⟩
    | cons c r =>
      rw [bareF] at hb
      simp only [Bool.or_eq_false_iff, Bool.and_eq_false_iff, decide_eq_false_iff_not, Decidable.not_not] at hb
      obtain ⟨⟨⟨h0, h13⟩, h10⟩, hr⟩ := hb
      have h10' : c ≠ 10 := by
        rcases h10 with h | h
        · exact h
        · exact absurd h hp
      by_cases e : c = 13
      · subst e
        have hh : r.head? = some 10 := by
          rcases h13 with h | h
          · exact absurd rfl h
          · exact h
        cases r with
        | nil => cases hh
        | cons d r2 =>
          have : d = 10 := Option.some.inj hh
          subst this
          rw [bareF] at hr
          simp only [Bool.or_eq_false_iff] at hr
          obtain ⟨ls, t, h1, h2, rfl⟩ := ih r2 10 (by simp at hk; omega) (by decide) hr.2
          exact ⟨[] :: ls, t, by intro x hx; rcases List.mem_cons.1 hx with rfl | hx; exact clean_nil; exact h1 x hx, h2, by rw [flat_cons]; rfl⟩
      · obtain ⟨ls, t, h1, h2, rfl⟩ := ih r c (by simp at hk; omega) e hr
        cases ls with
        | nil => exact ⟨[], c :: t, by simp, clean_cons.2 ⟨⟨h0, e, h10'⟩, h2⟩, rfl⟩
        | cons y ys =>
          refine ⟨(c :: y) :: ys, t, ?_, h2, by rw [flat_cons, flat_cons]; rfl⟩
          intro x hx
          rcases List.mem_cons.1 hx with rfl | hx
          · exact clean_cons.2 ⟨⟨h0, e, h10'⟩, h1 y (by simp)⟩
          · exact h1 x (by simp [hx])
/-- A text in clean lines that ends where its first empty line ends is the head of lines that are not empty. -/
theorem enc_of : ∀ (ls : List (List UInt8)) (t : List UInt8), (∀ x ∈ ls, Clean x) → Clean t → (∀ x xs, ls = x :: xs → x ≠ []) → end4 (flat ls ++ t) = some (flat ls ++ t).length →
    ∃ ks, ks ≠ [] ∧ (∀ x ∈ ks, Clean x ∧ x ≠ []) ∧ flat ls ++ t = enc ks := by
  intro ls
  induction ls with
  | nil =>
    intro t _ ht _ he
    have := end4_clean ht []
    rw [List.append_nil] at this
    rw [show flat [] ++ t = t from rfl, this] at he
    cases he
  | cons x xs ih =>
    intro t hc ht hne he
    have hx := hc x (by simp)
    have hxn := hne x xs rfl
    rw [flat_cons, List.append_assoc, end4_clean hx] at he
    cases xs with
    | nil =>
      exfalso
      rw [show (13 :: 10 :: flat []) ++ t = 13 :: 10 :: t from rfl, end4_crlf (by
        cases t with
        | nil => simp
        | cons c t' => rw [clean_cons] at ht; intro e; injection e with e1 _; exact ht.1.2.1 e1)] at he
      have h2 := end4_clean ht []
      rw [List.append_nil] at h2
      rw [h2] at he
      cases he
    | cons y ys =>
      by_cases hy : y = []
      · subst hy
        have e : (13 :: 10 :: flat ([] :: ys)) ++ t = 13 :: 10 :: 13 :: 10 :: (flat ys ++ t) := by rw [flat_cons]; rfl
        rw [e, end4_hit] at he
        simp only [Option.map_some, Option.some.injEq, List.length_append, List.length_cons] at he
        have hz : flat ys ++ t = [] := List.eq_nil_of_length_eq_zero (by rw [List.length_append]; omega)
        refine ⟨[x], by simp, by intro z hz; rw [List.mem_singleton] at hz; rw [hz]; exact ⟨hx, hxn⟩, ?_⟩
        rw [flat_cons, List.append_assoc, e, hz]; simp [enc, flat]
      · have hyc := hc y (by simp)
        have e : (13 :: 10 :: flat (y :: ys)) ++ t = 13 :: 10 :: (flat (y :: ys) ++ t) := rfl
        rw [e, end4_crlf (by rw [flat_cons, List.append_assoc]; exact take2_line hyc hy _)] at he
        have he2 : end4 (flat (y :: ys) ++ t) = some (flat (y :: ys) ++ t).length := by
          cases h : end4 (flat (y :: ys) ++ t) with
          | none => rw [h] at he; cases he
          | some n =>
            rw [h] at he
            simp only [Option.map_some, Option.some.injEq, List.length_append, List.length_cons] at he
            rw [List.length_append]; congr 1; omega
        obtain ⟨ks, k1, k2, k3⟩ := ih t (fun z hz => hc z (by simp [hz])) ht (fun a az hh => by injection hh with h1 _; rw [← h1]; exact hy) he2
        refine ⟨x :: ks, by simp, ?_, ?_⟩
        · intro z hz
          rcases List.mem_cons.1 hz with rfl | hz
          · exact ⟨hx, hxn⟩
          · exact k2 z hz
        · rw [enc_cons, ← k3, flat_cons, List.append_assoc]; rfl
theorem linesF_line {x : List UInt8} (h : Clean x) : ∀ (cur r : List UInt8), linesF cur (x ++ 13 :: 10 :: r) = (cur ++ x) :: linesF [] r := by
  induction x with
  | nil => intro cur r; rw [List.nil_append, linesF, if_pos ⟨rfl, rfl⟩]; simp
  | cons c t ih =>
    rw [clean_cons] at h
    intro cur r
    rw [List.cons_append, linesF, if_neg (by rintro ⟨e, _⟩; exact h.1.2.1 e), ih h.2]; simp
theorem linesF_enc : ∀ (ls : List (List UInt8)), (∀ x ∈ ls, Clean x) → linesF [] (enc ls) = ls ++ [[]] := by
  intro ls
  induction ls with
  | nil =>
    intro _
    show linesF [] (13 :: 10 :: []) = _
    rw [linesF, if_pos ⟨rfl, rfl⟩]; simp [linesF]
  | cons x xs ih =>
    intro h
    rw [enc_cons, linesF_line (h x (by simp)), ih (fun z hz => h z (by simp [hz]))]; rfl
theorem bareF_clean {x : List UInt8} (h : Clean x) : ∀ (p : UInt8) (r : List UInt8), bareF p (x ++ r) = bareF ((x.getLast?).getD p) r ∨ x = [] := by
  induction x with
  | nil => intro p r; exact .inr rfl
  | cons c t ih =>
    rw [clean_cons] at h
    intro p r
    left
    rw [List.cons_append, bareF]
    have e : (decide (c = 0) || decide (c = 13) && decide ((t ++ r).head? ≠ some 10) || decide (c = 10) && decide (p ≠ 13)) = false := by
      simp [h.1.1, h.1.2.1, h.1.2.2]
    rw [e, Bool.false_or]
    rcases ih h.2 c r with h2 | h2
    · rw [h2]
      cases t with
      | nil => rfl
      | cons d t' => rw [List.getLast?_cons_cons]; simp [List.getLast?_cons]
    · subst h2; rfl
theorem bareF_crlf (p : UInt8) (r : List UInt8) : bareF p (13 :: 10 :: r) = bareF 10 r := by
  rw [bareF, bareF]
  simp
theorem bareF_line {x : List UInt8} (h : Clean x) (p : UInt8) (r : List UInt8) : bareF p (x ++ 13 :: 10 :: r) = bareF 10 r := by
  rcases bareF_clean h p (13 :: 10 :: r) with e | e
  · rw [e, bareF_crlf]
  · subst e; exact bareF_crlf p r
theorem bare_enc : ∀ (ls : List (List UInt8)), (∀ x ∈ ls, Clean x) → ∀ p, bareF p (enc ls) = false := by
  intro ls
  induction ls with
  | nil => intro _ p; show bareF p (13 :: 10 :: []) = false; rw [bareF_crlf]; rfl
  | cons x xs ih =>
    intro h p
    rw [enc_cons, bareF_line (h x (by simp)), ih (fun z hz => h z (by simp [hz]))]
end Go.Proofs.YthjkneifffdglaaDoor
