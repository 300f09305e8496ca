/- Plain mathematics of chapter 10: the texts of entity tags; a list of them, divided at the commas outside quotes, and what the same list is when it is read from the left. -/
import Derived.Test.YtkpeaghbacoehaaGreatDoorFName
import Derived.Test.YtkpeaghbacoehaaGreatDoorRSpec
namespace Go.Proofs.YtkpeaghbacoehaaGreatDoor

abbrev Tg := Bool × List UInt8
def txtC (c : UInt8) : Bool := decide (32 < c.toNat) && c != 34 && c != 127
def txtB (l : List UInt8) : Bool := l.all txtC
def wkL (l : List UInt8) : Bool := [87, 47].isPrefixOf l
def unwL (l : List UInt8) : List UInt8 := if wkL l then l.drop 2 else l
def qtL (l : List UInt8) : Bool := [34].isPrefixOf l
def unqL (l : List UInt8) : List UInt8 := if qtL l then l.drop 1 else l
/-- The tag with whose text a text begins, and what follows. -/
def cutTL (l : List UInt8) : Option (Tg × List UInt8) :=
  if qtL (unwL l) = true ∧ (cut9 34 (unqL (unwL l))).2.2 = true ∧ txtB (cut9 34 (unqL (unwL l))).1 = true then some ((wkL l, (cut9 34 (unqL (unwL l))).1), (cut9 34 (unqL (unwL l))).2.1) else none
/-- The text of a tag. -/
def texL (t : Tg) : List UInt8 := (if t.1 then [87, 47] else []) ++ 34 :: (t.2 ++ [34])
def readTL (l : List UInt8) : Option Tg := match cutTL l with
  | some (t, r) => if r = [] then some t else none
  | none => none

theorem cut9_inv (c : UInt8) : ∀ l : List UInt8, (cut9 c l).2.2 = true → l = (cut9 c l).1 ++ c :: (cut9 c l).2.1 := by
  intro l
  induction l with
  | nil => intro h; simp [cut9] at h
  | cons x t ih =>
    intro h
    by_cases hx : x = c
    · subst hx; simp [cut9]
    · rw [cut9, if_neg hx] at h ⊢
      simp only [List.cons_append, List.cons.injEq, true_and]
      exact ih h
theorem wk_cases (l : List UInt8) : (∃ t, l = 87 :: 47 :: t ∧ wkL l = true ∧ unwL l = t) ∨ (wkL l = false ∧ unwL l = l) := by
  cases h : wkL l with
  | false => exact .inr ⟨rfl, by unfold unwL; rw [h]; rfl⟩
  | true =>
    refine .inl ?_
    have h2 := h
    unfold wkL at h2
    obtain ⟨t, rfl⟩ := List.isPrefixOf_iff_prefix.mp h2
    exact ⟨t, rfl, rfl, by unfold unwL; rw [h]; rfl⟩
theorem qt_cases (l : List UInt8) : (∃ t, l = 34 :: t ∧ qtL l = true ∧ unqL l = t) ∨ (qtL l = false ∧ unqL l = l) := by
  cases h : qtL l with
  | false => exact .inr ⟨rfl, by unfold unqL; rw [h]; rfl⟩
  | true =>
    refine .inl ?_
    have h2 := h
    unfold qtL at h2
    obtain ⟨t, rfl⟩ := List.isPrefixOf_iff_prefix.mp h2
    exact ⟨t, rfl, rfl, by unfold unqL; rw [h]; rfl⟩
theorem txt_not {l : List UInt8} (h : txtB l = true) : (34 : UInt8) ∉ l := fun hm => by
  have := List.all_eq_true.mp h _ hm
  revert this; decide
theorem cutTL_some {l : List UInt8} {t : Tg} {r : List UInt8} (h : cutTL l = some (t, r)) : txtB t.2 = true ∧ l = texL t ++ r := by
  unfold cutTL at h
  split at h
  · rename_i hc
    obtain ⟨h1, h2, h3⟩ := hc
    simp only [Option.some.injEq, Prod.mk.injEq] at h
    obtain ⟨rfl, rfl⟩ := h
    refine ⟨h3, ?_⟩
    have e := cut9_inv 34 _ h2
    rcases qt_cases (unwL l) with ⟨t, ht, _, hu⟩ | ⟨hf, _⟩
    · rw [hu] at e
      rcases wk_cases l with ⟨x, hx, hw, hux⟩ | ⟨hw, hux⟩
      · rw [hux] at ht
        show l = (if wkL l = true then [87, 47] else []) ++ 34 :: (_ ++ [34]) ++ _
        rw [hw, if_pos rfl]
        conv => lhs; rw [hx, ht, e]
        rw [hu]; simp
      · rw [hux] at ht
        show l = (if wkL l = true then [87, 47] else []) ++ 34 :: (_ ++ [34]) ++ _
        rw [hw, if_neg (by simp)]
        conv => lhs; rw [ht, e]
        rw [hu]; simp
    · rw [hf] at h1; cases h1
  · cases h
theorem cutTL_tex (t : Tg) (r : List UInt8) (h : txtB t.2 = true) : cutTL (texL t ++ r) = some (t, r) := by
  obtain ⟨k, a⟩ := t
  have hn := txt_not h
  have e2 : cut9 34 (a ++ 34 :: r) = (a, r, true) := cut9_app 34 _ _ hn
  have hq : qtL (34 :: (a ++ 34 :: r)) = true := rfl
  have hu : unqL (34 :: (a ++ 34 :: r)) = a ++ 34 :: r := rfl
  cases k with
  | true =>
    have e : texL (true, a) ++ r = 87 :: 47 :: 34 :: (a ++ 34 :: r) := by simp [texL]
    have hw : wkL (87 :: 47 :: 34 :: (a ++ 34 :: r)) = true := rfl
    have hx : unwL (87 :: 47 :: 34 :: (a ++ 34 :: r)) = 34 :: (a ++ 34 :: r) := rfl
    rw [e]; unfold cutTL
    rw [hx, hq, hu, e2, hw]
    simp only [true_and]
    rw [if_pos h]
  | false =>
    have e : texL (false, a) ++ r = 34 :: (a ++ 34 :: r) := by simp [texL]
    have hw : wkL (34 :: (a ++ 34 :: r)) = false := rfl
    have hx : unwL (34 :: (a ++ 34 :: r)) = 34 :: (a ++ 34 :: r) := rfl
    rw [e]; unfold cutTL
    rw [hx, hq, hu, e2, hw]
    simp only [true_and]
    rw [if_pos h]
theorem readTL_some {l : List UInt8} {t : Tg} (h : readTL l = some t) : txtB t.2 = true ∧ l = texL t := by
  unfold readTL at h
  cases hc : cutTL l with
  | none => rw [hc] at h; cases h
  | some p =>
    obtain ⟨t', r⟩ := p
    rw [hc] at h
    simp only at h
    split at h
    · rename_i hr
      subst hr
      cases h
      have := cutTL_some hc
      simpa using this
    · cases h
theorem readTL_tex (t : Tg) (h : txtB t.2 = true) : readTL (texL t) = some t := by
  have := cutTL_tex t [] h
  rw [List.append_nil] at this
  unfold readTL; rw [this]; rfl
theorem readTL_more (t : Tg) {r : List UInt8} (h : txtB t.2 = true) (hr : r ≠ []) : readTL (texL t ++ r) = none := by
  unfold readTL; rw [cutTL_tex t r h]; simp only; rw [if_neg hr]

/-- One part of a list: nothing, a tag, or a fault. -/
def addT (cur : List UInt8) (acc : List Tg) : Option (List Tg) :=
  if trimB cur = [] then some acc else (readTL (trimB cur)).map fun t => acc ++ [t]
def finT (acc : List Tg) : Option (List Tg) := if acc = [] then none else some acc
/-- The tags of a list, divided at its commas outside quotes; cur: the part so far. -/
def lstG : List UInt8 → Bool → List UInt8 → List Tg → Option (List Tg)
  | cur, _, [], acc => (addT cur acc).bind finT
  | cur, q, c :: l, acc =>
    if (if c = 34 then !q else q) = true ∨ c ≠ 44 then lstG (cur ++ [c]) (if c = 34 then !q else q) l acc
    else (addT cur acc).bind fun acc' => lstG [] (if c = 34 then !q else q) l acc'
def lstL (l : List UInt8) (acc : List Tg) : Option (List Tg) := lstG [] false l acc
theorem lstG_end (cur : List UInt8) (q : Bool) (acc : List Tg) : lstG cur q [] acc = (addT cur acc).bind finT := by rw [lstG]
theorem lstG_cons (cur : List UInt8) (q : Bool) (c : UInt8) (l : List UInt8) (acc : List Tg) : lstG cur q (c :: l) acc =
    if (if c = 34 then !q else q) = true ∨ c ≠ 44 then lstG (cur ++ [c]) (if c = 34 then !q else q) l acc
    else (addT cur acc).bind fun acc' => lstG [] (if c = 34 then !q else q) l acc' := by rw [lstG]

theorem blank_plain {c : UInt8} (h : blank c = true) : c ≠ 34 ∧ c ≠ 44 := by
  constructor <;> (rintro rfl; revert h; decide)
theorem trim_front {b : UInt8} (h : blank b = true) (l : List UInt8) : trimB (b :: l) = trimB l := by
  rw [trimB_eq, trimB_eq, tL_cons, if_pos h]
theorem trim_back {b : UInt8} (h : blank b = true) (l : List UInt8) : trimB (l ++ [b]) = trimB l := by
  rw [trimB_eq, trimB_eq, tR_tL, tR_tL, tR_snoc, if_pos h]
theorem add_front {b : UInt8} (h : blank b = true) (l : List UInt8) (acc : List Tg) : addT (b :: l) acc = addT l acc := by unfold addT; rw [trim_front h]
theorem add_back {b : UInt8} (h : blank b = true) (l : List UInt8) (acc : List Tg) : addT (l ++ [b]) acc = addT l acc := by unfold addT; rw [trim_back h]
theorem lstG_front {b : UInt8} (h : blank b = true) : ∀ (l cur : List UInt8) (q : Bool) (acc : List Tg), lstG (b :: cur) q l acc = lstG cur q l acc := by
  intro l
  induction l with
  | nil => intro cur q acc; unfold lstG; rw [add_front h]
  | cons c l ih =>
    intro cur q acc
    unfold lstG
    rw [add_front h, List.cons_append, ih]
theorem lstG_back {b : UInt8} (h : blank b = true) : ∀ (l cur : List UInt8) (q : Bool) (acc : List Tg), lstG cur q (l ++ [b]) acc = lstG cur q l acc := by
  obtain ⟨h1, h2⟩ := blank_plain h
  intro l
  induction l with
  | nil =>
    intro cur q acc
    rw [List.nil_append, lstG_cons, if_pos (.inr h2), lstG_end, lstG_end, add_back h]
  | cons c l ih =>
    intro cur q acc
    rw [List.cons_append, lstG, lstG]
    simp only [ih]
theorem lstL_tL (l : List UInt8) (acc : List Tg) : lstL (tL l) acc = lstL l acc := by
  induction l with
  | nil => rfl
  | cons c t ih =>
    rw [tL_cons]
    by_cases hc : blank c = true
    · rw [if_pos hc, ih]
      obtain ⟨h1, h2⟩ := blank_plain hc
      show _ = lstG [] false (c :: t) acc
      rw [lstG, if_pos (.inr h2), if_neg h1, List.nil_append]
      exact (lstG_front hc t [] false acc).symm
    · rw [if_neg hc]
theorem tR_split (l : List UInt8) : ∃ bl, l = tR l ++ bl ∧ ∀ c ∈ bl, blank c = true := by
  induction l with
  | nil => exact ⟨[], rfl, by simp⟩
  | cons c t ih =>
    obtain ⟨bl, h1, h2⟩ := ih
    rw [tR_cons]
    split
    · rename_i h
      refine ⟨c :: t, rfl, ?_⟩
      rw [h.1, List.nil_append] at h1
      intro d hd
      rcases List.mem_cons.mp hd with rfl | hd
      · exact h.2
      · exact h2 d (h1 ▸ hd)
    · exact ⟨bl, by rw [List.cons_append, ← h1], h2⟩
theorem lstG_blanks (cur : List UInt8) (q : Bool) (l : List UInt8) (acc : List Tg) : ∀ bl : List UInt8, (∀ c ∈ bl, blank c = true) → lstG cur q (l ++ bl) acc = lstG cur q l acc := by
  intro bl
  induction bl generalizing l with
  | nil => intro _; rw [List.append_nil]
  | cons c t ih =>
    intro h
    have e : l ++ c :: t = (l ++ [c]) ++ t := by simp
    rw [e, ih _ (fun d hd => h d (by simp [hd])), lstG_back (h c (by simp))]
theorem lstL_tR (l : List UInt8) (acc : List Tg) : lstL (tR l) acc = lstL l acc := by
  obtain ⟨bl, h1, h2⟩ := tR_split l
  conv => rhs; rw [h1]
  exact (lstG_blanks [] false (tR l) acc bl h2).symm
theorem lstL_trim (l : List UInt8) (acc : List Tg) : lstL (trimB l) acc = lstL l acc := by rw [trimB_eq, lstL_tR, lstL_tL]

theorem lstL_nil (acc : List Tg) : lstL [] acc = finT acc := rfl
theorem lstL_comma (t : List UInt8) (acc : List Tg) : lstL (44 :: t) acc = lstL (trimB t) acc := by
  rw [lstL_trim]; rfl
/-- The bytes of a text without quotes and commas, and those of a text without quotes inside quotes, go to the part. -/
theorem lstG_plain : ∀ (x cur : List UInt8) (l : List UInt8) (acc : List Tg), (∀ c ∈ x, c ≠ 34 ∧ c ≠ 44) → lstG cur false (x ++ l) acc = lstG (cur ++ x) false l acc := by
  intro x
  induction x with
  | nil => intro cur l acc _; simp
  | cons c t ih =>
    intro cur l acc h
    obtain ⟨h1, h2⟩ := h c (by simp)
    rw [List.cons_append, lstG, if_pos (.inr h2), if_neg h1, ih _ _ _ (fun d hd => h d (by simp [hd]))]
    simp
theorem lstG_quoted : ∀ (x cur : List UInt8) (l : List UInt8) (acc : List Tg), (34 : UInt8) ∉ x → lstG cur true (x ++ l) acc = lstG (cur ++ x) true l acc := by
  intro x
  induction x with
  | nil => intro cur l acc _; simp
  | cons c t ih =>
    intro cur l acc h
    have h1 : c ≠ 34 := fun e => h (by simp [e])
    rw [List.cons_append, lstG, if_neg h1, if_pos (.inl rfl), ih _ _ _ (fun hd => h (by simp [hd]))]
    simp
theorem lstG_tex (t : Tg) (h : txtB t.2 = true) (l : List UInt8) (acc : List Tg) : lstG [] false (texL t ++ l) acc = lstG (texL t) false l acc := by
  obtain ⟨k, a⟩ := t
  have hn := txt_not h
  have e1 : ∀ cur : List UInt8, lstG cur false (34 :: (a ++ 34 :: l)) acc = lstG (cur ++ 34 :: (a ++ [34])) false l acc := by
    intro cur
    rw [lstG, if_pos (.inr (by decide)), if_pos rfl]
    show lstG _ true _ _ = _
    rw [lstG_quoted _ _ _ _ hn, lstG, if_pos (.inr (by decide)), if_pos rfl]
    simp
  cases k with
  | true =>
    have e : texL (true, a) ++ l = [87, 47] ++ 34 :: (a ++ 34 :: l) := by simp [texL]
    rw [e, lstG_plain _ _ _ _ (by decide), e1]
    rfl
  | false =>
    have e : texL (false, a) ++ l = 34 :: (a ++ 34 :: l) := by simp [texL]
    rw [e, e1]
    rfl
theorem tex_first (t : Tg) : ∃ c r, texL t = c :: r ∧ blank c = false := by
  obtain ⟨k, a⟩ := t
  cases k
  · exact ⟨34, a ++ [34], rfl, by decide⟩
  · exact ⟨87, 47 :: 34 :: (a ++ [34]), rfl, by decide⟩
theorem tex_last (t : Tg) : ∃ r, texL t = r ++ [34] := by
  obtain ⟨k, a⟩ := t
  cases k
  · exact ⟨34 :: a, rfl⟩
  · exact ⟨87 :: 47 :: 34 :: a, rfl⟩
theorem tR_all (q bl : List UInt8) (h : ∀ c ∈ bl, blank c = true) : tR (q ++ bl) = tR q := by
  induction bl generalizing q with
  | nil => simp
  | cons c t ih =>
    have e : q ++ c :: t = (q ++ [c]) ++ t := by simp
    rw [e, ih _ (fun d hd => h d (by simp [hd])), tR_snoc, if_pos (h c (by simp))]
theorem tL_first {c : UInt8} (h : blank c = false) (l : List UInt8) : tL (c :: l) = c :: l := by rw [tL_cons, h]; rfl
theorem tR_keep {c : UInt8} (h : blank c = false) (q l : List UInt8) : tR (q ++ c :: l) = q ++ c :: tR l := by
  obtain ⟨bl, h1, h2⟩ := tR_split l
  conv => lhs; rw [h1, ← List.cons_append, ← List.append_assoc, tR_all _ _ h2]
  rcases List.eq_nil_or_concat (tR l) with e | ⟨r, d, e⟩
  · rw [e, tR_snoc, h]; rfl
  · rw [e, List.concat_eq_append]
    have hd : blank d = false := by
      have := tR_all (r ++ [d]) bl h2
      rw [List.concat_eq_append] at e
      rw [← e, ← h1, e, tR_snoc] at this
      split at this
      · rename_i hb
        obtain ⟨b2, g1, _⟩ := tR_split r
        have hl := congrArg List.length this
        have hg := congrArg List.length g1
        simp at hl hg; omega
      · rename_i hb; simpa using hb
    have : q ++ c :: (r ++ [d]) = (q ++ c :: r) ++ [d] := by simp
    rw [this, tR_snoc, hd]; rfl
theorem trim_tex (t : Tg) (bl : List UInt8) (h : ∀ c ∈ bl, blank c = true) : trimB (texL t ++ bl) = texL t := by
  obtain ⟨c, r, e1, h1⟩ := tex_first t
  obtain ⟨r2, e2⟩ := tex_last t
  have e3 : tL (texL t ++ bl) = texL t ++ bl := by rw [e1, List.cons_append, tL_first h1]
  rw [trimB_eq, e3, tR_all _ _ h, e2, tR_snoc]; rfl
theorem trim_tex_more (t : Tg) (bl : List UInt8) {c : UInt8} (h : blank c = false) (x : List UInt8) : trimB (texL t ++ (bl ++ c :: x)) = texL t ++ (bl ++ c :: tR x) := by
  obtain ⟨d, r, e1, h1⟩ := tex_first t
  have e3 : tL (texL t ++ (bl ++ c :: x)) = texL t ++ (bl ++ c :: x) := by rw [e1, List.cons_append, tL_first h1]
  rw [trimB_eq, e3, ← List.append_assoc, tR_keep h, List.append_assoc]
theorem add_tex (t : Tg) (ht : txtB t.2 = true) (bl : List UInt8) (h : ∀ c ∈ bl, blank c = true) (acc : List Tg) : addT (texL t ++ bl) acc = some (acc ++ [t]) := by
  obtain ⟨d, r, e1, _⟩ := tex_first t
  unfold addT
  rw [trim_tex t bl h, if_neg (by rw [e1]; simp), readTL_tex t ht]; rfl
/-- Where a part is faulty whatever follows, so is the list. -/
theorem lstG_bad : ∀ (l cur : List UInt8) (q : Bool) (acc : List Tg), (∀ x, addT (cur ++ x) acc = none) → lstG cur q l acc = none := by
  intro l
  induction l with
  | nil =>
    intro cur q acc h
    have := h []
    rw [List.append_nil] at this
    rw [lstG, this]; rfl
  | cons c l ih =>
    intro cur q acc h
    rw [lstG_cons]
    by_cases hX : (if c = 34 then !q else q) = true ∨ c ≠ 44
    · rw [if_pos hX]
      refine ih _ _ _ fun x => ?_
      rw [List.append_assoc]; exact h _
    · rw [if_neg hX]
      have := h []
      rw [List.append_nil] at this
      rw [this]; rfl
theorem tL_split (l : List UInt8) : ∃ bl, l = bl ++ tL l ∧ ∀ c ∈ bl, blank c = true := by
  induction l with
  | nil => exact ⟨[], rfl, by simp⟩
  | cons c t ih =>
    obtain ⟨bl, h1, h2⟩ := ih
    rw [tL_cons]
    split
    · rename_i h
      refine ⟨c :: bl, by rw [List.cons_append, ← h1], ?_⟩
      intro d hd
      rcases List.mem_cons.mp hd with rfl | hd
      · exact h
      · exact h2 d hd
    · exact ⟨[], rfl, by simp⟩
theorem tL_head {l : List UInt8} {c : UInt8} {r : List UInt8} (h : tL l = c :: r) : blank c = false := by
  induction l with
  | nil => simp [tL] at h
  | cons d t ih =>
    rw [tL_cons] at h
    split at h
    · exact ih h
    · rename_i hd
      simp only [List.cons.injEq] at h
      rw [← h.1]; simpa using hd
theorem tR_cons_ne {c : UInt8} (h : blank c = false) (l : List UInt8) : tR (c :: l) = c :: tR l := by
  rw [tR_cons, if_neg (by rw [h]; simp)]
/-- A tag and what follows it, as the list is read from the left. -/
theorem lstL_last {l : List UInt8} {t : Tg} {r : List UInt8} (h : cutTL l = some (t, r)) (hr : trimB r = []) (acc : List Tg) : lstL l acc = lstL [] (acc ++ [t]) := by
  obtain ⟨ht, rfl⟩ := cutTL_some h
  unfold lstL
  rw [lstG_tex t ht]
  have hb : ∀ c ∈ r, blank c = true := by
    obtain ⟨bl, h1, h2⟩ := tL_split r
    cases e : tL r with
    | nil => rw [e, List.append_nil] at h1; rwa [h1]
    | cons c x =>
      rw [trimB_eq, e, tR_cons_ne (tL_head e)] at hr; cases hr
  rw [← List.nil_append r, lstG_blanks _ _ [] _ r hb, lstG, lstG]
  have := add_tex t ht [] (by simp) acc
  rw [List.append_nil] at this
  rw [this]; rfl
theorem lstL_more {l : List UInt8} {t : Tg} {r z : List UInt8} (h : cutTL l = some (t, r)) (hr : trimB r = 44 :: z) (acc : List Tg) : lstL l acc = lstL (trimB z) (acc ++ [t]) := by
  obtain ⟨ht, rfl⟩ := cutTL_some h
  obtain ⟨bl, h1, h2⟩ := tL_split r
  cases e : tL r with
  | nil => rw [trimB_eq, e] at hr; cases hr
  | cons c x =>
    rw [trimB_eq, e, tR_cons_ne (tL_head e)] at hr
    simp only [List.cons.injEq] at hr
    obtain ⟨rfl, rfl⟩ := hr
    have e2 : lstL (texL t ++ r) acc = lstL x (acc ++ [t]) := by
      unfold lstL
      rw [lstG_tex t ht, h1, e, lstG_plain _ _ _ _ (fun c hc => blank_plain (h2 c hc)), lstG, if_neg (by simp), add_tex t ht bl h2]
      rfl
    rw [e2, lstL_trim, lstL_tR]
theorem lstL_bad {l : List UInt8} {t : Tg} {r z : List UInt8} {c : UInt8} (h : cutTL l = some (t, r)) (hr : trimB r = c :: z) (hc : c ≠ 44) (acc : List Tg) : lstL l acc = none := by
  obtain ⟨ht, rfl⟩ := cutTL_some h
  obtain ⟨bl, h1, h2⟩ := tL_split r
  cases e : tL r with
  | nil => rw [trimB_eq, e] at hr; cases hr
  | cons d x =>
    have hd := tL_head e
    rw [trimB_eq, e, tR_cons_ne hd] at hr
    simp only [List.cons.injEq] at hr
    obtain ⟨rfl, rfl⟩ := hr
    have hbad : ∀ y, addT (texL t ++ bl ++ [d] ++ y) acc = none := by
      intro y
      have e3 : texL t ++ bl ++ [d] ++ y = texL t ++ (bl ++ d :: y) := by simp
      rw [e3]; unfold addT
      rw [trim_tex_more t bl hd]
      have hne : bl ++ d :: tR y ≠ [] := by simp
      rw [readTL_more t ht hne]
      obtain ⟨c, r, e1, _⟩ := tex_first t
      rw [if_neg (by rw [e1]; simp)]; rfl
    unfold lstL
    rw [lstG_tex t ht, h1, e, lstG_plain _ _ _ _ (fun c hc => blank_plain (h2 c hc)), lstG, if_pos (.inr hc)]
    exact lstG_bad _ _ _ _ hbad
theorem lstG_first : ∀ (l cur : List UInt8) (q : Bool) (acc : List Tg), ∃ p r, l = p ++ r ∧ (addT (cur ++ p) acc = none → lstG cur q l acc = none) := by
  intro l
  induction l with
  | nil => intro cur q acc; exact ⟨[], [], rfl, fun h => by rw [List.append_nil] at h; rw [lstG, h]; rfl⟩
  | cons c l ih =>
    intro cur q acc
    rw [lstG_cons]
    by_cases hX : (if c = 34 then !q else q) = true ∨ c ≠ 44
    · rw [if_pos hX]
      obtain ⟨p, r, h1, h2⟩ := ih (cur ++ [c]) (if c = 34 then !q else q) acc
      refine ⟨c :: p, r, by rw [h1]; rfl, fun h => h2 ?_⟩
      rw [List.append_assoc]; exact h
    · rw [if_neg hX]
      exact ⟨[], c :: l, rfl, fun h => by rw [List.append_nil] at h; rw [h]; rfl⟩
theorem lstL_no {c : UInt8} {l : List UInt8} (hb : blank c = false) (hc : c ≠ 44) (h : cutTL (c :: l) = none) (acc : List Tg) : lstL (c :: l) acc = none := by
  unfold lstL
  rw [lstG, if_pos (.inr hc), List.nil_append]
  obtain ⟨p, r, h1, h2⟩ := lstG_first l [c] (if c = 34 then !false else false) acc
  refine h2 ?_
  have e : trimB ([c] ++ p) = c :: tR p := by
    rw [trimB_eq, List.singleton_append, tL_first hb, tR_cons_ne hb]
  unfold addT
  rw [e, if_neg (by simp)]
  cases hq : readTL (c :: tR p) with
  | none => rfl
  | some t =>
    obtain ⟨ht, hx⟩ := readTL_some hq
    obtain ⟨bl, g1, _⟩ := tR_split p
    have e2 : c :: l = texL t ++ (bl ++ r) := by
      rw [← hx, h1]
      conv => lhs; rw [g1]
      simp
    rw [e2, cutTL_tex t _ ht] at h
    cases h
end Go.Proofs.YtkpeaghbacoehaaGreatDoor
