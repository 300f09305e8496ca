import Derived.Test.YtkpeaghbacoehaaGreatDoorFName
import Derived.Test.YtkpeaghbacoehaaGreatDoorRSpec
import Derived.Test.YtkpeaghbacoehaaGreatDoorFSpec
import Derived.Test.YtkpeaghbacoehaaGreatDoorHText
import Derived.Test.YtkpeaghbacoehaaGreatDoorBase
import Derived.Test.YtkpeaghbacoehaaGreatDoorRCut
import Derived.Deep.QuietTactic
import Derived.BigQuiet
import Derived.Test.YtkpeaghbacoehaaGreatDoorTrimA
/- Plain mathematics of chapter 10: the texts of entity tags; a list of them, divided at the commas outside quotes, and what the same list is when it is read from the left. -/
namespace Go.Proofs.YtkpeaghbacoehaaGreatDoor

abbrev Tg := Bool × List UInt8
def txtC (c : UInt8) : Bool := decide (32 < c.toNat) && c != 34 && c != 127
def txtB (l : List UInt8) : Bool := l.all txtC
def wkL (l : List UInt8) : Bool := [87, 47].isPrefixOf l
def unwL (l : List UInt8) : List UInt8 := if wkL l then l.drop 2 else l
def qtL (l : List UInt8) : Bool := [34].isPrefixOf l
def unqL (l : List UInt8) : List UInt8 := if qtL l then l.drop 1 else l
/-- The tag with whose text a text begins, and what follows. -/
def cutTL (l : List UInt8) : Option (Tg × List UInt8) :=
  if qtL (unwL l) = true ∧ (cut9 34 (unqL (unwL l))).2.2 = true ∧ txtB (cut9 34 (unqL (unwL l))).1 = true then some ((wkL l, (cut9 34 (unqL (unwL l))).1), (cut9 34 (unqL (unwL l))).2.1) else none
/-- The text of a tag. -/
def texL (t : Tg) : List UInt8 := (if t.1 then [87, 47] else []) ++ 34 :: (t.2 ++ [34])
def readTL (l : List UInt8) : Option Tg := match cutTL l with
  | some (t, r) => if r = [] then some t else none
  | none => none

theorem cut9_inv (c : UInt8) : ∀ l : List UInt8, (cut9 c l).2.2 = true → l = (cut9 c l).1 ++ c :: (cut9 c l).2.1 := by
  intro l
  induction l with
  | nil => intro h; simp [cut9] at h
  | cons x t ih =>
    intro h
    by_cases hx : x = c
    · subst hx; simp [cut9]
    · rw [cut9, if_neg hx] at h ⊢
      simp only [List.cons_append, List.cons.injEq, true_and]
      exact ih h
theorem wk_cases (l : List UInt8) : (∃ t, l = 87 :: 47 :: t ∧ wkL l = true ∧ unwL l = t) ∨ (wkL l = false ∧ unwL l = l) := by
  cases h : wkL l with
  | false => exact .inr ⟨rfl, by unfold unwL; rw [h]; rfl⟩
  | true =>
    refine .inl ?_
    have h2 := h
    unfold wkL at h2
    obtain ⟨t, rfl⟩ := List.isPrefixOf_iff_prefix.mp h2
    exact ⟨t, rfl, rfl, by unfold unwL; rw [h]; rfl⟩
theorem qt_cases (l : List UInt8) : (∃ t, l = 34 :: t ∧ qtL l = true ∧ unqL l = t) ∨ (qtL l = false ∧ unqL l = l) := by
  cases h : qtL l with
  | false => exact .inr ⟨rfl, by unfold unqL; rw [h]; rfl⟩
  | true =>
    refine .inl ?_
    have h2 := h
    unfold qtL at h2
    obtain ⟨t, rfl⟩ := List.isPrefixOf_iff_prefix.mp h2
    exact ⟨t, rfl, rfl, by unfold unqL; rw [h]; rfl⟩
theorem txt_not {l : List UInt8} (h : txtB l = true) : (34 : UInt8) ∉ l := fun hm => by
  have := List.all_eq_true.mp h _ hm
  revert this; decide
theorem cutTL_some {l : List UInt8} {t : Tg} {r : List UInt8} (h : cutTL l = some (t, r)) : txtB t.2 = true ∧ l = texL t ++ r := by
  unfold cutTL at h
  split at h
  · rename_i hc
    obtain ⟨h1, h2, h3⟩ := hc
    simp only [Option.some.injEq, Prod.mk.injEq] at h
    obtain ⟨rfl, rfl⟩ := h
    refine ⟨h3, ?_⟩
    have e := cut9_inv 34 _ h2
    rcases qt_cases (unwL l) with ⟨t, ht, _, hu⟩ | ⟨hf, _⟩
    · rw [hu] at e
      rcases wk_cases l with ⟨x, hx, hw, hux⟩ | ⟨hw, hux⟩
      · rw [hux] at ht
        show l = (if wkL l = true then [87, 47] else []) ++ 34 :: (_ ++ [34]) ++ _
        rw [hw, if_pos rfl]
        conv => lhs; rw [hx, ht, e]
        rw [hu]; simp
      · rw [hux] at ht
        show l = (if wkL l = true then [87, 47] else []) ++ 34 :: (_ ++ [34]) ++ _
        rw [hw, if_neg (by simp)]
        conv => lhs; rw [ht, e]
        rw [hu]; simp
    · rw [hf] at h1; cases h1
  · cases h
theorem cutTL_tex (t : Tg) (r : List UInt8) (h : txtB t.2 = true) : cutTL (texL t ++ r) = some (t, r) := by
  obtain ⟨k, a⟩ := t
  have hn := txt_not h
  have e2 : cut9 34 (a ++ 34 :: r) = (a, r, true) := cut9_app 34 _ _ hn
  have hq : qtL (34 :: (a ++ 34 :: r)) = true := rfl
  have hu : unqL (34 :: (a ++ 34 :: r)) = a ++ 34 :: r := rfl
  cases k with
  | true =>
    have e : texL (true, a) ++ r = 87 :: 47 :: 34 :: (a ++ 34 :: r) := by simp [texL]
    have hw : wkL (87 :: 47 :: 34 :: (a ++ 34 :: r)) = true := rfl
    have hx : unwL (87 :: 47 :: 34 :: (a ++ 34 :: r)) = 34 :: (a ++ 34 :: r) := rfl
    rw [e]; unfold cutTL
    rw [hx, hq, hu, e2, hw]
    simp only [true_and]
    rw [if_pos h]
  | false =>
    have e : texL (false, a) ++ r = 34 :: (a ++ 34 :: r) := by simp [texL]
    have hw : wkL (34 :: (a ++ 34 :: r)) = false := rfl
    have hx : unwL (34 :: (a ++ 34 :: r)) = 34 :: (a ++ 34 :: r) := rfl
    rw [e]; unfold cutTL
    rw [hx, hq, hu, e2, hw]
    simp only [true_and]
    rw [if_pos h]
theorem readTL_some {l : List UInt8} {t : Tg} (h : readTL l = some t) : txtB t.2 = true ∧ l = texL t := by
  unfold readTL at h
  cases hc : cutTL l with
  | none => rw [hc] at h; cases h
  | some p =>
    obtain ⟨t', r⟩ := p
    rw [hc] at h
    simp only at h
    split at h
    · rename_i hr
      subst hr
      cases h
      have := cutTL_some hc
      simpa using this
    · cases h
theorem readTL_tex (t : Tg) (h : txtB t.2 = true) : readTL (texL t) = some t := by
  have := cutTL_tex t [] h
  rw [List.append_nil] at this
  unfold readTL; rw [this]; rfl
theorem readTL_more (t : Tg) {r : List UInt8} (h : txtB t.2 = true) (hr : r ≠ []) : readTL (texL t ++ r) = none := by
  unfold readTL; rw [cutTL_tex t r h]; simp only; rw [if_neg hr]

/-- One part of a list: nothing, a tag, or a fault. -/
def addT (cur : List UInt8) (acc : List Tg) : Option (List Tg) :=
  if trimB cur = [] then some acc else (readTL (trimB cur)).map fun t => acc ++ [t]
def finT (acc : List Tg) : Option (List Tg) := if acc = [] then none else some acc
/-- The tags of a list, divided at its commas outside quotes; cur: the part so far. -/
def lstG : List UInt8 → Bool → List UInt8 → List Tg → Option (List Tg)
  | cur, _, [], acc => (addT cur acc).bind finT
  | cur, q, c :: l, acc =>
    if (if c = 34 then !q else q) = true ∨ c ≠ 44 then lstG (cur ++ [c]) (if c = 34 then !q else q) l acc
    else (addT cur acc).bind fun acc' => lstG [] (if c = 34 then !q else q) l acc'
def lstL (l : List UInt8) (acc : List Tg) : Option (List Tg) := lstG [] false l acc
theorem lstG_end (cur : List UInt8) (q : Bool) (acc : List Tg) : lstG cur q [] acc = (addT cur acc).bind finT := by rw [lstG]
theorem lstG_cons (cur : List UInt8) (q : Bool) (c : UInt8) (l : List UInt8) (acc : List Tg) : lstG cur q (c :: l) acc =
    if (if c = 34 then !q else q) = true ∨ c ≠ 44 then lstG (cur ++ [c]) (if c = 34 then !q else q) l acc
    else (addT cur acc).bind fun acc' => lstG [] (if c = 34 then !q else q) l acc' := by rw [lstG]

theorem blank_plain {c : UInt8} (h : blank c = true) : c ≠ 34 ∧ c ≠ 44 := by
  constructor <;> (rintro rfl; revert h; decide)
theorem trim_front {b : UInt8} (h : blank b = true) (l : List UInt8) : trimB (b :: l) = trimB l := by
  rw [trimB_eq, trimB_eq, tL_cons, if_pos h]
theorem trim_back {b : UInt8} (h : blank b = true) (l : List UInt8) : trimB (l ++ [b]) = trimB l := by
  rw [trimB_eq, trimB_eq, tR_tL, tR_tL, tR_snoc, if_pos h]
theorem add_front {b : UInt8} (h : blank b = true) (l : List UInt8) (acc : List Tg) : addT (b :: l) acc = addT l acc := by unfold addT; rw [trim_front h]
theorem add_back {b : UInt8} (h : blank b = true) (l : List UInt8) (acc : List Tg) : addT (l ++ [b]) acc = addT l acc := by unfold addT; rw [trim_back h]
theorem lstG_front {b : UInt8} (h : blank b = true) : ∀ (l cur : List UInt8) (q : Bool) (acc : List Tg), lstG (b :: cur) q l acc = lstG cur q l acc := by
  intro l
  induction l with
  | nil => intro cur q acc; unfold lstG; rw [add_front h]
  | cons c l ih =>
    intro cur q acc
    unfold lstG
    rw [add_front h, List.cons_append, ih]
theorem lstG_back {b : UInt8} (h : blank b = true) : ∀ (l cur : List UInt8) (q : Bool) (acc : List Tg), lstG cur q (l ++ [b]) acc = lstG cur q l acc := by
  obtain ⟨h1, h2⟩ := blank_plain h
  intro l
  induction l with
  | nil =>
    intro cur q acc
    rw [List.nil_append, lstG_cons, if_pos (.inr h2), lstG_end, lstG_end, add_back h]
  | cons c l ih =>
    intro cur q acc
    rw [List.cons_append, lstG, lstG]
    simp only [ih]
theorem lstL_tL (l : List UInt8) (acc : List Tg) : lstL (tL l) acc = lstL l acc := by
  induction l with
  | nil => rfl
  | cons c t ih =>
    rw [tL_cons]
    by_cases hc : blank c = true
    · rw [if_pos hc, ih]
      obtain ⟨h1, h2⟩ := blank_plain hc
      show _ = lstG [] false (c :: t) acc
      rw [lstG, if_pos (.inr h2), if_neg h1, List.nil_append]
      exact (lstG_front hc t [] false acc).symm
    · rw [if_neg hc]
theorem tR_split (l : List UInt8) : ∃ bl, l = tR l ++ bl ∧ ∀ c ∈ bl, blank c = true := by
  induction l with
  | nil => exact ⟨[], rfl, by simp⟩
  | cons c t ih =>
    obtain ⟨bl, h1, h2⟩ := ih
    rw [tR_cons]
    split
    · rename_i h
      refine ⟨c :: t, rfl, ?_⟩
      rw [h.1, List.nil_append] at h1
      intro d hd
      rcases List.mem_cons.mp hd with rfl | hd
      · exact h.2
      · exact h2 d (h1 ▸ hd)
    · exact ⟨bl, by rw [List.cons_append, ← h1], h2⟩
theorem lstG_blanks (cur : List UInt8) (q : Bool) (l : List UInt8) (acc : List Tg) : ∀ bl : List UInt8, (∀ c ∈ bl, blank c = true) → lstG cur q (l ++ bl) acc = lstG cur q l acc := by
  intro bl
  induction bl generalizing l with
  | nil => intro _; rw [List.append_nil]
  | cons c t ih =>
    intro h
    have e : l ++ c :: t = (l ++ [c]) ++ t := by simp
    rw [e, ih _ (fun d hd => h d (by simp [hd])), lstG_back (h c (by simp))]
theorem lstL_tR (l : List UInt8) (acc : List Tg) : lstL (tR l) acc = lstL l acc := by
  obtain ⟨bl, h1, h2⟩ := tR_split l
  conv => rhs; rw [h1]
  exact (lstG_blanks [] false (tR l) acc bl h2).symm
theorem lstL_trim (l : List UInt8) (acc : List Tg) : lstL (trimB l) acc = lstL l acc := by rw [trimB_eq, lstL_tR, lstL_tL]

theorem lstL_nil (acc : List Tg) : lstL [] acc = finT acc := rfl
theorem lstL_comma (t : List UInt8) (acc : List Tg) : lstL (44 :: t) acc = lstL (trimB t) acc := by
  rw [lstL_trim]; rfl
/-- The bytes of a text without quotes and commas, and those of a text without quotes inside quotes, go to the part. -/
theorem lstG_plain : ∀ (x cur : List UInt8) (l : List UInt8) (acc : List Tg), (∀ c ∈ x, c ≠ 34 ∧ c ≠ 44) → lstG cur false (x ++ l) acc = lstG (cur ++ x) false l acc := by
  intro x
  induction x with
  | nil => intro cur l acc _; simp
  | cons c t ih =>
    intro cur l acc h
    obtain ⟨h1, h2⟩ := h c (by simp)
    rw [List.cons_append, lstG, if_pos (.inr h2), if_neg h1, ih _ _ _ (fun d hd => h d (by simp [hd]))]
    simp
theorem lstG_quoted : ∀ (x cur : List UInt8) (l : List UInt8) (acc : List Tg), (34 : UInt8) ∉ x → lstG cur true (x ++ l) acc = lstG (cur ++ x) true l acc := by
  intro x
  induction x with
  | nil => intro cur l acc _; simp
  | cons c t ih =>
    intro cur l acc h
    have h1 : c ≠ 34 := fun e => h (by simp [e])
    rw [List.cons_append, lstG, if_neg h1, if_pos (.inl rfl), ih _ _ _ (fun hd => h (by simp [hd]))]
    simp
theorem lstG_tex (t : Tg) (h : txtB t.2 = true) (l : List UInt8) (acc : List Tg) : lstG [] false (texL t ++ l) acc = lstG (texL t) false l acc := by
  obtain ⟨k, a⟩ := t
  have hn := txt_not h
  have e1 : ∀ cur : List UInt8, lstG cur false (34 :: (a ++ 34 :: l)) acc = lstG (cur ++ 34 :: (a ++ [34])) false l acc := by
    intro cur
    rw [lstG, if_pos (.inr (by decide)), if_pos rfl]
    show lstG _ true _ _ = _
    rw [lstG_quoted _ _ _ _ hn, lstG, if_pos (.inr (by decide)), if_pos rfl]
    simp
  cases k with
  | true =>
    have e : texL (true, a) ++ l = [87, 47] ++ 34 :: (a ++ 34 :: l) := by simp [texL]
    rw [e, lstG_plain _ _ _ _ (by decide), e1]
    rfl
  | false =>
    have e : texL (false, a) ++ l = 34 :: (a ++ 34 :: l) := by simp [texL]
    rw [e, e1]
    rfl
theorem tex_first (t : Tg) : ∃ c r, texL t = c :: r ∧ blank c = false := by
  obtain ⟨k, a⟩ := t
  cases k
  · exact ⟨34, a ++ [34], rfl, by decide⟩
  · exact ⟨87, 47 :: 34 :: (a ++ [34]), rfl, by decide⟩
theorem tex_last (t : Tg) : ∃ r, texL t = r ++ [34] := by
  obtain ⟨k, a⟩ := t
  cases k
  · exact ⟨34 :: a, rfl⟩
  · exact ⟨87 :: 47 :: 34 :: a, rfl⟩
theorem tR_all (q bl : List UInt8) (h : ∀ c ∈ bl, blank c = true) : tR (q ++ bl) = tR q := by
  induction bl generalizing q with
  | nil => simp
  | cons c t ih =>
    have e : q ++ c :: t = (q ++ [c]) ++ t := by simp
    rw [e, ih _ (fun d hd => h d (by simp [hd])), tR_snoc, if_pos (h c (by simp))]
theorem tL_first {c : UInt8} (h : blank c = false) (l : List UInt8) : tL (c :: l) = c :: l := by rw [tL_cons, h]; rfl
theorem tR_keep {c : UInt8} (h : blank c = false) (q l : List UInt8) : tR (q ++ c :: l) = q ++ c :: tR l := by
  obtain ⟨bl, h1, h2⟩ := tR_split l
  conv => lhs; rw [h1, ← List.cons_append, ← List.append_assoc, tR_all _ _ h2]
  rcases List.eq_nil_or_concat (tR l) with e | ⟨r, d, e⟩
  · rw [e, tR_snoc, h]; rfl
  · rw [e, List.concat_eq_append]
    have hd : blank d = false := by
      have := tR_all (r ++ [d]) bl h2
      rw [List.concat_eq_append] at e
      rw [← e, ← h1, e, tR_snoc] at this
      split at this
      · rename_i hb
        obtain ⟨b2, g1, _⟩ := tR_split r
        have hl := congrArg List.length this
        have hg := congrArg List.length g1
        simp at hl hg; omega
      · rename_i hb; simpa using hb
    have : q ++ c :: (r ++ [d]) = (q ++ c :: r) ++ [d] := by simp
    rw [this, tR_snoc, hd]; rfl
theorem trim_tex (t : Tg) (bl : List UInt8) (h : ∀ c ∈ bl, blank c = true) : trimB (texL t ++ bl) = texL t := by
  obtain ⟨c, r, e1, h1⟩ := tex_first t
  obtain ⟨r2, e2⟩ := tex_last t
  have e3 : tL (texL t ++ bl) = texL t ++ bl := by rw [e1, List.cons_append, tL_first h1]
  rw [trimB_eq, e3, tR_all _ _ h, e2, tR_snoc]; rfl
theorem trim_tex_more (t : Tg) (bl : List UInt8) {c : UInt8} (h : blank c = false) (x : List UInt8) : trimB (texL t ++ (bl ++ c :: x)) = texL t ++ (bl ++ c :: tR x) := by
  obtain ⟨d, r, e1, h1⟩ := tex_first t
  have e3 : tL (texL t ++ (bl ++ c :: x)) = texL t ++ (bl ++ c :: x) := by rw [e1, List.cons_append, tL_first h1]
  rw [trimB_eq, e3, ← List.append_assoc, tR_keep h, List.append_assoc]
theorem add_tex (t : Tg) (ht : txtB t.2 = true) (bl : List UInt8) (h : ∀ c ∈ bl, blank c = true) (acc : List Tg) : addT (texL t ++ bl) acc = some (acc ++ [t]) := by
  obtain ⟨d, r, e1, _⟩ := tex_first t
  unfold addT
  rw [trim_tex t bl h, if_neg (by rw [e1]; simp), readTL_tex t ht]; rfl
/-- Where a part is faulty whatever follows, so is the list. -/
theorem lstG_bad : ∀ (l cur : List UInt8) (q : Bool) (acc : List Tg), (∀ x, addT (cur ++ x) acc = none) → lstG cur q l acc = none := by
  intro l
  induction l with
  | nil =>
    intro cur q acc h
    have := h []
    rw [List.append_nil] at this
    rw [lstG, this]; rfl
  | cons c l ih =>
    intro cur q acc h
    rw [lstG_cons]
    by_cases hX : (if c = 34 then !q else q) = true ∨ c ≠ 44
    · rw [if_pos hX]
      refine ih _ _ _ fun x => ?_
      rw [List.append_assoc]; exact h _
    · rw [if_neg hX]
      have := h []
      rw [List.append_nil] at this
      rw [this]; rfl
theorem tL_split (l : List UInt8) : ∃ bl, l = bl ++ tL l ∧ ∀ c ∈ bl, blank c = true := by
  induction l with
  | nil => exact ⟨[], rfl, by simp⟩
  | cons c t ih =>
    obtain ⟨bl, h1, h2⟩ := ih
    rw [tL_cons]
    split
    · rename_i h
      refine ⟨c :: bl, by rw [List.cons_append, ← h1], ?_⟩
      intro d hd
      rcases List.mem_cons.mp hd with rfl | hd
      · exact h
      · exact h2 d hd
    · exact ⟨[], rfl, by simp⟩
theorem tL_head {l : List UInt8} {c : UInt8} {r : List UInt8} (h : tL l = c :: r) : blank c = false := by
  induction l with
  | nil => simp [tL] at h
  | cons d t ih =>
    rw [tL_cons] at h
    split at h
    · exact ih h
    · rename_i hd
      simp only [List.cons.injEq] at h
      rw [← h.1]; simpa using hd
theorem tR_cons_ne {c : UInt8} (h : blank c = false) (l : List UInt8) : tR (c :: l) = c :: tR l := by
  rw [tR_cons, if_neg (by rw [h]; simp)]
/-- A tag and what follows it, as the list is read from the left. -/
theorem lstL_last {l : List UInt8} {t : Tg} {r : List UInt8} (h : cutTL l = some (t, r)) (hr : trimB r = []) (acc : List Tg) : lstL l acc = lstL [] (acc ++ [t]) := by
  obtain ⟨ht, rfl⟩ := cutTL_some h
  unfold lstL
  rw [lstG_tex t ht]
  have hb : ∀ c ∈ r, blank c = true := by
    obtain ⟨bl, h1, h2⟩ := tL_split r
    cases e : tL r with
    | nil => rw [e, List.append_nil] at h1; rwa [h1]
    | cons c x =>
      rw [trimB_eq, e, tR_cons_ne (tL_head e)] at hr; cases hr
  rw [← List.nil_append r, lstG_blanks _ _ [] _ r hb, lstG, lstG]
  have := add_tex t ht [] (by simp) acc
  rw [List.append_nil] at this
  rw [this]; rfl
theorem lstL_more {l : List UInt8} {t : Tg} {r z : List UInt8} (h : cutTL l = some (t, r)) (hr : trimB r = 44 :: z) (acc : List Tg) : lstL l acc = lstL (trimB z) (acc ++ [t]) := by
  obtain ⟨ht, rfl⟩ := cutTL_some h
  obtain ⟨bl, h1, h2⟩ := tL_split r
  cases e : tL r with
  | nil => rw [trimB_eq, e] at hr; cases hr
  | cons c x =>
    rw [trimB_eq, e, tR_cons_ne (tL_head e)] at hr
    simp only [List.cons.injEq] at hr
    obtain ⟨rfl, rfl⟩ := hr
    have e2 : lstL (texL t ++ r) acc = lstL x (acc ++ [t]) := by
      unfold lstL
      rw [lstG_tex t ht, h1, e, lstG_plain _ _ _ _ (fun c hc => blank_plain (h2 c hc)), lstG, if_neg (by simp), add_tex t ht bl h2]
      rfl
    rw [e2, lstL_trim, lstL_tR]
theorem lstL_bad {l : List UInt8} {t : Tg} {r z : List UInt8} {c : UInt8} (h : cutTL l = some (t, r)) (hr : trimB r = c :: z) (hc : c ≠ 44) (acc : List Tg) : lstL l acc = none := by
  obtain ⟨ht, rfl⟩ := cutTL_some h
  obtain ⟨bl, h1, h2⟩ := tL_split r
  cases e : tL r with
  | nil => rw [trimB_eq, e] at hr; cases hr
  | cons d x =>
    have hd := tL_head e
    rw [trimB_eq, e, tR_cons_ne hd] at hr
    simp only [List.cons.injEq] at hr
    obtain ⟨rfl, rfl⟩ := hr
    have hbad : ∀ y, addT (texL t ++ bl ++ [d] ++ y) acc = none := by
      intro y
      have e3 : texL t ++ bl ++ [d] ++ y = texL t ++ (bl ++ d :: y) := by simp
      rw [e3]; unfold addT
      rw [trim_tex_more t bl hd]
      have hne : bl ++ d :: tR y ≠ [] := by simp
      rw [readTL_more t ht hne]
      obtain ⟨c, r, e1, _⟩ := tex_first t
      rw [if_neg (by rw [e1]; simp)]; rfl
    unfold lstL
    rw [lstG_tex t ht, h1, e, lstG_plain _ _ _ _ (fun c hc => blank_plain (h2 c hc)), lstG, if_pos (.inr hc)]
    exact lstG_bad _ _ _ _ hbad
theorem lstG_first : ∀ (l cur : List UInt8) (q : Bool) (acc : List Tg), ∃ p r, l = p ++ r ∧ (addT (cur ++ p) acc = none → lstG cur q l acc = none) := by
  intro l
  induction l with
  | nil => intro cur q acc; exact ⟨[], [], rfl, fun h => by rw [List.append_nil] at h; rw [lstG, h]; rfl⟩
  | cons c l ih =>
    intro cur q acc
    rw [lstG_cons]
    by_cases hX : (if c = 34 then !q else q) = true ∨ c ≠ 44
    · rw [if_pos hX]
      obtain ⟨p, r, h1, h2⟩ := ih (cur ++ [c]) (if c = 34 then !q else q) acc
      refine ⟨c :: p, r, by rw [h1]; rfl, fun h => h2 ?_⟩
      rw [List.append_assoc]; exact h
    · rw [if_neg hX]
      exact ⟨[], c :: l, rfl, fun h => by rw [List.append_nil] at h; rw [h]; rfl⟩
theorem lstL_no {c : UInt8} {l : List UInt8} (hb : blank c = false) (hc : c ≠ 44) (h : cutTL (c :: l) = none) (acc : List Tg) : lstL (c :: l) acc = none := by
  unfold lstL
  rw [lstG, if_pos (.inr hc), List.nil_append]
  obtain ⟨p, r, h1, h2⟩ := lstG_first l [c] (if c = 34 then !false else false) acc
  refine h2 ?_
  have e : trimB ([c] ++ p) = c :: tR p := by
    rw [trimB_eq, List.singleton_append, tL_first hb, tR_cons_ne hb]
  unfold addT
  rw [e, if_neg (by simp)]
  cases hq : readTL (c :: tR p) with
  | none => rfl
  | some t =>
    obtain ⟨ht, hx⟩ := readTL_some hq
    obtain ⟨bl, g1, _⟩ := tR_split p
    have e2 : c :: l = texL t ++ (bl ++ r) := by
      rw [← hx, h1]
      conv => lhs; rw [g1]
      simp
    rw [e2, cutTL_tex t _ ht] at h
    cases h
end Go.Proofs.YtkpeaghbacoehaaGreatDoor

/- Plain mathematics of chapter 10: what matches a state, and what Evaluate and UseRange decide. -/
namespace Go.Proofs.YtkpeaghbacoehaaGreatDoor

structure StV where
  ex : Bool
  ht : Bool
  hm : Bool
  tag : Tg
  md : Int
/-- A text is the date text of a second, or of none. -/
def DateIs (v : List UInt8) (d : Option Nat) : Prop := match d with
  | some n => isT n v
  | none => ∀ n, ¬ isT n v
theorem date_ex (v : List UInt8) : ∃ d, DateIs v d := by
  by_cases h : ∃ n, isT n v
  · obtain ⟨n, h⟩ := h; exact ⟨some n, h⟩
  · exact ⟨none, fun n hn => h ⟨n, hn⟩⟩
theorem DateIs.uniq {v : List UInt8} {d e : Option Nat} (h : DateIs v d) (g : DateIs v e) : d = e := by
  cases d with
  | none => cases e with
    | none => rfl
    | some n => exact absurd g (h n)
  | some n => cases e with
    | none => exact absurd h (g n)
    | some k => exact congrArg some (isT_inj h g)
theorem date_nil : DateIs [] none := fun n h => by have := (isT_parts h).1; simp at this
def nIM : List UInt8 := [105, 102, 45, 109, 97, 116, 99, 104]
def nIN : List UInt8 := [105, 102, 45, 110, 111, 110, 101, 45, 109, 97, 116, 99, 104]
def nIS : List UInt8 := [105, 102, 45, 109, 111, 100, 105, 102, 105, 101, 100, 45, 115, 105, 110, 99, 101]
def nIU : List UInt8 := [105, 102, 45, 117, 110, 109, 111, 100, 105, 102, 105, 101, 100, 45, 115, 105, 110, 99, 101]
def nIR : List UInt8 := [105, 102, 45, 114, 97, 110, 103, 101]
def mGET : List UInt8 := [71, 69, 84]
def mHEAD : List UInt8 := [72, 69, 65, 68]
def fnd (ps : Flds) (n : List UInt8) : Bool := decide (0 < (allL ps n).length)
def valF (ps : Flds) (n : List UInt8) : List UInt8 := getL (allL ps n)
theorem val_none {ps : Flds} {n : List UInt8} (h : fnd ps n = false) : valF ps n = [] := by
  unfold fnd at h
  have : allL ps n = [] := List.eq_nil_of_length_eq_zero (by simpa using h)
  unfold valF; rw [this]; rfl
/-- Two tags are the same, strongly (sg) or weakly. -/
def sameT (sg : Bool) (t u : Tg) : Bool := decide (t.2 = u.2) && (!sg || (!t.1 && !u.1))
def starL (v : List UInt8) : Bool := decide (trimB v = [42])
/-- The tags of a field's value, none where the value is refused. -/
def tagsL (v : List UInt8) : List Tg := (lstL v []).getD []
def mtL (v : List UInt8) (s : StV) (sg : Bool) : Bool := s.ex && (starL v || (s.ht && (tagsL v).any fun t => sameT sg t s.tag))
def laterL (s : StV) (d : Option Nat) : Bool := s.ex && s.hm && match d with
  | some n => decide ((n : Int) < s.md)
  | none => false
def sinceL (s : StV) (d : Option Nat) : Bool := s.ex && s.hm && match d with
  | some n => decide (s.md ≤ (n : Int))
  | none => false
def otherL (ps : Flds) (s : StV) (du : Option Nat) : Bool := if fnd ps nIM = true then !mtL (valF ps nIM) s true else laterL s du
def readsM (m : List UInt8) : Bool := decide (m = mGET) || decide (m = mHEAD)
def evalL (m : List UInt8) (ps : Flds) (s : StV) (du dm : Option Nat) : Int :=
  if otherL ps s du = true then 3
  else if fnd ps nIN = true then (if mtL (valF ps nIN) s false = true then (if readsM m = true then 2 else 3) else 1)
  else if readsM m = true ∧ sinceL s dm = true then 2 else 1
def useL (m : List UInt8) (ps : Flds) (s : StV) (dr : Option Nat) : Bool :=
  if m = mGET then (if fnd ps nIR = true then (match readTL (valF ps nIR) with
    | some t => s.ex && s.ht && sameT true t s.tag
    | none => s.ex && s.hm && (match dr with
      | some n => decide ((n : Int) = s.md)
      | none => false)) else true)
  else false
theorem evalL_range (m : List UInt8) (ps : Flds) (s : StV) (du dm : Option Nat) : evalL m ps s du dm = 1 ∨ evalL m ps s du dm = 2 ∧ readsM m = true ∨ evalL m ps s du dm = 3 := by
  unfold evalL
  split
  · exact .inr (.inr rfl)
  · split
    · split
      · split
        · rename_i h; exact .inr (.inl ⟨rfl, h⟩)
        · exact .inr (.inr rfl)
      · exact .inl rfl
    · split
      · rename_i h; exact .inr (.inl ⟨rfl, h.1⟩)
      · exact .inl rfl
end Go.Proofs.YtkpeaghbacoehaaGreatDoor

/- Slices of tags (structs of a bool and a string) in memory: those that a call makes, and those that it reads. -/
namespace Go.Proofs.YtkpeaghbacoehaaGreatDoor
open Go.RowKit

def encT (t : Tg) : List Value := [.bool t.1, strV t.2]
abbrev tgV (t : Tg) : Value := .agg #[.bool t.1, strV t.2]
def flatT (ps : List Tg) : List Value := ps.flatMap encT
theorem flatT_cons (p : Tg) (r : List Tg) : flatT (p :: r) = .bool p.1 :: strV p.2 :: flatT r := rfl
theorem flatT_len (ps : List Tg) : (flatT ps).length = ps.length * 2 := by
  induction ps with
  | nil => rfl
  | cons p r ih => rw [flatT_cons, List.length_cons, List.length_cons, ih, List.length_cons]; omega
theorem flatT_app (a b : List Tg) : flatT (a ++ b) = flatT a ++ flatT b := by simp [flatT]
theorem flatT_at : ∀ (ps : List Tg) (j : Nat) (p : Tg), ps[j]? = some p → (flatT ps)[j * 2]? = some (.bool p.1) ∧ (flatT ps)[j * 2 + 1]? = some (strV p.2) := by
  intro ps
  induction ps with
  | nil => intro j p h; simp at h
  | cons q r ih =>
    intro j p h
    cases j with
    | zero => simp at h; subst h; exact ⟨rfl, rfl⟩
    | succ j =>
      have := ih j p (by simpa using h)
      rw [flatT_cons, show (j + 1) * 2 = j * 2 + 1 + 1 by omega]
      exact ⟨by simpa using this.1, by simpa using this.2⟩
/-- The value v is a slice of the call's own, of tags of type T, that holds ps. -/
def OwnsT (T : TypeId) (B : Nat) (w : World) (v : Value) (ps : List Tg) : Prop := w.ownsRow B T 2 v ps.length (flatT ps)
theorem OwnsT.nil (T : TypeId) (B : Nat) (w : World) : OwnsT T B w (.slice none 0 0) [] := World.ownsRow_nil _ _ _ _
theorem OwnsT.below {T : TypeId} {B : Nat} {w w' : World} {v : Value} {ps : List Tg} (h : OwnsT T B w v ps) (hb : Below w.heap.size w w') : OwnsT T B w' v ps :=
  World.ownsRow.kept h (grown_of_below hb none) (by cases hv : v.ownBlock <;> simp)
theorem OwnsT.mono {T : TypeId} {B C : Nat} {w : World} {v : Value} {ps : List Tg} (hBC : B ≤ C) (h : OwnsT T C w v ps) : OwnsT T B w v ps := by
  rcases h with ⟨hl, hv | ⟨g, cap, cur, hv, hb, hg, hn, hm, hs, ht⟩⟩
  · exact ⟨hl, .inl hv⟩
  · exact ⟨hl, .inr ⟨g, cap, cur, hv, Nat.le_trans hBC hb, hg, hn, hm, hs, ht⟩⟩
theorem OwnsT.snoc {T : TypeId} {B : Nat} {w : World} {v : Value} {ps : List Tg} {p : Tg} (h : w.ownsRow B T 2 v (ps.length + 1) (flatT ps ++ [.bool p.1, strV p.2])) : OwnsT T B w v (ps ++ [p]) := by
  unfold OwnsT
  rw [flatT_app, List.length_append]; exact h
theorem below_appendT {T : TypeId} {B : Nat} {a w w1 w2 : World} {v : Value} {ps : List Tg} {o : Obj} (hB : Below B a w) (hBs : B ≤ w.heap.size) (hb1 : Below w.heap.size w w1) (hown : OwnsT T B w v ps)
    (hgrow : (w1.alloc o).grownBy w2 v.ownBlock) : Below B a w2 :=
  ((hB.trans (hb1.mono hBs)).alloc (by have := hb1.size; omega) o).grown hgrow (by have := hb1.size; simp; omega) (fun q hq => (World.ownsRow.lt hown q hq).1)
/-- The value v is a slice of tags that reads as ps in the world w. -/
def ReadsT (w : World) (v : Value) (ps : List Tg) : Prop :=
  ∃ ao cap, v = .slice ao ps.length cap ∧ ∀ j p, ps[j]? = some p → ∃ g off, ao = some ⟨g, off, none⟩ ∧ g < w.heap.size ∧ w.cell? ⟨g, off + j * 2, none⟩ = some (.bool p.1) ∧ w.cell? ⟨g, off + j * 2 + 1, none⟩ = some (.string (strB p.2))
theorem ReadsT.below {w w' : World} {v : Value} {ps : List Tg} (h : ReadsT w v ps) (hb : Below w.heap.size w w') : ReadsT w' v ps := by
  obtain ⟨ao, cap, rfl, hc⟩ := h
  refine ⟨ao, cap, rfl, fun j p hj => ?_⟩
  obtain ⟨g, off, h1, h2, h3, h4⟩ := hc j p hj
  exact ⟨g, off, h1, Nat.lt_of_lt_of_le h2 hb.size, (hb.cell (p := ⟨g, off + j * 2, none⟩) h2).trans h3, (hb.cell (p := ⟨g, off + j * 2 + 1, none⟩) h2).trans h4⟩
theorem OwnsT.reads {T : TypeId} {B : Nat} {w : World} {v : Value} {ps : List Tg} (h : OwnsT T B w v ps) : ReadsT w v ps := by
  have h0 := h
  rcases h with ⟨hl, ⟨hv, hn⟩ | ⟨g, cap, cur, hv, hb, hg, hn, hm, hs, ht⟩⟩
  · have : ps = [] := List.eq_nil_of_length_eq_zero hn
    subst this
    exact ⟨none, 0, hv, fun j p h => by simp at h⟩
  · refine ⟨_, cap, hv, fun j p hj => ⟨g, 0, rfl, ?_, ?_, ?_⟩⟩
    · exact (World.ownsRow.lt h0 g (by rw [hv]; rfl)).2
    all_goals
      subst hv
      have hj' : j < ps.length := (List.getElem?_eq_some_iff.mp hj).1
      have hf := flatT_at ps j p hj
      rw [Nat.zero_add]
    · rw [World.ownsRow.cellAt h0 (j * 2) (by omega), hf.1]
    · rw [World.ownsRow.cellAt h0 (j * 2 + 1) (by omega), hf.2]
theorem info_tag {P : Program} {T : TypeId} (h : (P.info? T).map (fun i => (i.zero, i.size, i.bytes)) = some (some (.agg #[.bool false, .string ByteArray.empty]), 2, 24)) :
    ∃ i0, P.info? T = some i0 ∧ i0.zero = some (.agg #[.bool false, .string ByteArray.empty]) ∧ i0.size = 2 ∧ i0.bytes = 24 := by
  cases hi : P.info? T with
  | none => rw [hi] at h; cases h
  | some i0 =>
    rw [hi] at h
    simp only [Option.map_some, Option.some.injEq, Prod.mk.injEq] at h
    exact ⟨i0, rfl, h.1, h.2.1, h.2.2⟩
theorem new_tg (w : World) (x : Bool) (y : List UInt8) (T : TypeId) : ∀ j u, [Value.bool x, strV y][j]? = some u → (w.alloc (.cells #[.bool x, strV y] T)).cell? ((⟨w.heap.size, 0, none⟩ : Addr).add j) = some u := by
  intro j u hj
  rw [Addr.add_lit, Nat.zero_add]
  match j, hj with
  | 0, hj => rw [World.cell?_alloc_at _ _ _ _ rfl]; simpa using hj
  | 1, hj => rw [World.cell?_alloc_at _ _ _ _ rfl]; simpa using hj
  | j + 2, hj => simp at hj
end Go.Proofs.YtkpeaghbacoehaaGreatDoor

/- What isText, cutTag, ReadTag, WriteTag, Strong and Weak return. -/
namespace Go.Proofs.YtkpeaghbacoehaaGreatDoor
open Go.RowKit

theorem txtC_iff (c : UInt8) : txtC c = false ↔ c.toNat ≤ 32 ∨ c.toNat = 34 ∨ c.toNat = 127 := by
  have h34 : (c != 34) = !decide (c.toNat = 34) := by
    by_cases h : c = 34
    · subst h; rfl
    · have : c.toNat ≠ 34 := fun e => h (UInt8.toNat_inj.mp e)
      rw [decide_eq_false this]; simpa using h
  have h127 : (c != 127) = !decide (c.toNat = 127) := by
    by_cases h : c = 127
    · subst h; rfl
    · have : c.toNat ≠ 127 := fun e => h (UInt8.toNat_inj.mp e)
      rw [decide_eq_false this]; simpa using h
  unfold txtC
  rw [h34, h127]
  by_cases a : 32 < c.toNat <;> by_cases b : c.toNat = 34 <;> by_cases d : c.toNat = 127 <;> simp [a, b, d] <;> omega
theorem txt_step {s : ByteArray} {k : Nat} (hk : k < s.size) (h : txtB (s.data.toList.take k) = true) (hc : txtC s[k] = true) : txtB (s.data.toList.take (k + 1)) = true := by
  unfold txtB at *
  rw [take_snoc s k hk, List.all_append, h]; simp [hc]
theorem txt_bad {s : ByteArray} {k : Nat} (hk : k < s.size) (hc : txtC s[k] = false) : txtB s.data.toList = false := by
  unfold txtB
  rw [List.all_eq_false]
  exact ⟨s[k], get_mem s k hk, by rw [hc]; decide⟩
theorem txt_all {s : ByteArray} {k : Nat} (hk : s.size ≤ k) (h : txtB (s.data.toList.take k) = true) : txtB s.data.toList = true := by
  rw [take_all s k hk] at h; exact h
set_option maxHeartbeats 2000000 in
set_option maxRecDepth 100000 in
theorem isText_any (s : ByteArray) (w : World) (hs : s.size ≤ 4611686018427387904) :
    Calls Tryz.prog 34 #[.string s] w fun e w' => e = .returned (.bool (txtB s.data.toList)) ∧ w = w' := by
  go_enter Tryz.func34, Tryz.ntmps34
  go_wp2
  go_loop [3] (fun i => ∃ k : Nat, k ≤ s.size ∧ i = .int .i64 k ∧ txtB (s.data.toList.take k) = true) (fun i => s.size - (intOf i).toNat)
  case atStart => exact ⟨0, by omega, rfl, by simp [txtB]⟩
  case round =>
    obtain ⟨k, hk, rfl, hn⟩ := hrel
    have HN := Lib.hid hn
    clear hn
    by_cases hlt : k < s.size
    · by_cases c1 : s[k].toNat ≤ 32
      · have HR := Lib.hid (txt_bad hlt ((txtC_iff _).mpr (.inl c1)))
        have hc1 : (s[k].toNat : Int) ≤ 32 := by omega
        go_wp2
        go_ret
        exact ⟨by first | (rw [HR.out]; rfl) | rw [HR.out], rfl⟩
      · have hc1 : ¬ (s[k].toNat : Int) ≤ 32 := by omega
        by_cases c2 : s[k].toNat = 34
        · have HR := Lib.hid (txt_bad hlt ((txtC_iff _).mpr (.inr (.inl c2))))
          have hc2 : ((s[k].toNat : Int) == 34) = true := by simp; omega
          go_wp2
          go_ret
          exact ⟨by first | (rw [HR.out]; rfl) | rw [HR.out], rfl⟩
        · have hc2 : ((s[k].toNat : Int) == 34) = false := by simp; omega
          by_cases c3 : s[k].toNat = 127
          · have HR := Lib.hid (txt_bad hlt ((txtC_iff _).mpr (.inr (.inr c3))))
            have hc3 : ((s[k].toNat : Int) == 127) = true := by simp; omega
            go_wp2
            go_ret
            exact ⟨by first | (rw [HR.out]; rfl) | rw [HR.out], rfl⟩
          · have hc3 : ((s[k].toNat : Int) == 127) = false := by simp; omega
            have HT := Lib.hid (txt_step hlt HN.out (by
              cases hx : txtC s[k] with
              | true => rfl
              | false => rcases (txtC_iff _).mp hx with h | h | h <;> omega))
            go_wp2
            go_round
            case rel => exact ⟨k + 1, by omega, by go_num, HT.out⟩
            case measure => simp [intOf]; omega
    · have HR := Lib.hid (txt_all (by omega) HN.out)
      go_wp2
      go_ret
      exact ⟨by first | (rw [HR.out]; rfl) | rw [HR.out], rfl⟩

/-- A block of a tag's two cells. -/
def TwoT (N : Nat) (w : World) (x : Bool) (y : List UInt8) : Prop :=
  w.cell? ⟨N, 0, none⟩ = some (.bool x) ∧ w.cell? ⟨N, 1, none⟩ = some (.string (strB y)) ∧ w.frozen? ⟨N, 0, none⟩ = false ∧ w.frozen? ⟨N, 1, none⟩ = false ∧ N < w.heap.size
theorem TwoT.below {N : Nat} {w w' : World} {x : Bool} {y : List UInt8} (h : TwoT N w x y) (hb : Below w.heap.size w w') : TwoT N w' x y := by
  obtain ⟨h1, h2, h3, h4, h5⟩ := h
  exact ⟨(hb.cell (p := ⟨N, 0, none⟩) h5).trans h1, (hb.cell (p := ⟨N, 1, none⟩) h5).trans h2, (hb.frozen (p := ⟨N, 0, none⟩) h5).trans h3, (hb.frozen (p := ⟨N, 1, none⟩) h5).trans h4, Nat.lt_of_lt_of_le h5 hb.size⟩
theorem twoT_new (w : World) (x : Bool) (y : List UInt8) (T : TypeId) : TwoT w.heap.size (w.alloc (.cells #[.bool x, .string (strB y)] T)) x y :=
  ⟨by rw [World.cell?_alloc_at _ _ _ _ rfl]; rfl, by rw [World.cell?_alloc_at _ _ _ _ rfl]; rfl, World.frozen?_alloc_new _ _ _ _, World.frozen?_alloc_new _ _ _ _, by simp⟩
theorem twoT_zero (w : World) (T : TypeId) : TwoT w.heap.size (w.alloc (.cells #[.bool false, .string ByteArray.empty] T)) false [] := twoT_new w false [] T
theorem TwoT.drewN {N : Nat} {w : World} {x : Bool} {y : List UInt8} (h : TwoT N w x y) (n : Nat) : TwoT N (w.drewN n) x y := h.below (below_drewN (Below.refl _ _) n)
theorem below_twoT {B N : Nat} {w w1 : World} (h : Below B w w1) (hN : B ≤ N) (x y : Value) : Below B w ((w1.setCell ⟨N, 0, none⟩ x).setCell ⟨N, 1, none⟩ y) :=
  (h.setCell (p := ⟨N, 0, none⟩) hN _).setCell (p := ⟨N, 1, none⟩) hN _
theorem TwoT.set {N : Nat} {w : World} {x : Bool} {y : List UInt8} (h : TwoT N w x y) (a : Bool) (b : List UInt8) : TwoT N ((w.setCell ⟨N, 0, none⟩ (.bool a)).setCell ⟨N, 1, none⟩ (.string (strB b))) a b := by
  obtain ⟨a0, a1, f0, f1, hB⟩ := h
  have ne : ∀ i j : Nat, i ≠ j → (⟨N, i, none⟩ : Addr) ≠ ⟨N, j, none⟩ := fun i j h e => h (by injection e)
  refine ⟨?_, ?_, by simpa using f0, by simpa using f1, by simpa using hB⟩
  all_goals simp [go_sem, a0, a1]
end Go.Proofs.YtkpeaghbacoehaaGreatDoor

/- What cutTag, ReadTag and WriteTag return. -/
namespace Go.Proofs.YtkpeaghbacoehaaGreatDoor
open Go.RowKit

abbrev errY : Value := .iface 34 (.int .i64 2)
def cutV : Option (Tg × List UInt8) → Value
  | none => .tuple #[tgV (false, []), strV [], errY]
  | some (t, r) => .tuple #[tgV t, strV r, .nilIface]
def tgO : Option Tg → Value
  | none => .tuple #[tgV (false, []), errY]
  | some t => .tuple #[tgV t, .nilIface]
def texO (t : Tg) : Value := if txtB t.2 = true then .tuple #[strV (texL t), .nilIface] else .tuple #[strV [], errY]
theorem cutW_any (l : List UInt8) (w : World) : Calls Tryz.prog 55 #[.string (strB l), .string ⟨#[87, 47]⟩] w fun e w' => e = .returned (.tuple #[.string (strB (unwL l)), .bool (wkL l)]) ∧ w = w' := by
  refine (cutPre_any (strB l) ⟨#[87, 47]⟩ w (b := wkL l) (by rw [strB_list]; rfl)).mono ?_
  rintro e w' ⟨rfl, rfl⟩
  rw [strB_list]
  exact ⟨rfl, rfl⟩
theorem cutQ_any (l : List UInt8) (w : World) : Calls Tryz.prog 55 #[.string (strB l), .string ⟨#[34]⟩] w fun e w' => e = .returned (.tuple #[.string (strB (unqL l)), .bool (qtL l)]) ∧ w = w' := by
  refine (cutPre_any (strB l) ⟨#[34]⟩ w (b := qtL l) (by rw [strB_list]; rfl)).mono ?_
  rintro e w' ⟨rfl, rfl⟩
  rw [strB_list]
  exact ⟨rfl, rfl⟩
theorem strB_nil0 : strB [] = ⟨#[]⟩ := rfl
theorem unw_len (l : List UInt8) : (unqL (unwL l)).length ≤ l.length := by
  unfold unqL unwL
  split <;> split <;> simp
set_option maxHeartbeats 4000000 in
set_option maxRecDepth 100000 in
theorem cutTag_any (l : List UInt8) (w : World) (hM : MaxIs w) (hl : l.length ≤ 1000000) :
    Calls Tryz.prog 37 #[.string (strB l)] w fun e w' => e = .returned (cutV (cutTL l)) ∧ Below w.heap.size w w' := by
  have HW := Lib.hid (cutW_any l)
  have HQ := Lib.hid (cutQ_any (unwL l))
  have hu := unw_len l
  obtain ⟨a, b, f, hc⟩ : ∃ a b f, cut9 34 (unqL (unwL l)) = (a, b, f) := ⟨_, _, _, rfl⟩
  have hal := cut9_len 34 (unqL (unwL l))
  rw [hc] at hal
  simp only at hal
  have HC := Lib.hid (fun (w : World) (hM : MaxIs w) => cutR_any 34 (strB (unqL (unwL l))) w hM (by rw [strB_size]; omega) (a := a) (b := b) (f := f) (by rw [strB_list]; exact hc))
  have HT := Lib.hid (fun (w : World) => isText_any (strB a) w (by rw [strB_size]; omega))
  rw [strB_list] at HT
  have HM := Lib.hid hM
  have HR := Lib.hid (show cutTL l = if qtL (unwL l) = true ∧ f = true ∧ txtB a = true then some ((wkL l, a), b) else none by unfold cutTL; rw [hc])
  clear hM hc hal hu
  generalize unqL (unwL l) = l2 at *
  generalize qtL (unwL l) = q at *
  generalize wkL l = k at *
  generalize unwL l = l1 at *
  have hgo : ∀ x : Bool, txtB a = x → Calls Tryz.prog 37 #[.string (strB l)] w fun e w' => e = .returned (cutV (cutTL l)) ∧ Below w.heap.size w w' := by
    intro x hx
    rw [hx] at HT HR
    have HR2 := Lib.hid HR.out
    clear hx
    cases q
    · have HR3 := Lib.hid (show cutTL l = none by rw [HR2.out]; simp)
      go_enter Tryz.func37, Tryz.ntmps37
      go_wp2_with fail
      refine (HW.out _).mono ?_
      rintro e w' ⟨rfl, rfl⟩
      go_wp2_with fail
      refine (HQ.out _).mono ?_
      rintro e w' ⟨rfl, rfl⟩
      go_wp2_with fail
      refine (HC.out _ (HM.out.alloc _)).mono ?_
      rintro e w' ⟨rfl, n, rfl⟩
      obtain ⟨c0, c1, f0, f1, hN⟩ := (twoT_zero w 29).drewN n
      go_wp2_with fail
      rw [HR3.out]
      exact bodyPost_ret (v := cutV none) (by simp [results, Tryz.results37, go_sem, cutV, strB_nil0]) rfl ⟨rfl, below_twoT (below_drewN (below_new _ _) _) (Nat.le_refl _) _ _⟩
    · cases f
      · have HR3 := Lib.hid (show cutTL l = none by rw [HR2.out]; simp)
        go_enter Tryz.func37, Tryz.ntmps37
        go_wp2_with fail
        refine (HW.out _).mono ?_
        rintro e w' ⟨rfl, rfl⟩
        go_wp2_with fail
        refine (HQ.out _).mono ?_
        rintro e w' ⟨rfl, rfl⟩
        go_wp2_with fail
        refine (HC.out _ (HM.out.alloc _)).mono ?_
        rintro e w' ⟨rfl, n, rfl⟩
        obtain ⟨c0, c1, f0, f1, hN⟩ := (twoT_zero w 29).drewN n
        go_wp2_with fail
        rw [HR3.out]
        exact bodyPost_ret (v := cutV none) (by simp [results, Tryz.results37, go_sem, cutV, strB_nil0]) rfl ⟨rfl, below_twoT (below_drewN (below_new _ _) _) (Nat.le_refl _) _ _⟩
      · cases x
        · have HR3 := Lib.hid (show cutTL l = none by rw [HR2.out]; simp)
          go_enter Tryz.func37, Tryz.ntmps37
          go_wp2_with fail
          refine (HW.out _).mono ?_
          rintro e w' ⟨rfl, rfl⟩
          go_wp2_with fail
          refine (HQ.out _).mono ?_
          rintro e w' ⟨rfl, rfl⟩
          go_wp2_with fail
          refine (HC.out _ (HM.out.alloc _)).mono ?_
          rintro e w' ⟨rfl, n, rfl⟩
          obtain ⟨c0, c1, f0, f1, hN⟩ := (twoT_zero w 29).drewN n
          go_wp2_with fail
          refine (HT.out _).mono ?_
          rintro e w' ⟨rfl, rfl⟩
          go_wp2_with fail
          rw [HR3.out]
          exact bodyPost_ret (v := cutV none) (by simp [results, Tryz.results37, go_sem, cutV, strB_nil0]) rfl ⟨rfl, below_twoT (below_drewN (below_new _ _) _) (Nat.le_refl _) _ _⟩
        · have HR3 := Lib.hid (show cutTL l = some ((k, a), b) by rw [HR2.out]; simp)
          go_enter Tryz.func37, Tryz.ntmps37
          go_wp2_with fail
          refine (HW.out _).mono ?_
          rintro e w' ⟨rfl, rfl⟩
          go_wp2_with fail
          refine (HQ.out _).mono ?_
          rintro e w' ⟨rfl, rfl⟩
          go_wp2_with fail
          refine (HC.out _ (HM.out.alloc _)).mono ?_
          rintro e w' ⟨rfl, n, rfl⟩
          obtain ⟨c0, c1, f0, f1, hN⟩ := (twoT_zero w 29).drewN n
          go_wp2_with fail
          refine (HT.out _).mono ?_
          rintro e w' ⟨rfl, rfl⟩
          go_wp2_with fail
          rw [HR3.out]
          exact bodyPost_ret (v := cutV (some ((k, a), b))) (by simp [results, Tryz.results37, go_sem, cutV]) rfl ⟨rfl, below_twoT (below_drewN (below_new _ _) _) (Nat.le_refl _) _ _⟩
  exact hgo _ rfl
set_option maxHeartbeats 4000000 in
set_option maxRecDepth 100000 in
theorem readTag_any (l : List UInt8) (w : World) (hM : MaxIs w) (hl : l.length ≤ 1000000) :
    Calls Tryz.prog 16 #[.string (strB l)] w fun e w' => e = .returned (tgO (readTL l)) ∧ Below w.heap.size w w' := by
  have HC := Lib.hid (fun (w : World) (hM : MaxIs w) => cutTag_any l w hM hl)
  have HM := Lib.hid hM
  clear hM
  have HR := Lib.hid (show readTL l = match cutTL l with | some (t, r) => if r = [] then some t else none | none => none from rfl)
  generalize cutTL l = q at *
  cases q with
  | none =>
    have HR2 := Lib.hid (show readTL l = none from HR.out)
    go_enter Tryz.func16, Tryz.ntmps16
    go_wp2_with fail
    refine (HC.out _ (HM.out.alloc _)).mono ?_
    rintro e w1 ⟨rfl, hB⟩
    obtain ⟨c0, c1, f0, f1, hN⟩ := ((twoT_zero w 29).below hB).below (below_new w1 (.cells #[.bool false, .string (strB [])] 29))
    have HB := Lib.hid ((below_new w (.cells #[.bool false, .string ByteArray.empty] 29)).trans (hB.mono (by simp)))
    have hb := hB.size
    simp at hb
    clear hB
    unfold cutV
    go_wp2_with fail
    rw [HR2.out]
    rw [strB_nil0] at c0 c1 f0 f1
    exact bodyPost_ret (v := tgO none) (by simp [results, Tryz.results16, go_sem, tgO, c0, c1, strB_nil0]) rfl ⟨rfl, below_twoT (HB.out.alloc (by omega) _) (Nat.le_refl _) _ _⟩
  | some p =>
    obtain ⟨⟨k, a⟩, r⟩ := p
    by_cases hr : r = []
    · subst hr
      have HR2 := Lib.hid (show readTL l = some (k, a) from HR.out)
      go_enter Tryz.func16, Tryz.ntmps16
      go_wp2_with fail
      refine (HC.out _ (HM.out.alloc _)).mono ?_
      rintro e w1 ⟨rfl, hB⟩
      obtain ⟨c0, c1, f0, f1, hN⟩ := ((twoT_zero w 29).below hB).below (below_new w1 (.cells #[.bool k, .string (strB a)] 29))
      obtain ⟨d0, d1, g0, g1, hN2⟩ := twoT_new w1 k a 29
      have HB := Lib.hid ((below_new w (.cells #[.bool false, .string ByteArray.empty] 29)).trans (hB.mono (by simp)))
      have hb := hB.size
      simp at hb
      have hE := empty_yes (l := []) rfl
      clear hB
      unfold cutV
      go_wp2_with fail
      rw [HR2.out]
      exact bodyPost_ret (v := tgO (some (k, a))) (by simp [results, Tryz.results16, go_sem, tgO, c0, c1, strB_nil0]) rfl ⟨rfl, below_twoT (HB.out.alloc (by omega) _) (Nat.le_refl _) _ _⟩
    · have HR2 := Lib.hid (show readTL l = none by rw [HR.out]; simp only; rw [if_neg hr])
      have hE := empty_no hr
      clear hr
      go_enter Tryz.func16, Tryz.ntmps16
      go_wp2_with fail
      refine (HC.out _ (HM.out.alloc _)).mono ?_
      rintro e w1 ⟨rfl, hB⟩
      obtain ⟨c0, c1, f0, f1, hN⟩ := ((twoT_zero w 29).below hB).below (below_new w1 (.cells #[.bool k, .string (strB a)] 29))
      have HB := Lib.hid ((below_new w (.cells #[.bool false, .string ByteArray.empty] 29)).trans (hB.mono (by simp)))
      have hb := hB.size
      simp at hb
      clear hB
      unfold cutV
      go_wp2_with fail
      rw [HR2.out]
      exact bodyPost_ret (v := tgO none) (by simp [results, Tryz.results16, go_sem, tgO, c0, c1, strB_nil0]) rfl ⟨rfl, below_twoT (HB.out.alloc (by omega) _) (Nat.le_refl _) _ _⟩
end Go.Proofs.YtkpeaghbacoehaaGreatDoor

/- What WriteTag, Strong, Weak, readList and ReadTags return. -/
namespace Go.Proofs.YtkpeaghbacoehaaGreatDoor
open Go.RowKit

set_option maxHeartbeats 1000000 in
theorem writeTag_any (t : Tg) (w : World) (ht : t.2.length ≤ 1000000) :
    Calls Tryz.prog 12 #[tgV t] w fun e w' => e = .returned (texO t) ∧ Below w.heap.size w w' := by
  obtain ⟨k, a⟩ := t
  have ht' : a.length ≤ 1000000 := ht
  have HT := Lib.hid (fun (w : World) => isText_any (strB a) w (by rw [strB_size]; omega))
  rw [strB_list] at HT
  have HR := Lib.hid (show texO (k, a) = if txtB a = true then .tuple #[strV (texL (k, a)), .nilIface] else .tuple #[strV [], errY] from rfl)
  have hsz : (strB a).size = a.length := strB_size a
  have hgo : ∀ x : Bool, txtB a = x → Calls Tryz.prog 12 #[tgV (k, a)] w fun e w' => e = .returned (texO (k, a)) ∧ Below w.heap.size w w' := by
    intro x hx
    rw [hx] at HT HR
    clear hx
    cases x
    · have HR2 := Lib.hid (show texO (k, a) = .tuple #[strV [], errY] by rw [HR.out]; rfl)
      go_enter Tryz.func12, Tryz.ntmps12
      go_wp2_with fail
      refine (HT.out _).mono ?_
      rintro e w' ⟨rfl, rfl⟩
      go_wp2_with fail
      go_ret2
      exact ⟨by first | (rw [HR2.out]; rfl) | rw [HR2.out], below_new _ _⟩
    · have HR2 := Lib.hid (show texO (k, a) = .tuple #[strV (texL (k, a)), .nilIface] by rw [HR.out]; rfl)
      cases k
      · have HE := Lib.hid (show (⟨#[34]⟩ : ByteArray) ++ strB a ++ ⟨#[34]⟩ = strB (texL (false, a)) by apply strB_ext; simp [strB, texL])
        go_enter Tryz.func12, Tryz.ntmps12
        go_wp2_with fail
        refine (HT.out _).mono ?_
        rintro e w' ⟨rfl, rfl⟩
        go_wp2_with fail
        go_ret2
        exact ⟨by rw [HR2.out]; show _ = Ending.returned (.tuple #[.string (strB (texL (false, a))), .nilIface]); rw [← HE.out]; rfl, below_new _ _⟩
      · have HE := Lib.hid (show (⟨#[87, 47]⟩ : ByteArray) ++ (⟨#[34]⟩ ++ strB a ++ ⟨#[34]⟩) = strB (texL (true, a)) by apply strB_ext; simp [strB, texL])
        go_enter Tryz.func12, Tryz.ntmps12
        go_wp2_with fail
        refine (HT.out _).mono ?_
        rintro e w' ⟨rfl, rfl⟩
        go_wp2_with fail
        go_ret2
        exact ⟨by rw [HR2.out]; show _ = Ending.returned (.tuple #[.string (strB (texL (true, a))), .nilIface]); rw [← HE.out]; rfl, below_new _ _⟩
  exact hgo _ rfl
theorem below_newY (w : World) (o p : Obj) : Below w.heap.size w ((w.alloc o).alloc p) := (below_new w o).alloc (by simp) p
theorem same_strB (a b : List UInt8) : ((strB a).toList == (strB b).toList) = decide (a = b) := by
  rw [ByteArray.toList_eq, ByteArray.toList_eq, strB_list, strB_list]
  by_cases h : a = b
  · subst h; simp
  · simp [h]
set_option maxHeartbeats 1000000 in
theorem weak_any (t u : Tg) (w : World) :
    Calls Tryz.prog 22 #[tgV t, tgV u] w fun e w' => e = .returned (.bool (sameT false t u)) ∧ Below w.heap.size w w' := by
  obtain ⟨k, a⟩ := t
  obtain ⟨j, b⟩ := u
  have hs := same_strB a b
  go_enter Tryz.func22, Tryz.ntmps22
  go_wp2
  go_ret
  exact ⟨by simp [sameT], below_newY _ _ _⟩
set_option maxHeartbeats 1000000 in
theorem strong_any (t u : Tg) (w : World) :
    Calls Tryz.prog 21 #[tgV t, tgV u] w fun e w' => e = .returned (.bool (sameT true t u)) ∧ Below w.heap.size w w' := by
  obtain ⟨k, a⟩ := t
  obtain ⟨j, b⟩ := u
  have hs := same_strB a b
  cases k <;> cases j
  all_goals
    go_enter Tryz.func21, Tryz.ntmps21
    go_wp2
    go_ret
    exact ⟨by simp [sameT], below_newY _ _ _⟩

theorem trim_head {r : List UInt8} {c : UInt8} {x : List UInt8} (h : trimB r = c :: x) : blank c = false := by
  rw [trimB_eq] at h
  cases e : tL r with
  | nil => rw [e] at h; cases h
  | cons d y =>
    rw [e, tR_cons_ne (tL_head e)] at h
    simp only [List.cons.injEq] at h
    rw [← h.1]; exact tL_head e
theorem new_tg2 (w : World) (o : Obj) (x : Bool) (y : List UInt8) (T : TypeId) : ∀ j u, [Value.bool x, strV y][j]? = some u → ((w.alloc o).alloc (.cells #[.bool x, strV y] T)).cell? ((⟨w.heap.size + 1, 0, none⟩ : Addr).add j) = some u := by
  have e : w.heap.size + 1 = (w.alloc o).heap.size := by simp
  rw [e]; exact new_tg (w.alloc o) x y T
def TagsPost (T : TypeId) (l : List UInt8) (w : World) (e : Ending) (w' : World) : Prop :=
  Below w.heap.size w w' ∧
  match lstL l [] with
  | none => e = .returned (.tuple #[.slice none 0 0, errY])
  | some ts => ∃ v, e = .returned (.tuple #[v, .nilIface]) ∧ OwnsT T w.heap.size w' v ts ∧ ts.length ≤ l.length
theorem tagsPost_none {T : TypeId} {l : List UInt8} {w w' : World} {e : Ending} (hB : Below w.heap.size w w') (hR : lstL l [] = none) (he : e = .returned (.tuple #[.slice none 0 0, errY])) : TagsPost T l w e w' := ⟨hB, by rw [hR]; exact he⟩
theorem tagsPost_some {T : TypeId} {l : List UInt8} {w w' : World} {e : Ending} {v : Value} {ts : List Tg} (hB : Below w.heap.size w w') (hR : lstL l [] = some ts) (he : e = .returned (.tuple #[v, .nilIface])) (hO : OwnsT T w.heap.size w' v ts) (hl : ts.length ≤ l.length) : TagsPost T l w e w' := ⟨hB, by rw [hR]; exact ⟨v, he, hO, hl⟩⟩
def TRel (T : TypeId) (l : List UInt8) (w : World) (v r : Value) (wr : World) : Prop :=
  ∃ (acc : List Tg) (x : List UInt8), r = .string (strB x) ∧ (∀ c y, x = c :: y → blank c = false) ∧ lstL x acc = lstL l [] ∧ acc.length + x.length ≤ l.length ∧ OwnsT T w.heap.size wr v acc ∧ Below w.heap.size w wr
theorem cutC_any (l : List UInt8) (b : Bool) (w : World) (h : [44].isPrefixOf l = b) : Calls Tryz.prog 55 #[.string (strB l), .string ⟨#[44]⟩] w fun e w' => e = .returned (.tuple #[.string (strB (if b then l.drop 1 else l)), .bool b]) ∧ w = w' := by
  refine (cutPre_any (strB l) ⟨#[44]⟩ w (b := b) (by rw [strB_list]; exact h)).mono ?_
  rintro e w' ⟨rfl, rfl⟩
  rw [strB_list]
  exact ⟨rfl, rfl⟩
theorem cutTL_len {l : List UInt8} {t : Tg} {r : List UInt8} (h : cutTL l = some (t, r)) : r.length + 2 ≤ l.length := by
  obtain ⟨_, rfl⟩ := cutTL_some h
  obtain ⟨k, a⟩ := t
  cases k <;> simp [texL] <;> omega
theorem Tryz.infoT : (Tryz.prog.info? 29).map (fun i => (i.zero, i.size, i.bytes)) = some (some (.agg #[.bool false, .string ByteArray.empty]), 2, 24) := by kernel_rfl
theorem trimS_any (l : List UInt8) (w : World) (hl : l.length ≤ 1000000) : Calls Tryz.prog 38 #[.string (strB l)] w fun e w' => e = .returned (.string (strB (trimB l))) ∧ Below w.heap.size w w' := by
  refine (trimA_any (strB l) w (by rw [strB_size]; omega)).mono ?_
  rintro e w' ⟨rfl, hb⟩
  rw [strB_list]; exact ⟨rfl, hb⟩
set_option maxHeartbeats 8000000 in
set_option maxRecDepth 100000 in
theorem readList_any (l : List UInt8) (w : World) (hM : MaxIs w) (hl : l.length ≤ 1000000) :
    Calls Tryz.prog 39 #[.string (strB l)] w fun e w' => TagsPost 29 l w e w' := by
  obtain ⟨i0, hi, hz0, hz1, hz2⟩ := info_tag Tryz.infoT
  have HM := Lib.hid hM
  have htl := trimB_le l
  clear hM
  go_enter Tryz.func39, Tryz.ntmps39
  go_wp2_with fail
  refine (trimS_any l _ hl).mono ?_
  rintro e w1 ⟨rfl, hB1⟩
  have HB1 := Lib.hid hB1
  have hb1 := hB1.size
  clear hB1
  go_wp2_with fail
  go_loopw [4, 5] (fun v r wr => TRel 29 l w v r wr) (fun _ r _ => lenV r)
  case atStart => exact ⟨[], trimB l, rfl, fun c y h => trim_head h, lstL_trim l [], by simpa using htl, OwnsT.nil _ _ _, HB1.out⟩
  case round =>
    obtain ⟨acc, x, rfl, hhead, hlst, hlen, hO, hBr⟩ := hrel
    have hbr := hBr.size
    have HBR := Lib.hid hBr
    have HL := Lib.hid hlst
    have HO := Lib.hid hO
    clear hBr hlst hO
    cases x with
    | nil =>
      have hE := empty_yes (l := []) rfl
      have hE' : (strB []).toList = [] := by rw [ByteArray.toList_eq]; rfl
      clear hhead
      rw [lstL_nil] at HL
      by_cases ha : acc = []
      · subst ha
        have HR := Lib.hid (show lstL l [] = none from HL.out.symm)
        obtain ⟨ao, cap, rfl, _⟩ := HO.out.reads
        go_wp2
        go_ret2
        exact tagsPost_none HBR.out HR.out rfl
      · have HR := Lib.hid (show lstL l [] = some acc by rw [← HL.out]; unfold finT; rw [if_neg ha])
        have hpos : 0 < acc.length := List.length_pos_iff.mpr ha
        obtain ⟨ao, cap, rfl, _⟩ := HO.out.reads
        clear ha
        go_wp2
        go_ret2
        exact tagsPost_some HBR.out HR.out rfl HO.out (by omega)
    | cons c y =>
      have hb0 := hhead c y rfl
      have HB0 := Lib.hid hb0
      clear hhead hb0
      have hE := empty_no (l := c :: y) (by simp)
      have hEl : (strB (c :: y)).toList = c :: y := by rw [ByteArray.toList_eq, strB_list]
      have ez : (strB (c :: y)).size = y.length + 1 := strB_size _
      have e0 : (strB (c :: y))[0]'(by omega) = c := rfl
      simp only [List.length_cons] at hlen
      by_cases hc : c = 44
      · subst hc
        have n0 : (((44 : UInt8).toNat : Int) != 44) = false := by decide
        have HC := Lib.hid (fun w => cutC_any (44 :: y) true w rfl)
        have HN := Lib.hid ((lstL_comma y acc).symm.trans HL.out)
        have hty := trimB_le y
        have HT := Lib.hid (fun w => trimS_any y w (by omega))
        go_wp2_with fail
        refine (HC.out _).mono ?_
        rintro e w' ⟨rfl, rfl⟩
        go_wp2_with fail
        refine (HT.out _).mono ?_
        rintro e w2 ⟨rfl, hB2⟩
        go_wp2_with fail
        go_roundw
        case rel => exact ⟨acc, trimB y, rfl, fun c y h => trim_head h, HN.out, by omega, HO.out.below hB2, HBR.out.trans (hB2.mono hbr)⟩
        case measure => rw [lenV_s, lenV_s]; simp only [List.length_cons]; omega
      · have n0 : ((c.toNat : Int) != 44) = true := by
          have : c.toNat ≠ 44 := fun h => hc (UInt8.toNat_inj.mp h)
          simp; omega
        have HC := Lib.hid (fun (w : World) (hM : MaxIs w) => cutTag_any (c :: y) w hM (by simp only [List.length_cons]; omega))
        have HM2 := Lib.hid (HM.out.below HBR.out)
        cases hq : cutTL (c :: y) with
        | none =>
          rw [hq] at HC
          have HR := Lib.hid ((HL.out.symm.trans (lstL_no HB0.out hc hq acc)))
          clear hq hc
          unfold cutV at HC
          go_wp2_with fail
          refine (HC.out _ HM2.out).mono ?_
          rintro e w2 ⟨rfl, hB2⟩
          have hb2 := hB2.size
          have HW := Lib.hid (HBR.out.trans (hB2.mono hbr))
          clear hB2
          go_wp2_with fail
          go_ret2
          exact tagsPost_none (HW.out.alloc (by omega) _) HR.out rfl
        | some p =>
          obtain ⟨t, r⟩ := p
          obtain ⟨k, a⟩ := t
          rw [hq] at HC
          have hrl := cutTL_len hq
          simp only [List.length_cons] at hrl
          have HQ := Lib.hid hq
          clear hq hc
          unfold cutV at HC
          have hfl := flatT_len acc
          have htr := trimB_le r
          have HT := Lib.hid (fun w => trimS_any r w (by omega))
          go_wp2_with fail
          refine (HC.out _ HM2.out).mono ?_
          rintro e w2 ⟨rfl, hB2⟩
          have hb2 := hB2.size
          have HB2 := Lib.hid hB2
          obtain ⟨c0, c1, f0, f1, hN⟩ := twoT_new w2 k a 29
          have hO4 := (HO.out.below hB2).below (below_new w2 (.cells #[.bool k, .string (strB a)] 29))
          clear hB2
          go_wp2_with (at_builtin; go_must (refine wpList_append_own _ rfl _ _ 42 rfl w.heap.size 29 i0 (.agg #[.bool false, .string ByteArray.empty]) 2 24 Tryz.underlying42 hi hz0 hz1 hz2 rfl (by decide) _ _ _ rfl (World.ownsRow.alloc hO4 _) ⟨w2.heap.size + 1, 0, none⟩ 1 1 [.bool k, strV a] rfl rfl (new_tg2 w2 _ k a _) (fun u hu => by simp at hu; rcases hu with rfl | rfl <;> rfl) (by unfold maxLen; omega) (by omega) (by simp; omega) ?_); intro v' w5 hown' hgrow _)
          refine (HT.out _).mono ?_
          rintro e w6 ⟨rfl, hB6⟩
          have hO5 := OwnsT.snoc (p := (k, a)) hown'
          have hB5 := below_appendT HBR.out hbr (HB2.out.alloc hb2 _) HO.out hgrow
          have hb5 := hB5.size
          have HO6 := Lib.hid (hO5.below hB6)
          have HB6 := Lib.hid (hB5.trans (hB6.mono hb5))
          clear hown' hgrow hO5 hB5 hB6 hO4
          have hap : (acc ++ [(k, a)]).length = acc.length + 1 := by simp
          rcases hz : trimB r with _ | ⟨d, z⟩
          · have hE2 : (strB []).toList = [] := by rw [ByteArray.toList_eq]; rfl
            have HC2 := Lib.hid (fun w => cutC_any [] false w rfl)
            have HT2 := Lib.hid (fun w => trimS_any [] w (by simp))
            have HN := Lib.hid ((lstL_last HQ.out hz acc).symm.trans HL.out)
            clear hz
            go_wp2_with fail
            refine (HC2.out _).mono ?_
            rintro e w' ⟨rfl, rfl⟩
            go_wp2_with fail
            refine (HT2.out _).mono ?_
            rintro e w7 ⟨rfl, hB7⟩
            go_wp2_with fail
            go_roundw
            case rel => exact ⟨acc ++ [(k, a)], trimB [], rfl, fun c y h => trim_head h, (lstL_trim [] _).trans HN.out, by rw [hap]; show _ + 0 ≤ _; omega, HO6.out.below hB7, HB6.out.trans (hB7.mono HB6.out.size)⟩
            case measure => rw [lenV_s, lenV_s]; show 0 < _; simp
          · by_cases hd : d = 44
            · subst hd
              have hzl := congrArg List.length hz
              simp only [List.length_cons] at hzl
              have HC2 := Lib.hid (fun w => cutC_any (44 :: z) true w rfl)
              have htz := trimB_le z
              have HT2 := Lib.hid (fun w => trimS_any z w (by omega))
              have HN := Lib.hid ((lstL_more HQ.out hz acc).symm.trans HL.out)
              clear hz
              go_wp2_with fail
              refine (HC2.out _).mono ?_
              rintro e w' ⟨rfl, rfl⟩
              go_wp2_with fail
              refine (HT2.out _).mono ?_
              rintro e w7 ⟨rfl, hB7⟩
              go_wp2_with fail
              go_roundw
              case rel => exact ⟨acc ++ [(k, a)], trimB z, rfl, fun c y h => trim_head h, HN.out, by rw [hap]; omega, HO6.out.below hB7, HB6.out.trans (hB7.mono HB6.out.size)⟩
              case measure => rw [lenV_s, lenV_s]; simp only [List.length_cons]; omega
            · have HC2 := Lib.hid (fun w => cutC_any (d :: z) false w (by
                have : (44 == d) = false := by simpa using fun h => hd h.symm
                simp [List.isPrefixOf, this]))
              have hE2 : (strB (d :: z)).toList = d :: z := by rw [ByteArray.toList_eq, strB_list]
              have HR := Lib.hid (HL.out.symm.trans (lstL_bad HQ.out hz hd acc))
              clear hz hd
              go_wp2_with fail
              refine (HC2.out _).mono ?_
              rintro e w' ⟨rfl, rfl⟩
              go_wp2_with fail
              go_ret2
              exact tagsPost_none HB6.out HR.out rfl
end Go.Proofs.YtkpeaghbacoehaaGreatDoor

/- What ReadTags and matches return. -/
namespace Go.Proofs.YtkpeaghbacoehaaGreatDoor
open Go.RowKit

theorem star_any (l : List UInt8) : ((strB (trimB l)).toList == [42]) = starL l := by
  rw [ByteArray.toList_eq, strB_list]
  unfold starL
  by_cases h : trimB l = [42]
  · rw [h]; rfl
  · simp [h]
def ReadPost (T : TypeId) (l : List UInt8) (w : World) (e : Ending) (w' : World) : Prop :=
  Below w.heap.size w w' ∧
  ((starL l = true ∧ e = .returned (.tuple #[.slice none 0 0, .bool true, .nilIface])) ∨
   (starL l = false ∧ lstL l [] = none ∧ e = .returned (.tuple #[.slice none 0 0, .bool false, errY])) ∨
   (starL l = false ∧ ∃ v ts, lstL l [] = some ts ∧ e = .returned (.tuple #[v, .bool false, .nilIface]) ∧ OwnsT T w.heap.size w' v ts ∧ ts.length ≤ l.length))
set_option maxHeartbeats 2000000 in
set_option maxRecDepth 100000 in
theorem readTags_any (l : List UInt8) (w : World) (hM : MaxIs w) (hl : l.length ≤ 1000000) :
    Calls Tryz.prog 19 #[.string (strB l)] w fun e w' => ReadPost 29 l w e w' := by
  have HM := Lib.hid hM
  have HS := star_any l
  clear hM
  cases hst : starL l with
  | true =>
    rw [hst] at HS
    have HT := Lib.hid hst
    clear hst
    go_enter Tryz.func19, Tryz.ntmps19
    go_wp2_with fail
    refine (trimS_any l _ hl).mono ?_
    rintro e w1 ⟨rfl, hB1⟩
    go_wp2_with fail
    exact bodyPost_ret (v := .tuple #[.slice none 0 0, .bool true, .nilIface]) (by simp [results, Tryz.results19, go_sem]) rfl ⟨hB1, .inl ⟨HT.out, rfl⟩⟩
  | false =>
    rw [hst] at HS
    have HT := Lib.hid hst
    clear hst
    go_enter Tryz.func19, Tryz.ntmps19
    go_wp2_with fail
    refine (trimS_any l _ hl).mono ?_
    rintro e w1 ⟨rfl, hB1⟩
    have HB1 := Lib.hid hB1
    clear hB1
    go_wp2_with fail
    refine (readList_any l _ (HM.out.below HB1.out) hl).mono ?_
    rintro e w2 ⟨hB2, he⟩
    have HB2 := Lib.hid (HB1.out.trans (hB2.mono HB1.out.size))
    clear hB2
    cases hq : lstL l [] with
    | none =>
      rw [hq] at he
      have HQ := Lib.hid hq
      clear hq
      simp only at he
      subst he
      go_wp2_with fail
      exact bodyPost_ret (v := .tuple #[.slice none 0 0, .bool false, errY]) (by simp [results, Tryz.results19, go_sem]) rfl ⟨HB2.out, .inr (.inl ⟨HT.out, HQ.out, rfl⟩)⟩
    | some ts =>
      rw [hq] at he
      have HQ := Lib.hid hq
      clear hq
      obtain ⟨v, rfl, hO, hln⟩ := he
      have HO := Lib.hid hO
      clear hO
      go_wp2_with fail
      exact bodyPost_ret (v := .tuple #[v, .bool false, .nilIface]) (by simp [results, Tryz.results19, go_sem]) rfl ⟨HB2.out, .inr (.inr ⟨HT.out, v, ts, HQ.out, rfl, HO.out.mono HB1.out.size, hln⟩)⟩

/-- The function value that compares two tags. -/
def cmpV (sg : Bool) : Value := .func (.func (if sg then 21 else 22)) #[] #[]
abbrev cloV (g1 g2 : Nat) : Value := .func (.func 62) #[] #[.pointer (some ⟨g1, 0, none⟩), .pointer (some ⟨g2, 0, none⟩)]
/-- What the closure asks of a world: the comparison in its box, the state's tag in the state's. -/
def CloE (sg : Bool) (u : Tg) (g1 g2 : Nat) (w : World) : Prop :=
  w.cell? ⟨g1, 0, none⟩ = some (cmpV sg) ∧ w.cell? ⟨g2, 3, none⟩ = some (.bool u.1) ∧ w.cell? ⟨g2, 4, none⟩ = some (.string (strB u.2)) ∧ g1 < w.heap.size ∧ g2 < w.heap.size
theorem CloE.below {sg : Bool} {u : Tg} {g1 g2 : Nat} {w w' : World} (h : CloE sg u g1 g2 w) (hb : Below w.heap.size w w') : CloE sg u g1 g2 w' := by
  obtain ⟨h1, h2, h3, h4, h5⟩ := h
  exact ⟨(hb.cell (p := ⟨g1, 0, none⟩) h4).trans h1, (hb.cell (p := ⟨g2, 3, none⟩) h5).trans h2, (hb.cell (p := ⟨g2, 4, none⟩) h5).trans h3, Nat.lt_of_lt_of_le h4 hb.size, Nat.lt_of_lt_of_le h5 hb.size⟩
set_option maxHeartbeats 2000000 in
set_option maxRecDepth 100000 in
theorem clo_any (sg : Bool) (t u : Tg) (g1 g2 : Nat) (w : World) (hE : CloE sg u g1 g2 w) :
    Calls Tryz.prog 62 #[tgV t, .pointer (some ⟨g1, 0, none⟩), .pointer (some ⟨g2, 0, none⟩)] w fun e w' => e = .returned (.bool (sameT sg t u)) ∧ Below w.heap.size w w' := by
  obtain ⟨k, a⟩ := t
  have hE2 := hE.below (below_new w (.cells #[.bool k, .string (strB a)] 29))
  obtain ⟨h1, h2, h3, h4, h5⟩ := hE2
  obtain ⟨c0, c1, f0, f1, hN⟩ := twoT_new w k a 29
  clear hE
  cases sg
  · unfold cmpV at h1
    simp only [if_false, Bool.false_eq_true] at h1
    go_enter Tryz.func62, Tryz.ntmps62
    go_wp2_with fail
    refine (weak_any (k, a) u _).mono ?_
    rintro e w2 ⟨rfl, hB2⟩
    go_wp2_with fail
    go_ret
    exact ⟨rfl, (below_new w _).trans (hB2.mono (by simp))⟩
  · unfold cmpV at h1
    simp only [if_true] at h1
    go_enter Tryz.func62, Tryz.ntmps62
    go_wp2_with fail
    refine (strong_any (k, a) u _).mono ?_
    rintro e w2 ⟨rfl, hB2⟩
    go_wp2_with fail
    go_ret
    exact ⟨rfl, (below_new w _).trans (hB2.mono (by simp))⟩
theorem any_take_step {ts : List Tg} {f : Tg → Bool} {k : Nat} {p : Tg} (hk : ts[k]? = some p) (h : (ts.take k).any f = false) (hp : f p = false) : (ts.take (k + 1)).any f = false := by
  rw [List.take_add_one, hk, List.any_append, h]; simp [hp]
theorem any_hit {ts : List Tg} {f : Tg → Bool} {k : Nat} {p : Tg} (hk : ts[k]? = some p) (hp : f p = true) : ts.any f = true :=
  List.any_eq_true.mpr ⟨p, List.mem_of_getElem? hk, hp⟩
theorem any_all {ts : List Tg} {f : Tg → Bool} {k : Nat} (hk : ts.length ≤ k) (h : (ts.take k).any f = false) : ts.any f = false := by
  rwa [List.take_of_length_le hk] at h
set_option maxHeartbeats 4000000 in
set_option maxRecDepth 100000 in
theorem indexFunc_any (sg : Bool) (u : Tg) (g1 g2 : Nat) (v : Value) (ts : List Tg) (w : World) (hR : ReadsT w v ts) (hE : CloE sg u g1 g2 w) (hl : ts.length ≤ 1000000) :
    Calls Tryz.prog 84 #[v, cloV g1 g2] w fun e w' => ∃ n : Int, e = .returned (.int .i64 n) ∧ decide (0 ≤ n) = ts.any (fun t => sameT sg t u) ∧ Below w.heap.size w w' := by
  obtain ⟨ao, cap, rfl, hc⟩ := hR
  have HC := Lib.hid hc
  have HE := Lib.hid hE
  clear hc hE
  go_enter Tryz.func84, Tryz.ntmps84
  go_wp2
  go_loopw [8] (fun i wr => ∃ k : Nat, i = .int .i64 k ∧ k ≤ ts.length ∧ (ts.take k).any (fun t => sameT sg t u) = false ∧ Below w.heap.size w wr) (fun i _ => ts.length - (intOf i).toNat)
  case atStart => exact ⟨0, rfl, Nat.zero_le _, rfl, Below.refl _ _⟩
  case round =>
    obtain ⟨k, rfl, hk, hn, hBr⟩ := hrel
    have hbr := hBr.size
    have HBR := Lib.hid hBr
    have HN := Lib.hid hn
    clear hBr hn
    by_cases hlt : k < ts.length
    · obtain ⟨p, hp⟩ : ∃ p, ts[k]? = some p := ⟨ts[k], by simp [hlt]⟩
      obtain ⟨g, off, rfl, hg, hc1, hc2⟩ := HC.out k p hp
      have hd1 : wr.cell? ⟨g, off + k * 2, none⟩ = some (.bool p.1) := (HBR.out.cell (p := ⟨g, off + k * 2, none⟩) hg).trans hc1
      have hd2 : wr.cell? ⟨g, off + k * 2 + 1, none⟩ = some (.string (strB p.2)) := (HBR.out.cell (p := ⟨g, off + k * 2 + 1, none⟩) hg).trans hc2
      have HP := Lib.hid hp
      clear hp hc1 hc2
      go_wp2_with fail
      refine (clo_any sg p u g1 g2 _ (HE.out.below HBR.out)).mono ?_
      rintro e w2 ⟨rfl, hB2⟩
      have HB2 := Lib.hid (HBR.out.trans (hB2.mono hbr))
      clear hB2
      cases hs : sameT sg p u with
      | true =>
        have HS := Lib.hid (any_hit (f := fun t => sameT sg t u) HP.out hs)
        clear hs
        go_wp2
        go_ret
        exact ⟨k, rfl, by rw [HS.out]; simp, HB2.out⟩
      | false =>
        have HS := Lib.hid (any_take_step (f := fun t => sameT sg t u) HP.out HN.out hs)
        clear hs
        go_wp2
        go_roundw
        case rel => exact ⟨k + 1, by go_num, by omega, HS.out, HB2.out⟩
        case measure => simp [intOf]; omega
    · have HS := Lib.hid (any_all (f := fun t => sameT sg t u) (by omega) HN.out)
      go_wp2
      go_ret
      exact ⟨-1, rfl, by rw [HS.out]; decide, HBR.out⟩
set_option maxHeartbeats 1000000 in
theorem containsFunc_any (sg : Bool) (u : Tg) (g1 g2 : Nat) (v : Value) (ts : List Tg) (w : World) (hR : ReadsT w v ts) (hE : CloE sg u g1 g2 w) (hl : ts.length ≤ 1000000) :
    Calls Tryz.prog 61 #[v, cloV g1 g2] w fun e w' => e = .returned (.bool (ts.any fun t => sameT sg t u)) ∧ Below w.heap.size w w' := by
  have HI := Lib.hid (indexFunc_any sg u g1 g2 v ts w hR hE hl)
  clear hR hE
  go_enter Tryz.func61, Tryz.ntmps61
  go_wp2_with fail
  refine HI.out.mono ?_
  rintro e w2 ⟨n, rfl, hn, hB2⟩
  go_wp2_with fail
  go_ret
  exact ⟨by rw [← hn]; rfl, hB2⟩
end Go.Proofs.YtkpeaghbacoehaaGreatDoor
