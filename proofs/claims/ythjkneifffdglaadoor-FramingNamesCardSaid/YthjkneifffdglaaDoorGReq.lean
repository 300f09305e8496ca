/- Requests: what is written is read again, what is read can be written; prefixes and inserted bytes. -/
import Derived.Test.YthjkneifffdglaaDoorGSpec
namespace Go.Proofs.YthjkneifffdglaaDoor

section
variable {nm vl hs : List UInt8 → Option (List UInt8)} {lw : List UInt8 → List UInt8}
theorem method_chars {m : List UInt8} (h : methodB m = true) : m ≠ [] ∧ Clean m ∧ 32 ∉ m := by
  unfold methodB at h
  simp only [Bool.and_eq_true, decide_eq_true_eq, List.all_eq_true] at h
  obtain ⟨⟨h1, h2⟩, _⟩ := h
  refine ⟨by rintro rfl; simp at h2, fun c hc => ?_, fun hc => ?_⟩
  · have := h1 c hc
    refine ⟨?_, ?_, ?_⟩ <;> (rintro rfl; simp at this)
  · have := h1 32 hc; simp at this
theorem target_chars {m t : List UInt8} (h : targetB m t = true) : Clean t ∧ 32 ∉ t ∧ t ≠ [] := by
  unfold targetB at h
  simp only [Bool.and_eq_true, decide_eq_true_eq, List.all_eq_true] at h
  obtain ⟨⟨⟨h1, h2⟩, _⟩, _⟩ := h
  refine ⟨fun c hc => ?_, fun hc => ?_, by rintro rfl; simp at h2⟩
  · have := h1 c hc
    refine ⟨?_, ?_, ?_⟩ <;> (rintro rfl; simp at this)
  · have := h1 32 hc; simp at this
theorem ver_clean : Clean verL := by intro c hc; simp [verL] at hc; rcases hc with rfl | rfl | rfl | rfl | rfl | rfl | rfl <;> decide
theorem start_clean {m t : List UInt8} (hm : methodB m = true) (ht : targetB m t = true) : Clean (startQ m t) ∧ startQ m t ≠ [] := by
  unfold startQ
  refine ⟨clean_app.2 ⟨(method_chars hm).2.1, clean_cons.2 ⟨by decide, clean_app.2 ⟨(target_chars ht).1, clean_cons.2 ⟨by decide, ver_clean⟩⟩⟩⟩, by simp⟩
theorem cutG_at {c : UInt8} {a : List UInt8} (h : c ∉ a) (b : List UInt8) : cutG c (a ++ c :: b) = (a, b) := by unfold cutG; rw [cut1_at h]; rfl
theorem cutG_or (c : UInt8) (l : List UInt8) : (l = (cutG c l).1 ++ c :: (cutG c l).2) ∨ ((cutG c l).2 = [] ∧ (cutG c l).1 = l) := by
  unfold cutG
  cases h : cut1 c l with
  | none => exact .inr ⟨rfl, rfl⟩
  | some p => obtain ⟨a, b⟩ := p; exact .inl (cut1_some h).1
/-- The lines of a request, read. -/
theorem reqL_of {m t : List UInt8} {ls : List (List UInt8)} {fs0 fs : Fs} (hm : methodB m = true) (ht : targetB m t = true) (hf : readFs nm vl ls = (0, fs0)) (hh : hosted hs lw fs0 = some fs) : reqL nm vl hs lw (startQ m t :: ls) = (0, m, t, fs) := by
  have e1 : cutG 32 (startQ m t) = (m, t ++ 32 :: verL) := cutG_at (method_chars hm).2.2 _
  have e2 : cutG 32 (t ++ 32 :: verL) = (t, verL) := cutG_at (target_chars ht).2.1 _
  unfold reqL
  simp only [List.headD_cons, List.tail_cons, e1, e2, hm, ht, hf, hh]
  simp
theorem reqL_some {l : List (List UInt8)} {m t : List UInt8} {fs : Fs} (h : reqL nm vl hs lw l = (0, m, t, fs)) : methodB m = true ∧ targetB m t = true ∧ l.headD [] = startQ m t ∧ ∃ fs0, readFs nm vl l.tail = (0, fs0) ∧ hosted hs lw fs0 = some fs := by
  unfold reqL at h
  simp only at h
  by_cases h1 : methodB (cutG 32 (l.headD [])).1 = false
  · rw [if_pos h1] at h; exact absurd (congrArg Prod.fst h) (by simp)
  rw [if_neg h1] at h
  by_cases h2 : targetB (cutG 32 (l.headD [])).1 (cutG 32 (cutG 32 (l.headD [])).2).1 = false
  · rw [if_pos h2] at h; exact absurd (congrArg Prod.fst h) (by simp)
  rw [if_neg h2] at h
  by_cases h3 : (cutG 32 (cutG 32 (l.headD [])).2).2 ≠ verL
  · rw [if_pos h3] at h; exact absurd (congrArg Prod.fst h) (by simp)
  rw [if_neg h3] at h
  by_cases h4 : (readFs nm vl l.tail).1 ≠ 0
  · rw [if_pos h4] at h; exact absurd (congrArg Prod.fst h) h4
  rw [if_neg h4] at h
  cases h5 : hosted hs lw (readFs nm vl l.tail).2 with
  | none => rw [h5] at h; exact absurd (congrArg Prod.fst h) (by simp)
  | some f =>
    rw [h5] at h
    simp only [Prod.mk.injEq, true_and] at h
    obtain ⟨e1, e2, e3⟩ := h
    simp only [ne_eq, Decidable.not_not, Bool.not_eq_false] at h1 h2 h3 h4
    rw [e1] at h1 h2
    rw [e2] at h2
    refine ⟨h1, h2, ?_, (readFs nm vl l.tail).2, Prod.ext h4 rfl, by rw [h5, e3]⟩
    have hv : (cutG 32 (l.headD [])).2 = t ++ 32 :: verL := by
      rcases cutG_or 32 (cutG 32 (l.headD [])).2 with h | ⟨h, _⟩
      · rw [h, e2, h3]
      · rw [h3] at h; exact absurd h (by decide)
    rcases cutG_or 32 (l.headD []) with h | ⟨h, _⟩
    · rw [h, e1, hv]; rfl
    · rw [hv] at h; exact absurd h (by simp)
theorem readQ_of {m t : List UInt8} {ls : List (List UInt8)} {fs0 fs : Fs} (hm : methodB m = true) (ht : targetB m t = true) (hf : readFs nm vl ls = (0, fs0)) (hh : hosted hs lw fs0 = some fs) (hc : ∀ x ∈ ls, Clean x ∧ x ≠ [])
    (hn : (enc (startQ m t :: ls)).length ≤ 8192) (hl : ls.length ≤ 64) (r : List UInt8) : readQ nm vl hs lw (enc (startQ m t :: ls) ++ r) = (0, (m, t, fs), (enc (startQ m t :: ls)).length) := by
  have hs' : splitG (enc (startQ m t :: ls) ++ r) = (0, startQ m t :: ls, (enc (startQ m t :: ls)).length) :=
    splitG_enc (by simp) (fun x hx => by rcases List.mem_cons.1 hx with rfl | hx; exact start_clean hm ht; exact hc x hx) hn (by simp; omega) r
  unfold readQ
  rw [hs']
  simp only [reqL_of hm ht hf hh]
  simp
theorem readQ_some {s m t : List UInt8} {fs : Fs} {n : Nat} (h : readQ nm vl hs lw s = (0, (m, t, fs), n)) :
    methodB m = true ∧ targetB m t = true ∧ ∃ ls fs0, readFs nm vl ls = (0, fs0) ∧ hosted hs lw fs0 = some fs ∧ (∀ x ∈ ls, Clean x ∧ x ≠ []) ∧ s.take n = enc (startQ m t :: ls) ∧ n = (enc (startQ m t :: ls)).length ∧ n ≤ s.length ∧ n ≤ 8192 ∧ ls.length ≤ 64 := by
  unfold readQ at h
  by_cases h1 : (splitG s).1 ≠ 0
  · rw [if_pos h1] at h; exact absurd (congrArg Prod.fst h) h1
  rw [if_neg h1] at h
  by_cases h2 : (reqL nm vl hs lw (splitG s).2.1).1 ≠ 0
  · rw [if_pos h2] at h; exact absurd (congrArg Prod.fst h) h2
  rw [if_neg h2] at h
  simp only [ne_eq, Decidable.not_not] at h1 h2
  simp only [Prod.mk.injEq, true_and] at h
  obtain ⟨e1, e2⟩ := h
  obtain ⟨g1, g2, g3, g4, g5, g6, g7⟩ := splitG_some (s := s) (l := (splitG s).2.1) (n := (splitG s).2.2) (Prod.ext h1 rfl)
  obtain ⟨r1, r2, r3, fs0, r4, r5⟩ := reqL_some (l := (splitG s).2.1) (m := m) (t := t) (fs := fs) (Prod.ext h2 e1)
  have hl : (splitG s).2.1 = startQ m t :: (splitG s).2.1.tail := by
    rw [← r3]
    cases hh : (splitG s).2.1 with
    | nil => exact absurd hh g1
    | cons a b => rfl
  rw [e2] at g3 g4 g5 g6
  rw [hl] at g3 g4 g7
  refine ⟨r1, r2, _, fs0, r4, r5, fun x hx => g2 x (by rw [hl]; simp [hx]), g3, g4, g5, g6, by rw [List.length_cons] at g7; omega⟩
/-- An error leaves nothing. -/
theorem readQ_err {s : List UInt8} (h : (readQ nm vl hs lw s).1 ≠ 0) : (readQ nm vl hs lw s).2 = (([], [], []), 0) := by
  unfold readQ at h ⊢
  by_cases h1 : (splitG s).1 ≠ 0
  · rw [if_pos h1]
  · rw [if_neg h1] at h ⊢
    by_cases h2 : (reqL nm vl hs lw (splitG s).2.1).1 ≠ 0
    · rw [if_pos h2]
    · rw [if_neg h2] at h; exact absurd rfl h
/-- A request does not depend on what follows it. -/
theorem readQ_again {s m t : List UInt8} {fs : Fs} {n : Nat} (h : readQ nm vl hs lw s = (0, (m, t, fs), n)) (r : List UInt8) : readQ nm vl hs lw (s.take n ++ r) = (0, (m, t, fs), n) := by
  obtain ⟨h1, h2, ls, fs0, h3, h4, h5, h6, h7, _, h9, h10⟩ := readQ_some h
  rw [h6, readQ_of h1 h2 h3 h4 h5 (by rw [← h7]; exact h9) h10 r, ← h7]
/-- Each proper prefix of a request ends too early. -/
theorem readQ_prefix {s m t : List UInt8} {fs : Fs} {n i : Nat} (h : readQ nm vl hs lw s = (0, (m, t, fs), n)) (hi : i < n) : readQ nm vl hs lw (s.take i) = (21, ([], [], []), 0) := by
  obtain ⟨h1, h2, ls, fs0, h3, h4, h5, h6, h7, h8, h9, h10⟩ := readQ_some h
  have hc : ∀ x ∈ startQ m t :: ls, Clean x ∧ x ≠ [] := fun x hx => by rcases List.mem_cons.1 hx with rfl | hx; exact start_clean h1 h2; exact h5 x hx
  have e4 := end4_enc (startQ m t :: ls) (by simp) hc []
  rw [List.append_nil, ← h6] at e4
  have e5 : s.take i = (s.take n).take i := by rw [List.take_take, Nat.min_eq_left (by omega)]
  have e6 : end4 (s.take i) = none := by rw [e5]; exact end4_short e4 (by rw [h6, ← h7]; exact hi)
  have e7 : endO (s.take i) = none := by
    unfold endO
    rw [if_neg, e6]
    intro e
    have h2 := take2_line (hc _ (List.mem_cons_self ..)).1 (hc _ (List.mem_cons_self ..)).2 (13 :: 10 :: enc ls)
    apply h2
    rw [← enc_cons, ← h6]
    have : (s.take i).take 2 = [13, 10] := e
    have hl := congrArg List.length this
    simp [List.length_take] at hl
    rw [List.take_take] at this ⊢
    rw [Nat.min_eq_left (by omega)] at this ⊢
    exact this
  unfold readQ splitG
  rw [e7]
  simp only [List.length_take]
  rw [if_pos (show min i s.length < 8192 by omega)]
  simp
/-- With a CR, an LF (but directly before its last byte) or a byte 0 inserted a request is refused. -/
theorem readQ_insert {s m t : List UInt8} {fs : Fs} {n i : Nat} {c : UInt8} (h : readQ nm vl hs lw s = (0, (m, t, fs), n)) (hi : i < n) (hc : c = 0 ∨ c = 13 ∨ c = 10) (hx : ¬ (c = 10 ∧ i + 1 = n)) :
    (readQ nm vl hs lw (s.take i ++ c :: (s.take n).drop i)).1 ≠ 0 := by
  obtain ⟨h1, h2, ls, fs0, h3, h4, h5, h6, h7, h8, h9, h10⟩ := readQ_some h
  have hcl : ∀ x ∈ startQ m t :: ls, Clean x ∧ x ≠ [] := fun x hx => by rcases List.mem_cons.1 hx with rfl | hx; exact start_clean h1 h2; exact h5 x hx
  have e4 := end4_enc (startQ m t :: ls) (by simp) hcl []
  rw [List.append_nil] at e4
  have eb := bare_enc (startQ m t :: ls) (fun x hx => (hcl x hx).1) 0
  rw [← h6] at e4 eb
  have hlen : (s.take n).length = n := by rw [h6, ← h7]
  have e5 : s.take i = (s.take n).take i := by rw [List.take_take, Nat.min_eq_left (by omega)]
  rw [e5]
  intro h0
  obtain ⟨m', t', fs', n', hr⟩ : ∃ m' t' fs' n', readQ nm vl hs lw ((s.take n).take i ++ c :: (s.take n).drop i) = (0, (m', t', fs'), n') := ⟨_, _, _, _, Prod.ext h0 rfl⟩
  obtain ⟨g1, g2, ks, _, _, _, g5, g6, g7, g8, _, _⟩ := readQ_some hr
  have gcl : ∀ x ∈ startQ m' t' :: ks, Clean x ∧ x ≠ [] := fun x hx => by rcases List.mem_cons.1 hx with rfl | hx; exact start_clean g1 g2; exact g5 x hx
  have q4 := end4_enc (startQ m' t' :: ks) (by simp) gcl (((s.take n).take i ++ c :: (s.take n).drop i).drop n')
  rw [← g7, ← g6, List.take_append_drop] at q4
  have qb := bare_enc (startQ m' t' :: ks) (fun x hx => (gcl x hx).1) 0
  rw [← g6] at qb
  have := insert_bare e4 eb (by rw [hlen]; exact hi) hc (by rw [hlen]; exact hx) q4
  rw [qb] at this
  cases this
end
end Go.Proofs.YthjkneifffdglaaDoor
