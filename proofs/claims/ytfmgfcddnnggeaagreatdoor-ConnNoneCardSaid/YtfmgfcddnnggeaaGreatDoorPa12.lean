import Derived.Test.YtfmgfcddnnggeaaGreatDoorPa11
/- Requests: what is written is read again, what is read can be written; prefixes and inserted bytes. -/
namespace Go.Proofs.YtfmgfcddnnggeaaGreatDoor

section
variable {nm vl hs : List UInt8 → Option (List UInt8)} {lw : List UInt8 → List UInt8}
theorem method_chars {m : List UInt8} (h : methodB m = true) : m ≠ [] ∧ Clean m ∧ 32 ∉ m := by
  unfold methodB at h
  simp only [Bool.and_eq_true, decide_eq_true_eq, List.all_eq_true] at h
  obtain ⟨⟨h1, h2⟩, _⟩ := h
  refine ⟨by rintro rfl; simp at h2, fun c hc => ?_, fun hc => ?_⟩
  · have := h1 c hc
    refine ⟨?_, ?_, ?_⟩ <;> (rintro rfl; simp at this)
  · have := h1 32 hc; simp at this
theorem target_chars {m t : List UInt8} (h : targetB m t = true) : Clean t ∧ 32 ∉ t ∧ t ≠ [] := by
  unfold targetB at h
  simp only [Bool.and_eq_true, decide_eq_true_eq, List.all_eq_true] at h
  obtain ⟨⟨⟨h1, h2⟩, _⟩, _⟩ := h
  refine ⟨fun c hc => ?_, fun hc => ?_, by rintro rfl; simp at h2⟩
  · have := h1 c hc
    refine ⟨?_, ?_, ?_⟩ <;> (rintro rfl; simp at this)
  · have := h1 32 hc; simp at this
theorem ver_clean : Clean verL := by intro c hc; simp [verL] at hc; rcases hc with rfl | rfl | rfl | rfl | rfl | rfl | rfl <;> decide
theorem start_clean {m t : List UInt8} (hm : methodB m = true) (ht : targetB m t = true) : Clean (startQ m t) ∧ startQ m t ≠ [] := by
  unfold startQ
  refine ⟨clean_app.2 ⟨(method_chars hm).2.1, clean_cons.2 ⟨by decide, clean_app.2 ⟨(target_chars ht).1, clean_cons.2 ⟨by decide, ver_clean⟩⟩⟩⟩, by simp⟩
theorem cutG_at {c : UInt8} {a : List UInt8} (h : c ∉ a) (b : List UInt8) : cutG c (a ++ c :: b) = (a, b) := by unfold cutG; rw [cut1_at h]; rfl
theorem cutG_or (c : UInt8) (l : List UInt8) : (l = (cutG c l).1 ++ c :: (cutG c l).2) ∨ ((cutG c l).2 = [] ∧ (cutG c l).1 = l) := by
  unfold cutG
  cases h : cut1 c l with
  | none => exact .inr ⟨rfl, rfl⟩
  | some p => obtain ⟨a, b⟩ := p; exact .inl (cut1_some h).1
/-- The lines of a request, read. -/
theorem reqL_of {m t : List UInt8} {ls : List (List UInt8)} {fs0 fs : Fs} (hm : methodB m = true) (ht : targetB m t = true) (hf : readFs nm vl ls = (0, fs0)) (hh : hosted hs lw fs0 = some fs) : reqL nm vl hs lw (startQ m t :: ls) = (0, m, t, fs) := by
  have e1 : cutG 32 (startQ m t) = (m, t ++ 32 :: verL) := cutG_at (method_chars hm).2.2 _
  have e2 : cutG 32 (t ++ 32 :: verL) = (t, verL) := cutG_at (target_chars ht).2.1 _
  unfold reqL
  simp only [List.headD_cons, List.tail_cons, e1, e2, hm, ht, hf, hh]
  simp
theorem reqL_some {l : List (List UInt8)} {m t : List UInt8} {fs : Fs} (h : reqL nm vl hs lw l = (0, m, t, fs)) : methodB m = true ∧ targetB m t = true ∧ l.headD [] = startQ m t ∧ ∃ fs0, readFs nm vl l.tail = (0, fs0) ∧ hosted hs lw fs0 = some fs := by
  unfold reqL at h
  simp only at h
  by_cases h1 : methodB (cutG 32 (l.headD [])).1 = false
  · rw [if_pos h1] at h; exact absurd (congrArg Prod.fst h) (by simp)
  rw [if_neg h1] at h
  by_cases h2 : targetB (cutG 32 (l.headD [])).1 (cutG 32 (cutG 32 (l.headD [])).2).1 = false
  · rw [if_pos h2] at h; exact absurd (congrArg Prod.fst h) (by simp)
  rw [if_neg h2] at h
  by_cases h3 : (cutG 32 (cutG 32 (l.headD [])).2).2 ≠ verL
  · rw [if_pos h3] at h; exact absurd (congrArg Prod.fst h) (by simp)
  rw [if_neg h3] at h
  by_cases h4 : (readFs nm vl l.tail).1 ≠ 0
  · rw [if_pos h4] at h; exact absurd (congrArg Prod.fst h) h4
  rw [if_neg h4] at h
  cases h5 : hosted hs lw (readFs nm vl l.tail).2 with
  | none => rw [h5] at h; exact absurd (congrArg Prod.fst h) (by simp)
  | some f =>
    rw [h5] at h
    simp only [Prod.mk.injEq, true_and] at h
    obtain ⟨e1, e2, e3⟩ := h
    simp only [ne_eq, Decidable.not_not, Bool.not_eq_false] at h1 h2 h3 h4
    rw [e1] at h1 h2
    rw [e2] at h2
    refine ⟨h1, h2, ?_, (readFs nm vl l.tail).2, Prod.ext h4 rfl, by rw [h5, e3]⟩
    have hv : (cutG 32 (l.headD [])).2 = t ++ 32 :: verL := by
      rcases cutG_or 32 (cutG 32 (l.headD [])).2 with h | ⟨h, _⟩
      · rw [h, e2, h3]
      · rw [h3] at h; exact absurd h (by decide)
    rcases cutG_or 32 (l.headD []) with h | ⟨h, _⟩
    · rw [h, e1, hv]; rfl
    · rw [hv] at h; exact absurd h (by simp)
theorem readQ_of {m t : List UInt8} {ls : List (List UInt8)} {fs0 fs : Fs} (hm : methodB m = true) (ht : targetB m t = true) (hf : readFs nm vl ls = (0, fs0)) (hh : hosted hs lw fs0 = some fs) (hc : ∀ x ∈ ls, Clean x ∧ x ≠ [])
    (hn : (enc (startQ m t :: ls)).length ≤ 8192) (hl : ls.length ≤ 64) (r : List UInt8) : readQ nm vl hs lw (enc (startQ m t :: ls) ++ r) = (0, (m, t, fs), (enc (startQ m t :: ls)).length) := by
  have hs' : splitG (enc (startQ m t :: ls) ++ r) = (0, startQ m t :: ls, (enc (startQ m t :: ls)).length) :=
    splitG_enc (by simp) (fun x hx => by rcases List.mem_cons.1 hx with rfl | hx; exact start_clean hm ht; exact hc x hx) hn (by simp; omega) r
  unfold readQ
  rw [hs']
  simp only [reqL_of hm ht hf hh]
  simp
theorem readQ_some {s m t : List UInt8} {fs : Fs} {n : Nat} (h : readQ nm vl hs lw s = (0, (m, t, fs), n)) :
    methodB m = true ∧ targetB m t = true ∧ ∃ ls fs0, readFs nm vl ls = (0, fs0) ∧ hosted hs lw fs0 = some fs ∧ (∀ x ∈ ls, Clean x ∧ x ≠ []) ∧ s.take n = enc (startQ m t :: ls) ∧ n = (enc (startQ m t :: ls)).length ∧ n ≤ s.length ∧ n ≤ 8192 ∧ ls.length ≤ 64 := by
  unfold readQ at h
  by_cases h1 : (splitG s).1 ≠ 0
  · rw [if_pos h1] at h; exact absurd (congrArg Prod.fst h) h1
  rw [if_neg h1] at h
  by_cases h2 : (reqL nm vl hs lw (splitG s).2.1).1 ≠ 0
  · rw [if_pos h2] at h; exact absurd (congrArg Prod.fst h) h2
  rw [if_neg h2] at h
  simp only [ne_eq, Decidable.not_not] at h1 h2
  simp only [Prod.mk.injEq, true_and] at h
  obtain ⟨e1, e2⟩ := h
  obtain ⟨g1, g2, g3, g4, g5, g6, g7⟩ := splitG_some (s := s) (l := (splitG s).2.1) (n := (splitG s).2.2) (Prod.ext h1 rfl)
  obtain ⟨r1, r2, r3, fs0, r4, r5⟩ := reqL_some (l := (splitG s).2.1) (m := m) (t := t) (fs := fs) (Prod.ext h2 e1)
  have hl : (splitG s).2.1 = startQ m t :: (splitG s).2.1.tail := by
    rw [← r3]
    cases hh : (splitG s).2.1 with
    | nil => exact absurd hh g1
    | cons a b => rfl
  rw [e2] at g3 g4 g5 g6
  rw [hl] at g3 g4 g7
  refine ⟨r1, r2, _, fs0, r4, r5, fun x hx => g2 x (by rw [hl]; simp [hx]), g3, g4, g5, g6, by rw [List.length_cons] at g7; omega⟩
/-- An error leaves nothing. -/
theorem readQ_err {s : List UInt8} (h : (readQ nm vl hs lw s).1 ≠ 0) : (readQ nm vl hs lw s).2 = (([], [], []), 0) := by
  unfold readQ at h ⊢
  by_cases h1 : (splitG s).1 ≠ 0
  · rw [if_pos h1]
  · rw [if_neg h1] at h ⊢
    by_cases h2 : (reqL nm vl hs lw (splitG s).2.1).1 ≠ 0
    · rw [if_pos h2]
    · rw [if_neg h2] at h; exact absurd rfl h
/-- A request does not depend on what follows it. -/
theorem readQ_again {s m t : List UInt8} {fs : Fs} {n : Nat} (h : readQ nm vl hs lw s = (0, (m, t, fs), n)) (r : List UInt8) : readQ nm vl hs lw (s.take n ++ r) = (0, (m, t, fs), n) := by
  obtain ⟨h1, h2, ls, fs0, h3, h4, h5, h6, h7, _, h9, h10⟩ := readQ_some h
  rw [h6, readQ_of h1 h2 h3 h4 h5 (by rw [← h7]; exact h9) h10 r, ← h7]
/-- Each proper prefix of a request ends too early. -/
theorem readQ_prefix {s m t : List UInt8} {fs : Fs} {n i : Nat} (h : readQ nm vl hs lw s = (0, (m, t, fs), n)) (hi : i < n) : readQ nm vl hs lw (s.take i) = (21, ([], [], []), 0) := by
  obtain ⟨h1, h2, ls, fs0, h3, h4, h5, h6, h7, h8, h9, h10⟩ := readQ_some h
  have hc : ∀ x ∈ startQ m t :: ls, Clean x ∧ x ≠ [] := fun x hx => by rcases List.mem_cons.1 hx with rfl | hx; exact start_clean h1 h2; exact h5 x hx
  have e4 := end4_enc (startQ m t :: ls) (by simp) hc []
  rw [List.append_nil, ← h6] at e4
  have e5 : s.take i = (s.take n).take i := by rw [List.take_take, Nat.min_eq_left (by omega)]
  have e6 : end4 (s.take i) = none := by rw [e5]; exact end4_short e4 (by rw [h6, ← h7]; exact hi)
  have e7 : endO (s.take i) = none := by
    unfold endO
    rw [if_neg, e6]
    intro e
    have h2 := take2_line (hc _ (List.mem_cons_self ..)).1 (hc _ (List.mem_cons_self ..)).2 (13 :: 10 :: enc ls)
    apply h2
    rw [← enc_cons, ← h6]
    have : (s.take i).take 2 = [13, 10] := e
    have hl := congrArg List.length this
    simp [List.length_take] at hl
    rw [List.take_take] at this ⊢
    rw [Nat.min_eq_left (by omega)] at this ⊢
    exact this
  unfold readQ splitG
  rw [e7]
  simp only [List.length_take]
  rw [if_pos (show min i s.length < 8192 by omega)]
  simp
/-- With a CR, an LF (but directly before its last byte) or a byte 0 inserted a request is refused. -/
theorem readQ_insert {s m t : List UInt8} {fs : Fs} {n i : Nat} {c : UInt8} (h : readQ nm vl hs lw s = (0, (m, t, fs), n)) (hi : i < n) (hc : c = 0 ∨ c = 13 ∨ c = 10) (hx : ¬ (c = 10 ∧ i + 1 = n)) :
    (readQ nm vl hs lw (s.take i ++ c :: (s.take n).drop i)).1 ≠ 0 := by
  obtain ⟨h1, h2, ls, fs0, h3, h4, h5, h6, h7, h8, h9, h10⟩ := readQ_some h
  have hcl : ∀ x ∈ startQ m t :: ls, Clean x ∧ x ≠ [] := fun x hx => by rcases List.mem_cons.1 hx with rfl | hx; exact start_clean h1 h2; exact h5 x hx
  have e4 := end4_enc (startQ m t :: ls) (by simp) hcl []
  rw [List.append_nil] at e4
  have eb := bare_enc (startQ m t :: ls) (fun x hx => (hcl x hx).1) 0
  rw [← h6] at e4 eb
  have hlen : (s.take n).length = n := by rw [h6, ← h7]
  have e5 : s.take i = (s.take n).take i := by rw [List.take_take, Nat.min_eq_left (by omega)]
  rw [e5]
  intro h0
  obtain ⟨m', t', fs', n', hr⟩ : ∃ m' t' fs' n', readQ nm vl hs lw ((s.take n).take i ++ c :: (s.take n).drop i) = (0, (m', t', fs'), n') := ⟨_, _, _, _, Prod.ext h0 rfl⟩
  obtain ⟨g1, g2, ks, _, _, _, g5, g6, g7, g8, _, _⟩ := readQ_some hr
  have gcl : ∀ x ∈ startQ m' t' :: ks, Clean x ∧ x ≠ [] := fun x hx => by rcases List.mem_cons.1 hx with rfl | hx; exact start_clean g1 g2; exact g5 x hx
  have q4 := end4_enc (startQ m' t' :: ks) (by simp) gcl (((s.take n).take i ++ c :: (s.take n).drop i).drop n')
  rw [← g7, ← g6, List.take_append_drop] at q4
  have qb := bare_enc (startQ m' t' :: ks) (fun x hx => (gcl x hx).1) 0
  rw [← g6] at qb
  have := insert_bare e4 eb (by rw [hlen]; exact hi) hc (by rw [hlen]; exact hx) q4
  rw [qb] at this
  cases this
end
end Go.Proofs.YtfmgfcddnnggeaaGreatDoor

/- Requests, written and read again. -/
namespace Go.Proofs.YtfmgfcddnnggeaaGreatDoor

section
variable {nm vl hs : List UInt8 → Option (List UInt8)} {lw : List UInt8 → List UInt8}
/-- A field with its host in lower case. -/
def lowH (lw : List UInt8 → List UInt8) (f : List UInt8 × List UInt8) : List UInt8 × List UInt8 := (f.1, if lw f.1 = hostN then lw f.2 else f.2)
theorem hostF_some (F : Flk nm vl hs lw) : ∀ {fs : Fs} {p : Fs × Nat}, hostF hs lw fs = some p → p.1 = fs.map (lowH lw) ∧ p.2 = (fs.filter fun f => decide (lw f.1 = hostN)).length ∧ ∀ f ∈ p.1, lw f.1 = hostN → hs f.2 = some f.2 := by
  intro fs
  induction fs with
  | nil => intro p h; obtain rfl := Option.some.inj h; exact ⟨rfl, rfl, by simp⟩
  | cons f r ih =>
    intro p h
    rw [hostF] at h
    by_cases hf : lw f.1 = hostN
    · rw [if_pos hf] at h
      cases h1 : hs f.2 with
      | none => rw [h1] at h; cases h
      | some y =>
        rw [h1] at h
        cases h2 : hostF hs lw r with
        | none => rw [h2] at h; cases h
        | some p' =>
          rw [h2] at h
          obtain rfl := Option.some.inj h
          obtain ⟨e1, e2, e3⟩ := ih h2
          refine ⟨?_, ?_, ?_⟩
          · rw [List.map_cons, ← e1]; unfold lowH; rw [if_pos hf, F.hs_lw h1]
          · rw [List.filter_cons_of_pos (by simpa using hf), List.length_cons, ← e2]
          · intro g hg hgn
            rcases List.mem_cons.1 hg with rfl | hg
            · exact F.hs_id h1
            · exact e3 g hg hgn
    · rw [if_neg hf] at h
      cases h2 : hostF hs lw r with
      | none => rw [h2] at h; cases h
      | some p' =>
        rw [h2] at h
        obtain rfl := Option.some.inj h
        obtain ⟨e1, e2, e3⟩ := ih h2
        refine ⟨?_, ?_, ?_⟩
        · rw [List.map_cons, ← e1]; unfold lowH; rw [if_neg hf]
        · rw [List.filter_cons_of_neg (by simpa using hf), ← e2]
        · intro g hg hgn
          rcases List.mem_cons.1 hg with rfl | hg
          · exact absurd hgn hf
          · exact e3 g hg hgn
/-- Fields whose hosts are canonical stay as they are. -/
theorem hostF_of : ∀ {fs : Fs}, (∀ f ∈ fs, lw f.1 = hostN → hs f.2 = some f.2) → hostF hs lw fs = some (fs, (fs.filter fun f => decide (lw f.1 = hostN)).length) := by
  intro fs
  induction fs with
  | nil => intro _; rfl
  | cons f r ih =>
    intro h
    rw [hostF, ih fun g hg => h g (by simp [hg])]
    by_cases hf : lw f.1 = hostN
    · rw [if_pos hf, h f (by simp) hf, List.filter_cons_of_pos (by simpa using hf)]; rfl
    · rw [if_neg hf, List.filter_cons_of_neg (by simpa using hf)]; rfl
theorem hosted_some (F : Flk nm vl hs lw) {fs fs' : Fs} (h : hosted hs lw fs = some fs') : fs' = fs.map (lowH lw) ∧ (fs.filter fun f => decide (lw f.1 = hostN)).length = 1 ∧ ∀ f ∈ fs', lw f.1 = hostN → hs f.2 = some f.2 := by
  unfold hosted at h
  cases h1 : hostF hs lw fs with
  | none => rw [h1] at h; cases h
  | some p =>
    rw [h1] at h
    obtain ⟨e1, e2, e3⟩ := hostF_some F h1
    by_cases h2 : p.2 = 1
    · simp only [Option.bind_some, if_pos h2] at h
      obtain rfl := Option.some.inj h
      exact ⟨e1, by rw [← e2]; exact h2, e3⟩
    · simp only [Option.bind_some, if_neg h2] at h; cases h
theorem hosted_of {fs : Fs} (h : ∀ f ∈ fs, lw f.1 = hostN → hs f.2 = some f.2) (hn : (fs.filter fun f => decide (lw f.1 = hostN)).length = 1) : hosted hs lw fs = some fs := by
  unfold hosted
  rw [hostF_of h]
  simp [hn]
/-- A field that can be written: its name and its value are right. -/
def GoodF (nm vl : List UInt8 → Option (List UInt8)) (lw : List UInt8 → List UInt8) (f : List UInt8 × List UInt8) : Prop := nm f.1 = some (lw f.1) ∧ vl f.2 = some f.2
theorem good_mem (F : Flk nm vl hs lw) {fs : Fs} (h : goodB nm vl fs = true) : ∀ f ∈ fs, GoodF nm vl lw f := by
  intro f hf
  unfold goodB at h
  rw [List.all_eq_true] at h
  have := h f hf
  simp only [Bool.and_eq_true, decide_eq_true_eq] at this
  obtain ⟨h1, h2⟩ := this
  cases h3 : nm f.1 with
  | none => rw [h3] at h1; cases h1
  | some y => exact ⟨by rw [h3, F.nm_lw h3], h2⟩
theorem mem_good {fs : Fs} (h : ∀ f ∈ fs, GoodF nm vl lw f) : goodB nm vl fs = true := by
  unfold goodB
  rw [List.all_eq_true]
  intro f hf
  rw [(h f hf).1, (h f hf).2]; simp
theorem good_lowH (F : Flk nm vl hs lw) {fs fs' : Fs} (h : ∀ f ∈ fs, GoodF nm vl lw f) (hh : hosted hs lw fs = some fs') : ∀ f ∈ fs', GoodF nm vl lw f := by
  obtain ⟨e1, _, e3⟩ := hosted_some F hh
  intro f hf
  by_cases hn : lw f.1 = hostN
  · have := e3 f hf hn
    rw [e1] at hf
    obtain ⟨g, hg, rfl⟩ := List.mem_map.1 hf
    exact ⟨(h g hg).1, F.hs_vl this⟩
  · rw [e1] at hf
    obtain ⟨g, hg, rfl⟩ := List.mem_map.1 hf
    have hn' : ¬ lw g.1 = hostN := hn
    have : lowH lw g = g := by unfold lowH; rw [if_neg hn']
    rw [this]; exact h g hg
theorem lineW_eq {f : List UInt8 × List UInt8} (h : GoodF nm vl lw f) : lineW nm f = lw f.1 ++ 58 :: 32 :: f.2 := by unfold lineW; rw [h.1]; rfl
theorem readF_line (F : Flk nm vl hs lw) {f : List UInt8 × List UInt8} (h : GoodF nm vl lw f) : readF nm vl (lineW nm f) = (0, lw f.1, f.2) := by
  have hy := F.nm_id h.1
  obtain ⟨hne, hc⟩ := F.nm_ok hy
  have h58 : 58 ∉ lw f.1 := fun hm => (hc 58 hm).2.2.2.1 rfl
  have hws : (lw f.1).any wsB = false := by
    rw [List.any_eq_false]
    intro c hm
    have := hc c hm
    simp [wsB, this.2.2.2.2.1, this.2.2.2.2.2]
  have hhd : (lw f.1 ++ 58 :: 32 :: f.2).head?.any wsB = false := by
    cases hl : lw f.1 with
    | nil => exact absurd hl hne
    | cons c t =>
      rw [hl, List.any_cons, Bool.or_eq_false_iff] at hws
      exact hws.1
  rw [lineW_eq h]
  unfold readF
  rw [hhd, cut1_at h58]
  simp only [Bool.false_eq_true, if_false, if_neg hne, hws, hy, F.vl_sp h.2]
theorem line_clean (F : Flk nm vl hs lw) {f : List UInt8 × List UInt8} (h : GoodF nm vl lw f) : Clean (lineW nm f) ∧ lineW nm f ≠ [] := by
  obtain ⟨_, hc⟩ := F.nm_ok (F.nm_id h.1)
  rw [lineW_eq h]
  refine ⟨clean_app.2 ⟨fun c hm => ⟨(hc c hm).1, (hc c hm).2.1, (hc c hm).2.2.1⟩, clean_cons.2 ⟨by decide, clean_cons.2 ⟨by decide, F.vl_ok h.2⟩⟩⟩, by simp⟩
theorem readFs_lines (F : Flk nm vl hs lw) : ∀ {fs : Fs}, (∀ f ∈ fs, GoodF nm vl lw f) → readFs nm vl (fs.map (lineW nm)) = (0, fs.map fun f => (lw f.1, f.2)) := by
  intro fs
  induction fs with
  | nil => intro _; rfl
  | cons f r ih =>
    intro h
    rw [List.map_cons, readFs, readF_line F (h f (by simp)), ih fun g hg => h g (by simp [hg])]
    simp
theorem lines_len : ∀ {fs fs' : Fs}, fs' = fs.map (lowH lw) → (∀ x, (lw x).length = x.length) → (flat (fs'.map (lineW nm))).length = (flat (fs.map (lineW nm))).length := by
  intro fs
  induction fs with
  | nil => intro fs' h _; rw [h]; rfl
  | cons f r ih =>
    intro fs' h hl
    have := ih (fs' := r.map (lowH lw)) rfl hl
    rw [h, List.map_cons, List.map_cons, List.map_cons, flat_cons, flat_cons, List.length_append, List.length_append, List.length_cons, List.length_cons, List.length_cons, List.length_cons, this]
    have e : (lineW nm (lowH lw f)).length = (lineW nm f).length := by
      unfold lineW lowH
      simp only [List.length_append, List.length_cons]
      split <;> simp [hl]
    rw [e]
theorem encH_len (x : List UInt8) (ls : List (List UInt8)) : (enc (x :: ls)).length = x.length + 4 + (flat ls).length := by rw [enc_cons]; simp [enc]; omega
/-- What is written is read again: names and the host are in lower case. -/
theorem writeQ_read (F : Flk nm vl hs lw) {m t b : List UInt8} {fs : Fs} (h : writeQ nm vl hs lw (m, t, fs) = (0, b)) (r : List UInt8) :
    readQ nm vl hs lw (b ++ r) = (0, (m, t, fs.map fun f => (lw f.1, (lowH lw f).2)), b.length) := by
  unfold writeQ at h
  simp only at h
  by_cases h1 : 64 < fs.length ∨ 8192 < (enc (startQ m t :: fs.map (lineW nm))).length
  · rw [if_pos h1] at h; exact absurd (congrArg Prod.fst h) (by simp)
  rw [if_neg h1] at h
  by_cases h2 : methodB m = false
  · rw [if_pos h2] at h; exact absurd (congrArg Prod.fst h) (by simp)
  rw [if_neg h2] at h
  by_cases h3 : targetB m t = false
  · rw [if_pos h3] at h; exact absurd (congrArg Prod.fst h) (by simp)
  rw [if_neg h3] at h
  by_cases h4 : goodB nm vl fs = false
  · rw [if_pos h4] at h; exact absurd (congrArg Prod.fst h) (by simp)
  rw [if_neg h4] at h
  cases h5 : hosted hs lw fs with
  | none => rw [h5] at h; exact absurd (congrArg Prod.fst h) (by simp)
  | some fs' =>
    rw [h5] at h
    simp only [Prod.mk.injEq, true_and] at h
    subst h
    simp only [not_or, Bool.not_eq_false] at h1 h2 h3 h4
    obtain ⟨e1, e2, e3⟩ := hosted_some F h5
    have hg := good_lowH F (good_mem F h4) h5
    have hlen : fs'.length = fs.length := by rw [e1, List.length_map]
    have hfl : (fs'.map fun f => (lw f.1, f.2)) = fs.map fun f => (lw f.1, (lowH lw f).2) := by rw [e1, List.map_map]; rfl
    have hh : hosted hs lw (fs'.map fun f => (lw f.1, f.2)) = some (fs'.map fun f => (lw f.1, f.2)) := by
      apply hosted_of
      · intro f hf hn
        obtain ⟨g, hg2, rfl⟩ := List.mem_map.1 hf
        simp only [F.lw_id] at hn
        exact e3 g hg2 hn
      · rw [hfl, List.filter_map, List.length_map]
        have : ((fun f : List UInt8 × List UInt8 => decide (lw f.1 = hostN)) ∘ fun f => (lw f.1, (lowH lw f).2)) = fun f => decide (lw f.1 = hostN) := by funext f; simp [F.lw_id]
        rw [this]; exact e2
    rw [← hfl]
    refine readQ_of h2 h3 (readFs_lines F hg) hh (fun x hx => ?_) ?_ (by rw [List.length_map]; omega) r
    · obtain ⟨f, hf, rfl⟩ := List.mem_map.1 hx
      exact line_clean F (hg f hf)
    · rw [encH_len, lines_len e1 F.lw_len, ← encH_len]; omega
/-- A line that is read as a field: the field's own line is at most a byte longer. -/
theorem readF_some (F : Flk nm vl hs lw) {l : List UInt8} {f : List UInt8 × List UInt8} (h : readF nm vl l = (0, f)) : nm f.1 = some f.1 ∧ lw f.1 = f.1 ∧ vl f.2 = some f.2 ∧ f.1.length + f.2.length + 1 ≤ l.length := by
  unfold readF at h
  by_cases h1 : l.head?.any wsB = true
  · rw [if_pos h1] at h; exact absurd (congrArg Prod.fst h) (by simp)
  rw [if_neg h1] at h
  cases h2 : cut1 58 l with
  | none => rw [h2] at h; exact absurd (congrArg Prod.fst h) (by simp)
  | some p =>
    obtain ⟨b, a⟩ := p
    rw [h2] at h
    simp only at h
    by_cases h3 : b = []
    · rw [if_pos h3] at h; exact absurd (congrArg Prod.fst h) (by simp)
    rw [if_neg h3] at h
    by_cases h4 : b.any wsB = true
    · rw [if_pos h4] at h; exact absurd (congrArg Prod.fst h) (by simp)
    rw [if_neg h4] at h
    cases h5 : nm b with
    | none => rw [h5] at h; exact absurd (congrArg Prod.fst h) (by simp)
    | some y =>
      rw [h5] at h
      cases h6 : vl a with
      | none => rw [h6] at h; exact absurd (congrArg Prod.fst h) (by simp)
      | some v =>
        rw [h6] at h
        simp only [Prod.mk.injEq, true_and] at h
        subst h
        have e := F.nm_lw h5
        obtain ⟨e1, _⟩ := cut1_some h2
        refine ⟨F.nm_id h5, by rw [e, F.lw_id], (F.vl_id h6).1, ?_⟩
        have := (F.vl_id h6).2
        show y.length + v.length + 1 ≤ l.length
        rw [e1, e, F.lw_len, List.length_append, List.length_cons]
        omega
theorem readFs_some (F : Flk nm vl hs lw) : ∀ {ls : List (List UInt8)} {fs : Fs}, readFs nm vl ls = (0, fs) → fs.length = ls.length ∧ (∀ f ∈ fs, nm f.1 = some f.1 ∧ lw f.1 = f.1 ∧ vl f.2 = some f.2) ∧ (flat (fs.map (lineW nm))).length ≤ (flat ls).length + ls.length := by
  intro ls
  induction ls with
  | nil => intro fs h; simp only [readFs, Prod.mk.injEq, true_and] at h; subst h; exact ⟨rfl, by simp, by simp [flat]⟩
  | cons l r ih =>
    intro fs h
    rw [readFs] at h
    by_cases h1 : (readF nm vl l).1 ≠ 0
    · rw [if_pos h1] at h; exact absurd (congrArg Prod.fst h) h1
    rw [if_neg h1] at h
    by_cases h2 : (readFs nm vl r).1 ≠ 0
    · rw [if_pos h2] at h; exact absurd (congrArg Prod.fst h) h2
    rw [if_neg h2] at h
    simp only [Prod.mk.injEq, true_and] at h
    subst h
    simp only [ne_eq, Decidable.not_not] at h1 h2
    obtain ⟨a1, a2, a3, a4⟩ := readF_some F (l := l) (f := (readF nm vl l).2) (Prod.ext h1 rfl)
    obtain ⟨b1, b2, b3⟩ := ih (fs := (readFs nm vl r).2) (Prod.ext h2 rfl)
    refine ⟨by simp [b1], ?_, ?_⟩
    · intro f hf
      rcases List.mem_cons.1 hf with rfl | hf
      · exact ⟨a1, a2, a3⟩
      · exact b2 f hf
    · rw [List.map_cons, flat_cons, flat_cons]
      have e : (lineW nm (readF nm vl l).2).length = (readF nm vl l).2.1.length + (readF nm vl l).2.2.length + 2 := by
        unfold lineW; rw [a1]; simp; omega
      simp only [List.length_append, List.length_cons, e]
      omega
/-- What is read can be written (unless the canonical head is too long), and is read again as the same request. -/
theorem readQ_write (F : Flk nm vl hs lw) {s m t : List UInt8} {fs : Fs} {n : Nat} (h : readQ nm vl hs lw s = (0, (m, t, fs), n)) :
    (writeQ nm vl hs lw (m, t, fs) = (5, []) ∧ 8192 < n + 64) ∨ ∃ b, writeQ nm vl hs lw (m, t, fs) = (0, b) ∧ readQ nm vl hs lw b = (0, (m, t, fs), b.length) := by
  obtain ⟨h1, h2, ls, fs0, h3, h4, h5, h6, h7, h8, h9, h10⟩ := readQ_some h
  obtain ⟨a1, a2, a3⟩ := readFs_some F h3
  obtain ⟨e1, e2, e3⟩ := hosted_some F h4
  have hg0 : ∀ f ∈ fs0, GoodF nm vl lw f := fun f hf => ⟨by rw [(a2 f hf).2.1]; exact (a2 f hf).1, (a2 f hf).2.2⟩
  have hg := good_lowH F hg0 h4
  have hlen : fs.length = fs0.length := by rw [e1, List.length_map]
  have hself : ∀ f ∈ fs, lw f.1 = f.1 := fun f hf => by
    rw [e1] at hf
    obtain ⟨g, hg2, rfl⟩ := List.mem_map.1 hf
    exact (a2 g hg2).2.1
  have hcount : (fs.filter fun f => decide (lw f.1 = hostN)).length = 1 := by
    rw [e1, List.filter_map, List.length_map]
    exact e2
  have hh : hosted hs lw fs = some fs := hosted_of e3 hcount
  have hbl : (enc (startQ m t :: fs.map (lineW nm))).length ≤ n + ls.length := by
    rw [h7, encH_len, encH_len, lines_len e1 F.lw_len]; omega
  by_cases hbig : 8192 < (enc (startQ m t :: fs.map (lineW nm))).length
  · left
    refine ⟨?_, by omega⟩
    unfold writeQ
    rw [if_pos (.inr hbig)]
  · right
    have hw : writeQ nm vl hs lw (m, t, fs) = (0, enc (startQ m t :: fs.map (lineW nm))) := by
      unfold writeQ
      rw [if_neg (show ¬ (64 < fs.length ∨ _) by rintro (x | x); omega; exact hbig x)]
      simp only
      rw [if_neg (by rw [h1]; decide), if_neg (by rw [h2]; decide), if_neg (by rw [mem_good hg]; decide), hh]
    refine ⟨_, hw, ?_⟩
    have := writeQ_read F hw []
    rw [List.append_nil] at this
    rw [this]
    have e : (fs.map fun f => (lw f.1, (lowH lw f).2)) = fs := by
      conv => rhs; rw [← List.map_id fs]
      apply List.map_congr_left
      intro f hf
      have e4 := hself f hf
      have e5 : (lowH lw f).2 = f.2 := by
        unfold lowH
        simp only
        by_cases hn : lw f.1 = hostN
        · rw [if_pos hn]; exact (F.hs_lw (e3 f hf hn)).symm
        · rw [if_neg hn]
      rw [e4, e5]; rfl
    rw [e]
end
end Go.Proofs.YtfmgfcddnnggeaaGreatDoor

/- Responses: reading and writing heads, in lists of bytes; what is written is read again. -/
namespace Go.Proofs.YtfmgfcddnnggeaaGreatDoor

/-- The phrases. -/
def phrases : List (Nat × List UInt8) := [
  (100, [67, 111, 110, 116, 105, 110, 117, 101]),
  (101, [83, 119, 105, 116, 99, 104, 105, 110, 103, 32, 80, 114, 111, 116, 111, 99, 111, 108, 115]),
  (200, [79, 75]),
  (201, [67, 114, 101, 97, 116, 101, 100]),
  (202, [65, 99, 99, 101, 112, 116, 101, 100]),
  (203, [78, 111, 110, 45, 65, 117, 116, 104, 111, 114, 105, 116, 97, 116, 105, 118, 101, 32, 73, 110, 102, 111, 114, 109, 97, 116, 105, 111, 110]),
  (204, [78, 111, 32, 67, 111, 110, 116, 101, 110, 116]),
  (206, [80, 97, 114, 116, 105, 97, 108, 32, 67, 111, 110, 116, 101, 110, 116]),
  (300, [77, 117, 108, 116, 105, 112, 108, 101, 32, 67, 104, 111, 105, 99, 101, 115]),
  (301, [77, 111, 118, 101, 100, 32, 80, 101, 114, 109, 97, 110, 101, 110, 116, 108, 121]),
  (302, [70, 111, 117, 110, 100]),
  (303, [83, 101, 101, 32, 79, 116, 104, 101, 114]),
  (304, [78, 111, 116, 32, 77, 111, 100, 105, 102, 105, 101, 100]),
  (307, [84, 101, 109, 112, 111, 114, 97, 114, 121, 32, 82, 101, 100, 105, 114, 101, 99, 116]),
  (308, [80, 101, 114, 109, 97, 110, 101, 110, 116, 32, 82, 101, 100, 105, 114, 101, 99, 116]),
  (400, [66, 97, 100, 32, 82, 101, 113, 117, 101, 115, 116]),
  (401, [85, 110, 97, 117, 116, 104, 111, 114, 105, 122, 101, 100]),
  (403, [70, 111, 114, 98, 105, 100, 100, 101, 110]),
  (404, [78, 111, 116, 32, 70, 111, 117, 110, 100]),
  (405, [77, 101, 116, 104, 111, 100, 32, 78, 111, 116, 32, 65, 108, 108, 111, 119, 101, 100]),
  (408, [82, 101, 113, 117, 101, 115, 116, 32, 84, 105, 109, 101, 111, 117, 116]),
  (410, [71, 111, 110, 101]),
  (411, [76, 101, 110, 103, 116, 104, 32, 82, 101, 113, 117, 105, 114, 101, 100]),
  (412, [80, 114, 101, 99, 111, 110, 100, 105, 116, 105, 111, 110, 32, 70, 97, 105, 108, 101, 100]),
  (413, [67, 111, 110, 116, 101, 110, 116, 32, 84, 111, 111, 32, 76, 97, 114, 103, 101]),
  (414, [85, 82, 73, 32, 84, 111, 111, 32, 76, 111, 110, 103]),
  (416, [82, 97, 110, 103, 101, 32, 78, 111, 116, 32, 83, 97, 116, 105, 115, 102, 105, 97, 98, 108, 101]),
  (429, [84, 111, 111, 32, 77, 97, 110, 121, 32, 82, 101, 113, 117, 101, 115, 116, 115]),
  (431, [82, 101, 113, 117, 101, 115, 116, 32, 72, 101, 97, 100, 101, 114, 32, 70, 105, 101, 108, 100, 115, 32, 84, 111, 111, 32, 76, 97, 114, 103, 101]),
  (500, [73, 110, 116, 101, 114, 110, 97, 108, 32, 83, 101, 114, 118, 101, 114, 32, 69, 114, 114, 111, 114]),
  (501, [78, 111, 116, 32, 73, 109, 112, 108, 101, 109, 101, 110, 116, 101, 100]),
  (502, [66, 97, 100, 32, 71, 97, 116, 101, 119, 97, 121]),
  (503, [83, 101, 114, 118, 105, 99, 101, 32, 85, 110, 97, 118, 97, 105, 108, 97, 98, 108, 101]),
  (504, [71, 97, 116, 101, 119, 97, 121, 32, 84, 105, 109, 101, 111, 117, 116])]
def reasonL (n : Nat) : List UInt8 := ((phrases.find? fun p => decide (p.1 = n)).map (·.2)).getD []
def ctlG (c : UInt8) : Bool := (decide (c.toNat < 32) && decide (c.toNat ≠ 9)) || decide (c.toNat = 127)
def d3 (n : Nat) : List UInt8 := [UInt8.ofNat (48 + n / 100), UInt8.ofNat (48 + n / 10 % 10), UInt8.ofNat (48 + n % 10)]
def dgB (c : UInt8) : Bool := decide (48 ≤ c.toNat) && decide (c.toNat ≤ 57)
/-- The status of what follows the version; 0 if there is none. -/
def statusN : List UInt8 → Nat
  | a :: b :: c :: r =>
    if (r = [] ∨ r.head? = some 32) ∧ dgB a = true ∧ dgB b = true ∧ dgB c = true ∧ r.any ctlG = false then
      let n := 100 * (a.toNat - 48) + 10 * (b.toNat - 48) + (c.toNat - 48)
      if 100 ≤ n ∧ n ≤ 599 then n else 0
    else 0
  | _ => 0
theorem reason_clean_tab : (phrases.all fun p => p.2.all fun c => !ctlG c) = true := by decide +kernel
theorem reason_noctl (n : Nat) : (reasonL n).any ctlG = false := by
  unfold reasonL
  cases h : phrases.find? fun p => decide (p.1 = n) with
  | none => rfl
  | some p =>
    have := List.all_eq_true.1 reason_clean_tab p (List.mem_of_find?_eq_some h)
    show p.2.any ctlG = false
    rw [List.any_eq_false]
    intro c hc
    have := List.all_eq_true.1 this c hc
    simpa using this
theorem noctl_clean {l : List UInt8} (h : l.any ctlG = false) : Clean l := by
  rw [List.any_eq_false] at h
  intro c hc
  have := h c hc
  refine ⟨?_, ?_, ?_⟩ <;> (rintro rfl; exact this (by decide))
section
variable (nm vl hs : List UInt8 → Option (List UInt8)) (lw : List UInt8 → List UInt8)
abbrev Rp := Nat × Fs
/-- A response, read from its lines. -/
def respL (l : List (List UInt8)) : Nat × Rp :=
  if (cutG 32 (l.headD [])).1 ≠ verL then (28, 0, [])
  else if statusN (cutG 32 (l.headD [])).2 = 0 then (2, 0, [])
  else if (readFs nm vl l.tail).1 ≠ 0 then ((readFs nm vl l.tail).1, 0, [])
  else (0, statusN (cutG 32 (l.headD [])).2, (readFs nm vl l.tail).2)
def readP (s : List UInt8) : Nat × Rp × Nat :=
  if (splitG s).1 ≠ 0 then ((splitG s).1, (0, []), 0)
  else if (respL nm vl (splitG s).2.1).1 ≠ 0 then ((respL nm vl (splitG s).2.1).1, (0, []), 0)
  else (0, (respL nm vl (splitG s).2.1).2, (splitG s).2.2)
/-- The status that is written: 0 for one out of range. -/
def stN (st : Int) : Nat := if st < 100 ∨ 599 < st then 0 else st.toNat
def startP (st : Int) : List UInt8 := verL ++ 32 :: (d3 (stN st) ++ 32 :: reasonL (stN st))
def writeP (st : Int) (fs : Fs) : Nat × List UInt8 :=
  if 64 < fs.length ∨ 8192 < (enc (startP st :: fs.map (lineW nm))).length then (5, [])
  else if stN st = 0 then (2, [])
  else if goodB nm vl fs = false then (25, [])
  else (0, enc (startP st :: fs.map (lineW nm)))
end
section
variable {nm vl hs : List UInt8 → Option (List UInt8)} {lw : List UInt8 → List UInt8}
theorem d3_clean (n : Nat) (h : n ≤ 599) : Clean (d3 n) := by
  intro c hc
  simp only [d3, List.mem_cons, List.not_mem_nil, or_false] at hc
  have key : ∀ k, k ≤ 9 → UInt8.ofNat (48 + k) ≠ 0 ∧ UInt8.ofNat (48 + k) ≠ 13 ∧ UInt8.ofNat (48 + k) ≠ 10 := by
    intro k hk
    have : k = 0 ∨ k = 1 ∨ k = 2 ∨ k = 3 ∨ k = 4 ∨ k = 5 ∨ k = 6 ∨ k = 7 ∨ k = 8 ∨ k = 9 := by omega
    rcases this with rfl | rfl | rfl | rfl | rfl | rfl | rfl | rfl | rfl | rfl <;> decide
  rcases hc with rfl | rfl | rfl
  · exact key _ (by omega)
  · exact key _ (by omega)
  · exact key _ (by omega)
theorem d3_toNat (k : Nat) (hk : k ≤ 9) : (UInt8.ofNat (48 + k)).toNat = 48 + k := by rw [UInt8.toNat_ofNat']; omega
theorem statusN_d3 (n : Nat) (h1 : 100 ≤ n) (h2 : n ≤ 599) : statusN (d3 n ++ 32 :: reasonL n) = n := by
  have a1 := d3_toNat (n / 100) (by omega)
  have a2 := d3_toNat (n / 10 % 10) (by omega)
  have a3 := d3_toNat (n % 10) (by omega)
  have hr : (32 :: reasonL n).any ctlG = false := by rw [List.any_cons, reason_noctl]; decide
  show statusN (UInt8.ofNat (48 + n / 100) :: UInt8.ofNat (48 + n / 10 % 10) :: UInt8.ofNat (48 + n % 10) :: 32 :: reasonL n) = n
  simp only [statusN]
  rw [if_pos ⟨.inr rfl, by unfold dgB; rw [a1]; simp; omega, by unfold dgB; rw [a2]; simp; omega, by unfold dgB; rw [a3]; simp; omega, hr⟩, a1, a2, a3]
  have e : 100 * (48 + n / 100 - 48) + 10 * (48 + n / 10 % 10 - 48) + (48 + n % 10 - 48) = n := by omega
  simp only [e]
  rw [if_pos ⟨h1, h2⟩]
theorem startP_clean (st : Int) : Clean (startP st) ∧ startP st ≠ [] := by
  unfold startP
  refine ⟨clean_app.2 ⟨ver_clean, clean_cons.2 ⟨by decide, clean_app.2 ⟨d3_clean _ (by unfold stN; split <;> omega), clean_cons.2 ⟨by decide, noctl_clean (reason_noctl _)⟩⟩⟩⟩, by simp⟩
/-- What is written is read again. -/
theorem writeP_read (F : Flk nm vl hs lw) {st : Int} {fs : Fs} {b : List UInt8} (h : writeP nm vl st fs = (0, b)) (r : List UInt8) :
    (100 ≤ st ∧ st ≤ 599) ∧ readP nm vl (b ++ r) = (0, (st.toNat, fs.map fun f => (lw f.1, f.2)), b.length) := by
  unfold writeP at h
  by_cases h1 : 64 < fs.length ∨ 8192 < (enc (startP st :: fs.map (lineW nm))).length
  · rw [if_pos h1] at h; exact absurd (congrArg Prod.fst h) (by simp)
  rw [if_neg h1] at h
  by_cases h2 : stN st = 0
  · rw [if_pos h2] at h; exact absurd (congrArg Prod.fst h) (by simp)
  rw [if_neg h2] at h
  by_cases h4 : goodB nm vl fs = false
  · rw [if_pos h4] at h; exact absurd (congrArg Prod.fst h) (by simp)
  rw [if_neg h4] at h
  simp only [Prod.mk.injEq, true_and] at h
  subst h
  simp only [not_or, Bool.not_eq_false] at h1 h4
  have hst : 100 ≤ st ∧ st ≤ 599 := by
    unfold stN at h2
    by_cases hh : st < 100 ∨ 599 < st
    · rw [if_pos hh] at h2; exact absurd rfl h2
    · omega
  have hsn : stN st = st.toNat := by unfold stN; rw [if_neg (by omega)]
  have hg := good_mem F h4
  refine ⟨hst, ?_⟩
  have hs' : splitG (enc (startP st :: fs.map (lineW nm)) ++ r) = (0, startP st :: fs.map (lineW nm), (enc (startP st :: fs.map (lineW nm))).length) :=
    splitG_enc (by simp) (fun x hx => by
      rcases List.mem_cons.1 hx with rfl | hx
      · exact startP_clean st
      · obtain ⟨f, hf, rfl⟩ := List.mem_map.1 hx
        exact line_clean F (hg f hf)) (by omega) (by rw [List.length_cons, List.length_map]; omega) r
  have e1 : cutG 32 (startP st) = (verL, d3 (stN st) ++ 32 :: reasonL (stN st)) := cutG_at (by decide) _
  have e2 : statusN (d3 (stN st) ++ 32 :: reasonL (stN st)) = st.toNat := by rw [statusN_d3 _ (by omega) (by omega), hsn]
  have hl : respL nm vl (startP st :: fs.map (lineW nm)) = (0, st.toNat, fs.map fun f => (lw f.1, f.2)) := by
    unfold respL
    simp only [List.headD_cons, List.tail_cons, e1, e2, readFs_lines F hg]
    rw [if_neg (show ¬ verL ≠ verL by simp), if_neg (show ¬ st.toNat = 0 by omega)]
    simp
  unfold readP
  rw [hs']
  simp only [hl]
  simp
end
end Go.Proofs.YtfmgfcddnnggeaaGreatDoor
