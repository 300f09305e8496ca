import Derived.Test.YtfmgfcddnnggeaaGreatDoorPa15
/- The reference's Write, plain: its machine over bytes says what the program's says. -/
namespace Go.Proofs.YtfmgfcddnnggeaaGreatDoor

theorem rsok_sized {r : Rs} (h : RsOk r) (hp : r.p = 0 ∨ r.p = 1) (c : UInt8) (hb : (sizedR r c).bad = 0) : RsOk (sizedR r c) := by
  obtain ⟨b1, b2, b3, b4, b5, b6, b7, b8, b9, b10, b11, b12, b13⟩ := h
  have htn : r.tt + r.n ≤ 65536 := by rcases hp with h | h; exact b8 h; exact b9 h
  unfold sizedR at hb ⊢
  split at hb
  · rename_i q; rw [if_pos q]
    exact ⟨by simp, b2, b3, b4, b5, b6, fun e => by simp at e, fun e => by simp at e, fun e => by simp at e, fun _ => htn, b11, b12, b13⟩
  · rename_i q; rw [if_neg q]
    split at hb
    · simp [badR] at hb
    · rename_i q2; rw [if_neg q2]
      split at hb
      · rename_i q3; rw [if_pos q3]
        split at hb
        · simp [badR] at hb
        · rename_i q4; rw [if_neg q4]
          exact ⟨b1, b2, b3, by simp only; omega, b5, b6, fun e => by simp only at e; omega, fun _ => htn, fun _ => htn, fun _ => htn, b11, b12, b13⟩
      · rename_i q3; rw [if_neg q3]
        split at hb
        · rename_i q4; rw [if_pos q4]
          exact ⟨by simp, b2, b3, by simp only; omega, b5, b6, fun e => by simp at e, fun _ => htn, fun _ => htn, fun _ => htn, b11, b12, b13⟩
        · rename_i q4; rw [if_neg q4]
          cases hv : hexV c with
          | none => rw [hv] at hb; simp [badR] at hb
          | some v =>
            have hvl := hexV_lt hv
            rw [hv] at hb
            simp only at hb ⊢
            split at hb
            · simp [badR] at hb
            · rename_i q5; rw [if_neg q5]
              split at hb
              · simp at hb
              · rename_i q6; rw [if_neg q6]
                exact ⟨b1, by simp only; omega, by simp only; omega, by simp only; omega, b5, b6, fun e => by simp only at e; omega, fun _ => by simp only; omega, fun _ => by simp only; omega, fun _ => by simp only; omega, b11, b12, b13⟩
theorem rsok_ended {r : Rs} (h : RsOk r) (hp : r.p = 6 ∨ r.p = 7) (c : UInt8) (hb : (endedR r c).bad = 0) : RsOk (endedR r c) := by
  obtain ⟨b1, b2, b3, b4, b5, b6, b7, b8, b9, b10, b11, b12, b13⟩ := h
  unfold endedR at hb ⊢
  split at hb
  · simp [badR] at hb
  · rename_i q; rw [if_neg q]
    have hse : r.se ≠ 8192 := fun e => q (.inl e)
    split at hb
    · rename_i q2; rw [if_pos q2]
      exact ⟨by simp, b2, b3, b4, b5, b6, fun e => by simp at e, fun e => by simp at e, fun e => by simp at e, fun e => by simp at e, by simp only; omega, by simp only; omega, b13⟩
    · rename_i q2; rw [if_neg q2]
      split at hb
      · rename_i q3; rw [if_pos q3]
        exact ⟨b1, b2, b3, b4, b5, b6, fun e => by simp only at e; omega, fun e => by simp only at e; omega, fun e => by simp only at e; omega, fun e => by simp only at e; omega, by simp only; omega, by simp; omega, b13⟩
      · rename_i q3; rw [if_neg q3]
        split at hb
        · rename_i q4; rw [if_pos q4]
          exact ⟨by simp, b2, b3, b4, b5, b6, fun e => by simp at e, fun e => by simp at e, fun e => by simp at e, fun e => by simp at e, by simp only; omega, by simp only; omega, b13⟩
        · rename_i q4; rw [if_neg q4]
          split at hb
          · simp [badR] at hb
          · rename_i q5; rw [if_neg q5]
            have hfs : r.fs.length ≠ 64 := fun e => q5 (.inr e)
            exact ⟨by simp, b2, b3, b4, b5, b6, fun e => by simp at e, fun e => by simp at e, fun e => by simp at e, fun e => by simp at e, by simp only; omega, by simp, by simp; omega⟩
/-- A step without an error keeps the bounds. -/
theorem rsok_step {r : Rs} (h : RsOk r) (h8 : r.p ≠ 8) (c : UInt8) (hb : (stepR r c).bad = 0) : RsOk (stepR r c) := by
  have hok := h
  obtain ⟨b1, b2, b3, b4, b5, b6, b7, b8, b9, b10, b11, b12, b13⟩ := h
  unfold stepR at hb ⊢
  split at hb
  · rename_i q; rw [if_pos q]; exact rsok_sized hok q c hb
  · rename_i q; rw [if_neg q]
    split at hb
    · rename_i q2; rw [if_pos q2]
      have htn := b10 q2
      split at hb
      · simp [badR] at hb
      · rename_i q3; rw [if_neg q3]
        by_cases q4 : r.n = 0
        · rw [if_pos q4]
          exact ⟨by simp, b2, b3, b4, b5, b3, fun e => by simp at e, fun e => by simp at e, fun e => by simp at e, fun e => by simp at e, b11, b12, b13⟩
        · rw [if_neg q4]
          exact ⟨by simp, b2, b3, b4, b5, b3, fun _ => ⟨by simp only; omega, htn⟩, fun e => by simp at e, fun e => by simp at e, fun e => by simp at e, b11, b12, b13⟩
    · rename_i q2; rw [if_neg q2]
      split at hb
      · rename_i q3; rw [if_pos q3]
        obtain ⟨l1, l2⟩ := b7 q3
        by_cases q4 : r.lf - 1 = 0
        · rw [if_pos q4]
          exact ⟨by simp, b2, b3, b4, by simp only; omega, by simp only; omega, fun e => by simp at e, fun e => by simp at e, fun e => by simp at e, fun e => by simp at e, b11, b12, b13⟩
        · rw [if_neg q4]
          exact ⟨by simp, b2, b3, b4, by simp only; omega, by simp only; omega, fun _ => ⟨by simp only; omega, by simp only; omega⟩, fun e => by simp at e, fun e => by simp at e, fun e => by simp at e, b11, b12, b13⟩
      · rename_i q3; rw [if_neg q3]
        split at hb
        · rename_i q4; rw [if_pos q4]
          split at hb
          · simp [badR] at hb
          · rename_i q5; rw [if_neg q5]
            exact ⟨by simp, b2, b3, b4, b5, b6, fun e => by simp at e, fun e => by simp at e, fun e => by simp at e, fun e => by simp at e, b11, b12, b13⟩
        · rename_i q4; rw [if_neg q4]
          split at hb
          · rename_i q5; rw [if_pos q5]
            split at hb
            · simp [badR] at hb
            · rename_i q6; rw [if_neg q6]
              exact ⟨by simp, by simp, by simp, by simp, b5, b6, fun e => by simp at e, fun _ => by simp only; omega, fun e => by simp at e, fun e => by simp at e, b11, b12, b13⟩
          · rename_i q5; rw [if_neg q5]
            exact rsok_ended hok (by omega) c hb
/-- What the reference's Write returns: the state, the data, and how many bytes were taken. -/
def wrR : Rs → List UInt8 → Rs × List UInt8 × Nat
  | r, [] => (r, [], 0)
  | r, c :: l =>
    if r.bad ≠ 0 ∨ r.p = 8 then (r, [], 0)
    else if (stepR r c).bad ≠ 0 then (stepR r c, [], 0)
    else if r.p = 3 then ((wrR (stepR r c) l).1, c :: (wrR (stepR r c) l).2.1, (wrR (stepR r c) l).2.2 + 1)
    else ((wrR (stepR r c) l).1, (wrR (stepR r c) l).2.1, (wrR (stepR r c) l).2.2 + 1)
theorem wrR_stop {r : Rs} (h : r.bad ≠ 0 ∨ r.p = 8) (l : List UInt8) : wrR r l = (r, [], 0) := by
  cases l with
  | nil => rfl
  | cons c t => unfold wrR; rw [if_pos h]
theorem stepR_bad3 {r : Rs} (h : r.p = 3) (hb : r.bad = 0) (c : UInt8) : (stepR r c).bad = 0 := by
  unfold stepR; rw [if_neg (by omega), if_neg (by omega), if_pos h]; exact hb
theorem step_keeps (s : Dc) (c : UInt8) : (stepS s c).2.er = s.er := by
  have hx : ∀ (s : Dc) (c : UInt8) (a b : Nat), (expS s c a b).2.er = s.er := by intro s c a b; unfold expS; split <;> rfl
  have hl : ∀ s : Dc, (lineS s).2.er = s.er := by
    intro s; unfold lineS
    split
    · rfl
    · split
      · rfl
      · split <;> rfl
  unfold stepS
  split
  · unfold sizeS digS
    split
    · split
      · rfl
      · split <;> rfl
    · split
      · rfl
      · split
        · rfl
        · exact hx _ _ _ _
  split
  · unfold extS
    split
    · rfl
    · split <;> rfl
  split
  · unfold endS
    split <;> exact hx _ _ _ _
  split
  · exact hx _ _ _ _
  split
  · exact hx _ _ _ _
  · unfold trlS
    split
    · rfl
    · split
      · exact hl _
      · split <;> rfl
theorem step_er {s : Dc} {c : UInt8} (he : s.er = 0) (_h : (stepS s c).1 = 0) : (stepS s c).2.er = 0 := (step_keeps s c).trans he
/-- The two machines take the same bytes, and find the same data. -/
theorem wr_rel : ∀ (l : List UInt8) {s : Dc} {r : Rs}, RelS s r → s.Ok → RelS (wrD s l).1 (wrR r l).1 ∧ (wrD s l).2 = (wrR r l).2 := by
  intro l
  induction l with
  | nil => intro s r h _; exact ⟨h, rfl⟩
  | cons c t ih =>
    intro s r h hok
    have hb := h.hb
    have hp := h.hp
    by_cases q : s.er ≠ 0 ∨ s.pl = 8
    · rw [wrD_stop q, wrR_stop (by rw [hb, hp]; exact q)]
      exact ⟨h, rfl⟩
    · have he : s.er = 0 := by
        rcases Nat.eq_zero_or_pos s.er with h' | h'
        · exact h'
        · exact absurd (.inl (by omega)) q
      have h8 : s.pl ≠ 8 := fun e => q (.inr e)
      have hs := rel_step h hok he h8 c
      have qr : ¬ (r.bad ≠ 0 ∨ r.p = 8) := by rw [hb, hp]; exact q
      by_cases h3 : s.pl = 3
      · have e1 : afterS s c = dataS s 1 := by unfold afterS; rw [if_pos h3]
        rw [e1] at hs
        have := ih hs (ok_data hok h3 (hok.b10 h3))
        rw [wrD_byte he h8 h3, wrR, if_neg qr, if_neg (by rw [stepR_bad3 (by omega) (by omega)]; simp), if_pos (by omega)]
        exact ⟨this.1, by simp only [Prod.mk.injEq]; rw [this.2]; simp⟩
      · by_cases h0 : (stepS s c).1 = 0
        · have e1 : afterS s c = (stepS s c).2 := by unfold afterS; rw [if_neg h3, if_pos h0]
          rw [e1] at hs
          have hk := ok_step hok h3 h8 c
          have := ih hs hk
          have hz : (stepR r c).bad = 0 := by
            rw [hs.hb]
            exact step_er he h0
          rw [wrD_step he h8 h3 h0, wrR, if_neg qr, if_neg (by rw [hz]; simp), if_neg (by omega)]
          exact ⟨this.1, by simp only [Prod.mk.injEq]; rw [this.2]; simp⟩
        · have e1 : afterS s c = { (stepS s c).2 with er := (stepS s c).1 } := by unfold afterS; rw [if_neg h3, if_neg h0]
          rw [e1] at hs
          have hz : (stepR r c).bad ≠ 0 := by rw [hs.hb]; exact h0
          rw [wrD_bad he h8 h3 h0, wrR, if_neg qr, if_pos hz]
          exact ⟨hs, rfl⟩
theorem wrR_app : ∀ (a : List UInt8) (s : Rs) (b : List UInt8),
    wrR s (a ++ b) = ((wrR (wrR s a).1 b).1, (wrR s a).2.1 ++ (wrR (wrR s a).1 b).2.1, (wrR s a).2.2 + (wrR (wrR s a).1 b).2.2) := by
  intro a
  induction a with
  | nil => intro s b; simp [wrR]
  | cons c t ih =>
    intro s b
    by_cases h : s.bad ≠ 0 ∨ s.p = 8
    · rw [wrR_stop h, wrR_stop h, wrR_stop h]; simp
    · rw [List.cons_append, wrR, if_neg h, wrR, if_neg h]
      by_cases h0 : (stepR s c).bad ≠ 0
      · rw [if_pos h0, if_pos h0, wrR_stop (.inl h0)]; simp
      · rw [if_neg h0, if_neg h0]
        by_cases h3 : s.p = 3
        · rw [if_pos h3, if_pos h3, ih]; simp; omega
        · rw [if_neg h3, if_neg h3, ih]; simp; omega
/-- The bounds hold of every state without an error that the machine comes to. -/
theorem wrR_ok : ∀ (l : List UInt8) {r : Rs}, RsOk r → (wrR r l).1.bad = 0 → RsOk (wrR r l).1 := by
  intro l
  induction l with
  | nil => intro r h _; exact h
  | cons c t ih =>
    intro r h hz
    by_cases q : r.bad ≠ 0 ∨ r.p = 8
    · rw [wrR_stop q]; exact h
    · have h8 : r.p ≠ 8 := fun e => q (.inr e)
      rw [wrR, if_neg q] at hz ⊢
      by_cases h0 : (stepR r c).bad ≠ 0
      · rw [if_pos h0] at hz; exact absurd hz h0
      · rw [if_neg h0] at hz ⊢
        have h0' : (stepR r c).bad = 0 := by omega
        have hk := rsok_step h h8 c h0'
        by_cases h3 : r.p = 3
        · rw [if_pos h3] at hz ⊢; exact ih hk hz
        · rw [if_neg h3] at hz ⊢; exact ih hk hz
theorem wrR_len : ∀ (l : List UInt8) (s : Rs), (wrR s l).2.2 ≤ l.length ∧ (wrR s l).2.1.length ≤ (wrR s l).2.2 := by
  intro l
  induction l with
  | nil => intro s; simp [wrR]
  | cons c t ih =>
    intro s
    by_cases h : s.bad ≠ 0 ∨ s.p = 8
    · rw [wrR_stop h]; simp
    · rw [wrR, if_neg h]
      have := ih (stepR s c)
      split
      · simp
      · split <;> simp <;> omega
end Go.Proofs.YtfmgfcddnnggeaaGreatDoor

/- Events in which adjacent data are joined; a chunked body, byte by byte; the bounds are kept. -/
namespace Go.Proofs.YtfmgfcddnnggeaaGreatDoor

def snocE (o : List Ev) (e : Ev) : List Ev := match o.getLast? with
  | some x => if e.k = 2 ∧ x.k = 2 then o.dropLast ++ [{ x with d := x.d ++ e.d }] else o ++ [e]
  | none => o ++ [e]
def joinE (l : List Ev) : List Ev := l.foldl snocE []
/-- Does a list of events not end with data? -/
def notDat (o : List Ev) : Prop := ∀ x, o.getLast? = some x → x.k ≠ 2
theorem snocE_new {o : List Ev} {e : Ev} (h : e.k ≠ 2 ∨ notDat o) : snocE o e = o ++ [e] := by
  unfold snocE
  cases hl : o.getLast? with
  | none => rfl
  | some x =>
    simp only
    rw [if_neg]
    rintro ⟨h1, h2⟩
    rcases h with h | h
    · exact h h1
    · exact h x hl h2
theorem snocE_old {o : List Ev} {x e : Ev} (h1 : e.k = 2) (h2 : x.k = 2) : snocE (o ++ [x]) e = o ++ [{ x with d := x.d ++ e.d }] := by
  unfold snocE
  rw [List.getLast?_concat]
  simp only
  rw [if_pos ⟨h1, h2⟩, List.dropLast_concat]
theorem joinE_app (a b : List Ev) : joinE (a ++ b) = b.foldl snocE (joinE a) := by unfold joinE; rw [List.foldl_append]
theorem joinE_snoc (a : List Ev) (e : Ev) : joinE (a ++ [e]) = snocE (joinE a) e := by rw [joinE_app]; rfl
theorem notDat_end (o : List Ev) {e : Ev} (h : e.k ≠ 2) : notDat (o ++ [e]) := by
  intro x hx
  rw [List.getLast?_concat] at hx
  rw [← Option.some.inj hx]; exact h
theorem notDat_nil : notDat [] := fun x h => by cases h
theorem dat_k (d : List UInt8) : (dat d).k = 2 := rfl
theorem dat_more (a b : List UInt8) : ({ dat a with d := (dat a).d ++ (dat b).d } : Ev) = dat (a ++ b) := rfl
/-- Bytes of data are one event. -/
theorem fold_bytes {o : List Ev} (h : notDat o) : ∀ (x : List UInt8), (bytesE x).foldl snocE o = o ++ datL x := by
  have key : ∀ (x a : List UInt8), (bytesE x).foldl snocE (o ++ [dat a]) = o ++ [dat (a ++ x)] := by
    intro x
    induction x with
    | nil => intro a; simp [bytesE]
    | cons c t ih =>
      intro a
      show (bytesE t).foldl snocE (snocE (o ++ [dat a]) (dat [c])) = _
      rw [snocE_old (dat_k _) (dat_k _), dat_more, ih]
      simp
  intro x
  cases x with
  | nil => simp [bytesE, datL]
  | cons c t =>
    show (bytesE t).foldl snocE (snocE o (dat [c])) = _
    rw [snocE_new (.inr h), key]
    unfold datL; rw [if_neg (by simp)]; rfl
theorem bytesE_app (a b : List UInt8) : bytesE (a ++ b) = bytesE a ++ bytesE b := by unfold bytesE; rw [List.map_append]
theorem last_split {l : List Ev} {y : Ev} (h : l.getLast? = some y) : l = l.dropLast ++ [y] := by
  have hne : l ≠ [] := by rintro rfl; cases h
  rw [List.getLast?_eq_some_getLast hne] at h
  rw [← Option.some.inj h, List.dropLast_concat_getLast]
theorem snocE_two (P : List Ev) {x e : Ev} (h1 : x.k = 2) (h2 : e.k = 2) : snocE P { x with d := x.d ++ e.d } = snocE (snocE P x) e := by
  by_cases hP : notDat P
  · rw [snocE_new (.inr hP), snocE_new (.inr hP), snocE_old h2 h1]
  · obtain ⟨y, hy, hk⟩ : ∃ y, P.getLast? = some y ∧ y.k = 2 := by
      unfold notDat at hP
      simp only [Classical.not_forall] at hP
      obtain ⟨y, hy, hk⟩ := hP
      exact ⟨y, hy, by omega⟩
    obtain ⟨Q, rfl⟩ : ∃ Q, P = Q ++ [y] := ⟨P.dropLast, last_split hy⟩
    rw [snocE_old (by exact h1) hk, snocE_old h1 hk, snocE_old h2 (by exact hk)]
    simp
theorem fold_snoc (o j : List Ev) (e : Ev) : (snocE j e).foldl snocE o = snocE (j.foldl snocE o) e := by
  by_cases h : e.k ≠ 2 ∨ notDat j
  · rw [snocE_new h, List.foldl_append]; rfl
  · have h1 : e.k = 2 := by
      by_cases h1 : e.k = 2
      · exact h1
      · exact absurd (.inl h1) h
    obtain ⟨y, hy, hk⟩ : ∃ y, j.getLast? = some y ∧ y.k = 2 := by
      have hj : ¬ notDat j := fun e => h (.inr e)
      unfold notDat at hj
      simp only [Classical.not_forall] at hj
      obtain ⟨y, hy, hk⟩ := hj
      exact ⟨y, hy, by omega⟩
    obtain ⟨Q, rfl⟩ : ∃ Q, j = Q ++ [y] := ⟨j.dropLast, last_split hy⟩
    rw [snocE_old h1 hk, List.foldl_append, List.foldl_append]
    exact snocE_two _ hk h1
/-- Joining what is joined already changes nothing. -/
theorem fold_join (o b : List Ev) : (joinE b).foldl snocE o = b.foldl snocE o := by
  have key : ∀ (n : Nat) (b : List Ev), b.length = n → (joinE b).foldl snocE o = b.foldl snocE o := by
    intro n
    induction n with
    | zero => intro b hb; rw [List.eq_nil_of_length_eq_zero hb]; rfl
    | succ n ih =>
      intro b hb
      obtain ⟨c, e, rfl⟩ : ∃ c e, b = c ++ [e] := by
        rcases List.eq_nil_or_concat b with h | ⟨c, e, h⟩
        · rw [h] at hb; cases hb
        · exact ⟨c, e, by rw [h, List.concat_eq_append]⟩
      rw [joinE_snoc, fold_snoc, ih c (by simp at hb; omega), List.foldl_append]; rfl
  exact key _ b rfl
theorem joinE_join (a b : List Ev) : joinE (joinE a ++ joinE b) = joinE (a ++ b) := by
  rw [joinE_app, joinE_app, fold_join]
  congr 1
  exact fold_join [] a
theorem step_bad_pl {s : Dc} {c : UInt8} (h : (stepS s c).1 ≠ 0) : (stepS s c).2.pl = s.pl := by
  have hx : ∀ (s : Dc) (c : UInt8) (a b : Nat), (expS s c a b).1 ≠ 0 → (expS s c a b).2.pl = s.pl := by
    intro s c a b; unfold expS; split
    · intro h; exact absurd rfl h
    · intro _; rfl
  unfold stepS at h ⊢
  split at h
  · rename_i q; rw [if_pos q]
    unfold sizeS digS at h ⊢
    cases hv : hexV c with
    | some v =>
      rw [hv] at h
      simp only at h ⊢
      split at h
      · rename_i q; rw [if_pos q]
      · rename_i q; rw [if_neg q]
        split at h
        · rename_i q; rw [if_pos q]
        · exact absurd rfl h
    | none =>
      rw [hv] at h
      simp only at h ⊢
      split at h
      · rename_i q; rw [if_pos q]
      · rename_i q; rw [if_neg q]
        split at h
        · exact absurd rfl h
        · rename_i q; rw [if_neg q]; exact hx _ _ _ _ h
  rename_i q0; rw [if_neg q0]
  split at h
  · rename_i q; rw [if_pos q]
    unfold extS at h ⊢
    split at h
    · exact absurd rfl h
    · rename_i q; rw [if_neg q]
      split at h
      · rename_i q; rw [if_pos q]
      · exact absurd rfl h
  rename_i q1; rw [if_neg q1]
  split at h
  · rename_i q; rw [if_pos q]
    unfold endS at h ⊢
    split at h
    · rename_i q; rw [if_pos q]; exact hx _ _ _ _ h
    · rename_i q; rw [if_neg q]; exact hx _ _ _ _ h
  rename_i q2; rw [if_neg q2]
  split at h
  · rename_i q; rw [if_pos q]; exact hx _ _ _ _ h
  rename_i q3; rw [if_neg q3]
  split at h
  · rename_i q; rw [if_pos q]; exact hx _ _ _ _ h
  rename_i q4; rw [if_neg q4]
  unfold trlS at h ⊢
  split at h
  · rename_i q; rw [if_pos q]
  · rename_i q; rw [if_neg q]
    split at h
    · rename_i q; rw [if_pos q]
      unfold lineS at h ⊢
      split at h
      · exact absurd rfl h
      · rename_i q; rw [if_neg q]
        split at h
        · rename_i q; rw [if_pos q]
        · rename_i q; rw [if_neg q]
          split at h
          · rename_i q; rw [if_pos q]
          · exact absurd rfl h
    · split at h
      · exact absurd rfl h
      · exact absurd rfl h
/-- A decoder with an error has not come to the end. -/
theorem wrD_bad_pl : ∀ (l : List UInt8) {d : Dc}, d.er = 0 → (wrD d l).1.er ≠ 0 → (wrD d l).1.pl ≠ 8 := by
  intro l
  induction l with
  | nil => intro d h h2; exact absurd h h2
  | cons c t ih =>
    intro d he h2
    by_cases h8 : d.pl = 8
    · rw [wrD_stop (.inr h8)] at h2; exact absurd he h2
    · by_cases h3 : d.pl = 3
      · rw [wrD_byte he h8 h3] at h2 ⊢; exact ih (d := dataS d 1) he h2
      · by_cases h0 : (stepS d c).1 = 0
        · rw [wrD_step he h8 h3 h0] at h2 ⊢
          by_cases hz : (stepS d c).2.er = 0
          · exact ih hz h2
          · exact absurd ((step_keeps d c).trans he) hz
        · rw [wrD_bad he h8 h3 h0]
          simp only
          rw [step_bad_pl h0]; exact h8
theorem decC_self {s : Cn} {d : Dc} (h : s.dc = some d) (he : d.er = s.er) : decC s d = s := by
  unfold decC; rw [he, ← h]
theorem decC_decC (s : Cn) (a b : Dc) : decC (decC s a) b = decC s b := rfl
theorem doneO_dec (s : Cn) (d : Dc) (h : s.fk = 3) : complB (decC s d) = decide (d.pl = 8) := by
  unfold complB decC; simp only [doneO]
  rw [if_neg (by rw [h]; decide), if_pos h]
/-- A part of a chunked body. -/
theorem runC_chunk : ∀ (l : List UInt8) {s : Cn} {d : Dc}, s.er = 0 → s.fk = 3 → s.dc = some d → d.er = 0 → d.pl ≠ 8 →
    ((wrD d l).1.er ≠ 0 → runC s l = (decC s (wrD d l).1, bytesE (wrD d l).2.1)) ∧ ((wrD d l).1.er = 0 → runC s (l.take (wrD d l).2.2) = offC (decC s (wrD d l).1) (bytesE (wrD d l).2.1)) := by
  intro l
  induction l with
  | nil =>
    intro s d he hk hd hz h8
    refine ⟨fun h => absurd hz h, fun _ => ?_⟩
    show (s, []) = offC (decC s d) []
    rw [decC_self hd (by omega)]
    have hc : complB s = false := by
      unfold complB
      rw [if_neg (by rw [hk]; decide), if_pos hk, hd]
      exact decide_eq_false h8
    unfold offC
    rw [hc]; rfl
  | cons c t ih =>
    intro s d he hk hd hz h8
    have hs : stepC s c = offC (decC s (wrD d [c]).1) (datL (wrD d [c]).2.1) := by
      unfold stepC bodyC; rw [if_neg (by simp [he]), if_pos (by rw [hk]; decide), if_neg (by rw [hk]; decide), if_pos hk, hd]
    have happ := wrD_app [c] d t
    rw [List.singleton_append] at happ
    have hlen := wrD_len [c] d
    rw [List.length_singleton] at hlen
    have hb : datL (wrD d [c]).2.1 = bytesE (wrD d [c]).2.1 := by
      have h2 := hlen.2
      match hx : (wrD d [c]).2.1 with
      | [] => rfl
      | [x] => rfl
      | x :: y :: r => rw [hx] at h2; simp at h2; omega
    rw [hb] at hs
    by_cases h1 : (wrD d [c]).1.er = 0
    · by_cases h2 : (wrD d [c]).1.pl = 8
      · have hw := wrD_stop (s := (wrD d [c]).1) (.inr h2) t
        rw [hw] at happ
        simp only [List.append_nil, Nat.add_zero] at happ
        have hn : (wrD d [c]).2.2 = 1 := by
          by_cases h3 : d.pl = 3
          · rw [wrD_byte hz h8 h3]; rfl
          · by_cases h0 : (stepS d c).1 = 0
            · rw [wrD_step hz h8 h3 h0]; rfl
            · rw [wrD_bad hz h8 h3 h0] at h1; exact absurd h1 h0
        rw [happ]
        refine ⟨fun h => absurd h1 h, fun _ => ?_⟩
        simp only
        rw [hn, List.take_succ_cons, runC, hs]
        simp [runC]
      · have hn : (wrD d [c]).2.2 = 1 := wrD_full h1 h2
        have ho : offC (decC s (wrD d [c]).1) (bytesE (wrD d [c]).2.1) = (decC s (wrD d [c]).1, bytesE (wrD d [c]).2.1) := by
          unfold offC; rw [doneO_dec s _ hk, decide_eq_false h2]; rfl
        rw [ho] at hs
        obtain ⟨i1, i2⟩ := ih (s := decC s (wrD d [c]).1) (d := (wrD d [c]).1) h1 hk rfl h1 h2
        rw [happ]
        simp only
        refine ⟨fun h => ?_, fun h => ?_⟩
        · rw [runC, hs, i1 h, decC_decC, bytesE_app]
        · rw [hn, Nat.add_comm, List.take_succ_cons, runC, hs, i2 h, decC_decC, bytesE_app]
          unfold offC; split <;> simp
    · have hw := wrD_stop (s := (wrD d [c]).1) (.inl h1) t
      rw [hw] at happ
      simp only [List.append_nil, Nat.add_zero] at happ
      rw [happ]
      refine ⟨fun _ => ?_, fun h => absurd h h1⟩
      have h8' := wrD_bad_pl [c] hz h1
      have ho : offC (decC s (wrD d [c]).1) (bytesE (wrD d [c]).2.1) = (decC s (wrD d [c]).1, bytesE (wrD d [c]).2.1) := by
        unfold offC; rw [doneO_dec s _ hk, decide_eq_false h8']; rfl
      rw [ho] at hs
      rw [runC, hs, runC_stop (by exact h1)]
      simp
end Go.Proofs.YtfmgfcddnnggeaaGreatDoor

/- The connection's numbers stay within their bounds. -/
namespace Go.Proofs.YtfmgfcddnnggeaaGreatDoor

theorem cod_kind (cs : List (List UInt8)) (h : (codS cs).1 = 0) : (codS cs).2 = (3, 0) := by
  unfold codS at h ⊢
  split
  · rename_i c hc
    rw [hc] at h
    simp only at h
    split at h
    · rename_i q; rw [if_pos q]
    · cases h
  · rename_i hc
    split at h
    · rename_i c hc'; exact absurd hc' (hc c)
    · cases h
theorem len_kind (ls : List (List UInt8)) (h : (lensS ls).1 = 0) : ∃ n, n ≤ 65536 ∧ (lensS ls).2 = (2, n) := by
  cases he : elemsF ls with
  | none => rw [len_none he] at h; cases h
  | some es =>
    cases es with
    | nil => rw [len_nil he] at h; cases h
    | cons e r =>
      unfold lensS at h ⊢
      rw [he] at h ⊢
      simp only at h ⊢
      cases hn : numO e with
      | none => rw [hn] at h; cases h
      | some n =>
        rw [hn] at h
        simp only at h ⊢
        split at h
        · rename_i q
          rw [if_pos q]
          split at h
          · cases h
          · rename_i q2; rw [if_neg q2]; exact ⟨n, by omega, rfl⟩
        · cases h
theorem ofO_kind {o : Nat} {ls cs : List (List UInt8)} (h : (ofO o ls cs).1 = 0) : (ofO o ls cs).2 = (o, 0) ∨ (ofO o ls cs).2 = (3, 0) ∨ ∃ n, n ≤ 65536 ∧ (ofO o ls cs).2 = (2, n) := by
  by_cases h1 : ls = []
  · by_cases h2 : cs = []
    · rw [ofO_none h1 h2]; exact .inl rfl
    · rw [ofO_cod h1 h2] at h ⊢; exact .inr (.inl (cod_kind cs h))
  · by_cases h2 : cs = []
    · rw [ofO_len h1 h2] at h ⊢; exact .inr (.inr (len_kind ls h))
    · rw [ofO_both h1 h2] at h; cases h
theorem frC_kind {s : Cn} {e : Ev} (h : (frC s e).1 = 0) : (frC s e).2 = (1, 0) ∨ (frC s e).2 = (4, 0) ∨ (frC s e).2 = (3, 0) ∨ ∃ n, n ≤ 65536 ∧ (frC s e).2 = (2, n) := by
  unfold frC at h ⊢
  by_cases hr : s.rs = true
  · rw [if_pos hr] at h ⊢
    unfold ofR at h ⊢
    split at h
    · rename_i q; rw [if_pos q]; exact .inl rfl
    · rename_i q; rw [if_neg q]
      rcases ofO_kind h with h | h | h
      · exact .inr (.inl h)
      · exact .inr (.inr (.inl h))
      · exact .inr (.inr (.inr h))
  · rw [if_neg hr] at h ⊢
    rcases ofO_kind h with h | h | h
    · exact .inl h
    · exact .inr (.inr (.inl h))
    · exact .inr (.inr (.inr h))
theorem ok_end {s : Cn} (h1 : s.hd ≤ 64) (h2 : s.st = []) : (endC s).Ok := by
  refine ⟨fun _ _ => ?_, .inl rfl, fun h => (by cases h), by simp [endC], fun h => (by cases h), fun _ => rfl, h1, fun _ => h2, fun _ h => absurd rfl h, ?_, fun _ => rfl⟩
  · show (hdR s.rs s.st).1 = 21
    rw [h2]; exact hdR_nil _
  · show s.st.length < 8192
    rw [h2]; decide
/-- A body that has begun. -/
theorem ok_begin {s : Cn} {k n : Nat} (h7 : s.hd ≤ 64) (hst : s.st = []) (hdc : s.dc = none) (hms : s.rs = true → s.ms ≠ []) (hk : k = 3 ∨ k = 4 ∨ (k = 2 ∧ 0 < n)) (hn : n ≤ 65536) (hn0 : k ≠ 2 → n = 0) : (beginC s k n).Ok := by
  have e : (beginC s k n).fk = k := rfl
  refine ⟨fun _ h => by rw [e] at h; omega, by rw [e]; omega, fun h => by rw [e] at h; show 0 < n; omega, hn, fun h => ?_, fun h => ?_, h7, fun _ => hst, fun h _ => hms h, ?_, fun h => hn0 h⟩
  · rw [e] at h
    refine ⟨Dc.new, ?_, ok_new, fun _ => rfl, by decide⟩
    unfold beginC; simp only; rw [if_pos h]
  · rw [e] at h
    unfold beginC; simp only; rw [if_neg h]; exact hdc
  · show s.st.length < 8192
    rw [hst]; decide
theorem begin_compl {s : Cn} {k n : Nat} : complB (beginC s k n) = (if k = 2 then decide (n = 0) else if k = 3 then false else decide (k = 1)) := by
  unfold complB beginC
  simp only
  split
  · rfl
  · split
    · rfl
    · rfl
theorem ok_headC {s : Cn} (h : s.Ok) (ha : atHead s) (e : Ev) : (headC s e).1.Ok := by
  have h0 : s.dc = none := h.o6 (by rw [ha.2.1]; decide)
  have hms : s.rs = true → s.ms ≠ [] := fun hr he => ha.2.2 (.inr ⟨hr, he⟩)
  have hE : ∀ c, c ≠ 0 → ({ s with st := [], er := c } : Cn).Ok := fun c hc =>
    ⟨fun h => absurd h hc, .inl ha.2.1, h.o3, h.o4, fun h3 => absurd (ha.2.1.symm.trans h3) (by decide), fun _ => h0, h.o7, fun _ => rfl, fun hr _ => hms hr, by simp, h.o11⟩
  unfold headC
  split
  · exact hE 5 (by decide)
  · rename_i h64
    split
    · rename_i hf; exact hE _ hf
    · rename_i hf
      have hz : (frC s e).1 = 0 := by omega
      have h7 := h.o7
      split
      · exact ⟨fun _ _ => hdR_nil _, .inl ha.2.1, h.o3, h.o4, fun h3 => absurd (ha.2.1.symm.trans h3) (by decide), fun _ => h0, by simp only; omega, fun _ => rfl, fun hr _ => hms hr, by simp, h.o11⟩
      · unfold offC
        rw [begin_compl]
        rcases frC_kind hz with hk | hk | hk | ⟨n, hn, hk⟩
        · rw [hk]; exact ok_end (by show s.hd + 1 ≤ 64; omega) rfl
        · rw [hk]; exact ok_begin (by simp only; omega) rfl h0 hms (.inr (.inl rfl)) (by simp) (fun _ => rfl)
        · rw [hk]; exact ok_begin (by simp only; omega) rfl h0 hms (.inl rfl) (by simp) (fun _ => rfl)
        · rw [hk]
          simp only [if_pos]
          by_cases hn0 : n = 0
          · rw [decide_eq_true hn0]; exact ok_end (by show s.hd + 1 ≤ 64; omega) rfl
          · rw [decide_eq_false hn0]; exact ok_begin (by simp only; omega) rfl h0 hms (.inr (.inr ⟨rfl, by omega⟩)) hn (fun h => absurd rfl h)
theorem ok_stepC {s : Cn} (h : s.Ok) (c : UInt8) : (stepC s c).1.Ok := by
  unfold stepC
  split
  · exact h
  · rename_i her
    have he : s.er = 0 := by omega
    split
    · rename_i hk
      have hst := h.o8 hk
      unfold bodyC
      split
      · rename_i h2
        have hfl := h.o3 h2
        have h4 := h.o4
        unfold offC complB
        simp only
        rw [if_pos h2]
        by_cases hz : s.fl - 1 = 0
        · rw [decide_eq_true hz]; exact ok_end h.o7 hst
        · rw [decide_eq_false hz]
          exact ⟨fun _ hz => absurd hz hk, h.o2, fun _ => by (show 0 < s.fl - 1); omega, by (show s.fl - 1 ≤ 65536); omega, h.o5, h.o6, h.o7, h.o8, h.o9, h.o10, fun hn => absurd h2 hn⟩
      · rename_i h2
        split
        · rename_i h3
          obtain ⟨d, hd, hok, hde, h8⟩ := h.o5 h3
          rw [hd]
          simp only
          unfold offC
          rw [doneO_dec s _ h3]
          by_cases hp : (wrD d [c]).1.pl = 8
          · rw [decide_eq_true hp]; exact ok_end h.o7 hst
          · rw [decide_eq_false hp]
            have h8' : (decC s (wrD d [c]).1).fk = s.fk := rfl
            exact ⟨fun _ hz => absurd hz hk, h.o2, h.o3, h.o4, fun _ => ⟨_, rfl, wrD_ok _ hok, fun h => h, hp⟩, fun hn => absurd h3 hn, h.o7, h.o8, h.o9, h.o10, h.o11⟩
        · exact h
    · rename_i hk
      have hk0 : s.fk = 0 := by omega
      have h0 : s.dc = none := h.o6 (by omega)
      split
      · exact ⟨fun h => (by cases h), h.o2, h.o3, h.o4, fun h3 => (by rw [hk0] at h3; cases h3), h.o6, h.o7, h.o8, h.o9, h.o10, h.o11⟩
      · rename_i ha
        split
        · rename_i h21
          exact ⟨fun _ _ => h21, h.o2, h.o3, h.o4, h.o5, h.o6, h.o7, fun hn => absurd hk0 hn, h.o9, hdR_len h21, h.o11⟩
        · rename_i h21
          split
          · rename_i hnz
            exact ⟨fun hz => absurd hz hnz, h.o2, h.o3, h.o4, fun h3 => (by rw [hk0] at h3; cases h3), h.o6, h.o7, fun _ => rfl, h.o9, by simp, h.o11⟩
          · exact ok_headC h ⟨he, hk0, ha⟩ _
theorem ok_runC : ∀ (l : List UInt8) {s : Cn}, s.Ok → (runC s l).1.Ok := by
  intro l
  induction l with
  | nil => intro s h; exact h
  | cons c t ih => intro s h; rw [runC]; exact ih (ok_stepC h c)
theorem ok_reqs : Cn.reqs.Ok :=
  ⟨fun _ _ => hdR_nil _, .inl rfl, fun h => (by cases h), by decide, fun h => (by cases h), fun _ => rfl, by decide, fun _ => rfl, fun h _ => (by cases h), by decide, fun _ => rfl⟩
theorem ok_resps (ms : List (List UInt8)) : (Cn.resps ms).Ok :=
  ⟨fun _ _ => hdR_nil _, .inl rfl, fun h => (by cases h), by simp [Cn.resps], fun h => (by cases h), fun _ => rfl, by simp [Cn.resps], fun _ => rfl, fun _ h => absurd rfl h, by simp [Cn.resps], fun _ => rfl⟩
/-- What Close does: the connection, the events. -/
def closeC (s : Cn) : Cn × List Ev :=
  if s.er ≠ 0 then (s, [])
  else if s.fk = 4 then ({ endC s with er := if s.st = [] then 0 else 21, cl := true }, [endE s])
  else ({ s with er := if s.fk = 0 ∧ s.st = [] then 0 else 21, cl := true }, [])
theorem closeC_stop {s : Cn} (h : s.er ≠ 0) : closeC s = (s, []) := by unfold closeC; rw [if_pos h]
theorem ok_closeC {s : Cn} (h : s.Ok) : (closeC s).1.Ok := by
  unfold closeC
  split
  · exact h
  · rename_i he
    have he0 : s.er = 0 := by omega
    split
    · rename_i h4
      have hst := h.o8 (by omega)
      have hk := ok_end (s := s) h.o7 hst
      rw [if_pos hst]
      refine ⟨fun _ _ => ?_, hk.o2, hk.o3, hk.o4, fun h3 => (by cases h3), hk.o6, hk.o7, hk.o8, hk.o9, hk.o10, hk.o11⟩
      show (hdR s.rs s.st).1 = 21
      rw [hst]; exact hdR_nil _
    · rename_i h4
      exact ⟨fun _ hk => h.o1 he0 hk, h.o2, h.o3, h.o4, fun h3 => (by obtain ⟨d, a, b, c, e⟩ := h.o5 h3; exact ⟨d, a, b, fun _ => c he0, e⟩), h.o6, h.o7, h.o8, h.o9, h.o10, h.o11⟩
/-- Writing bytes one after the other, and joining what comes of it. -/
theorem joinE_more {m raw x : List Ev} (h : joinE m = joinE raw) : joinE (m ++ joinE x) = joinE (raw ++ x) := by
  rw [joinE_app, h, fold_join, ← joinE_app]
end Go.Proofs.YtfmgfcddnnggeaaGreatDoor
