/- The reference's Write, plain: its machine over bytes says what the program's says. -/
import Derived.Test.YtikkaakgehaenaaDoorKRefS
namespace Go.Proofs.YtikkaakgehaenaaDoor

theorem rsok_sized {r : Rs} (h : RsOk r) (hp : r.p = 0 ∨ r.p = 1) (c : UInt8) (hb : (sizedR r c).bad = 0) : RsOk (sizedR r c) := by
  obtain ⟨b1, b2, b3, b4, b5, b6, b7, b8, b9, b10, b11, b12, b13⟩ := h
  have htn : r.tt + r.n ≤ 65536 := by rcases hp with h | h; exact b8 h; exact b9 h
  unfold sizedR at hb ⊢
  split at hb
  · rename_i q; rw [if_pos q]
    exact ⟨by simp, b2, b3, b4, b5, b6, fun e => by simp at e, fun e => by simp at e, fun e => by simp at e, fun _ => htn, b11, b12, b13⟩
  · rename_i q; rw [if_neg q]
    split at hb
    · simp [badR] at hb
    · rename_i q2; rw [if_neg q2]
      split at hb
      · rename_i q3; rw [if_pos q3]
        split at hb
        · simp [badR] at hb
        · rename_i q4; rw [if_neg q4]
          exact ⟨b1, b2, b3, by simp only; omega, b5, b6, fun e => by simp only at e; omega, fun _ => htn, fun _ => htn, fun _ => htn, b11, b12, b13⟩
      · rename_i q3; rw [if_neg q3]
        split at hb
        · rename_i q4; rw [if_pos q4]
          exact ⟨by simp, b2, b3, by simp only; omega, b5, b6, fun e => by simp at e, fun _ => htn, fun _ => htn, fun _ => htn, b11, b12, b13⟩
        · rename_i q4; rw [if_neg q4]
          cases hv : hexV c with
          | none => rw [hv] at hb; simp [badR] at hb
          | some v =>
            have hvl := hexV_lt hv
            rw [hv] at hb
            simp only at hb ⊢
            split at hb
            · simp [badR] at hb
            · rename_i q5; rw [if_neg q5]
              split at hb
              · simp at hb
              · rename_i q6; rw [if_neg q6]
                exact ⟨b1, by simp only; omega, by simp only; omega, by simp only; omega, b5, b6, fun e => by simp only at e; omega, fun _ => by simp only; omega, fun _ => by simp only; omega, fun _ => by simp only; omega, b11, b12, b13⟩
theorem rsok_ended {r : Rs} (h : RsOk r) (hp : r.p = 6 ∨ r.p = 7) (c : UInt8) (hb : (endedR r c).bad = 0) : RsOk (endedR r c) := by
  obtain ⟨b1, b2, b3, b4, b5, b6, b7, b8, b9, b10, b11, b12, b13⟩ := h
  unfold endedR at hb ⊢
  split at hb
  · simp [badR] at hb
  · rename_i q; rw [if_neg q]
    have hse : r.se ≠ 8192 := fun e => q (.inl e)
    split at hb
    · rename_i q2; rw [if_pos q2]
      exact ⟨by simp, b2, b3, b4, b5, b6, fun e => by simp at e, fun e => by simp at e, fun e => by simp at e, fun e => by simp at e, by simp only; omega, by simp only; omega, b13⟩
    · rename_i q2; rw [if_neg q2]
      split at hb
      · rename_i q3; rw [if_pos q3]
        exact ⟨b1, b2, b3, b4, b5, b6, fun e => by simp only at e; omega, fun e => by simp only at e; omega, fun e => by simp only at e; omega, fun e => by simp only at e; omega, by simp only; omega, by simp; omega, b13⟩
      · rename_i q3; rw [if_neg q3]
        split at hb
        · rename_i q4; rw [if_pos q4]
          exact ⟨by simp, b2, b3, b4, b5, b6, fun e => by simp at e, fun e => by simp at e, fun e => by simp at e, fun e => by simp at e, by simp only; omega, by simp only; omega, b13⟩
        · rename_i q4; rw [if_neg q4]
          split at hb
          · simp [badR] at hb
          · rename_i q5; rw [if_neg q5]
            have hfs : r.fs.length ≠ 64 := fun e => q5 (.inr e)
            exact ⟨by simp, b2, b3, b4, b5, b6, fun e => by simp at e, fun e => by simp at e, fun e => by simp at e, fun e => by simp at e, by simp only; omega, by simp, by simp; omega⟩
/-- A step without an error keeps the bounds. -/
theorem rsok_step {r : Rs} (h : RsOk r) (h8 : r.p ≠ 8) (c : UInt8) (hb : (stepR r c).bad = 0) : RsOk (stepR r c) := by
  have hok := h
  obtain ⟨b1, b2, b3, b4, b5, b6, b7, b8, b9, b10, b11, b12, b13⟩ := h
  unfold stepR at hb ⊢
  split at hb
  · rename_i q; rw [if_pos q]; exact rsok_sized hok q c hb
  · rename_i q; rw [if_neg q]
    split at hb
    · rename_i q2; rw [if_pos q2]
      have htn := b10 q2
      split at hb
      · simp [badR] at hb
      · rename_i q3; rw [if_neg q3]
        by_cases q4 : r.n = 0
        · rw [if_pos q4]
          exact ⟨by simp, b2, b3, b4, b5, b3, fun e => by simp at e, fun e => by simp at e, fun e => by simp at e, fun e => by simp at e, b11, b12, b13⟩
        · rw [if_neg q4]
          exact ⟨by simp, b2, b3, b4, b5, b3, fun _ => ⟨by simp only; omega, htn⟩, fun e => by simp at e, fun e => by simp at e, fun e => by simp at e, b11, b12, b13⟩
    · rename_i q2; rw [if_neg q2]
      split at hb
      · rename_i q3; rw [if_pos q3]
        obtain ⟨l1, l2⟩ := b7 q3
        by_cases q4 : r.lf - 1 = 0
        · rw [if_pos q4]
          exact ⟨by simp, b2, b3, b4, by simp only; omega, by simp only; omega, fun e => by simp at e, fun e => by simp at e, fun e => by simp at e, fun e => by simp at e, b11, b12, b13⟩
        · rw [if_neg q4]
          exact ⟨by simp, b2, b3, b4, by simp only; omega, by simp only; omega, fun _ => ⟨by simp only; omega, by simp only; omega⟩, fun e => by simp at e, fun e => by simp at e, fun e => by simp at e, b11, b12, b13⟩
      · rename_i q3; rw [if_neg q3]
        split at hb
        · rename_i q4; rw [if_pos q4]
          split at hb
          · simp [badR] at hb
          · rename_i q5; rw [if_neg q5]
            exact ⟨by simp, b2, b3, b4, b5, b6, fun e => by simp at e, fun e => by simp at e, fun e => by simp at e, fun e => by simp at e, b11, b12, b13⟩
        · rename_i q4; rw [if_neg q4]
          split at hb
          · rename_i q5; rw [if_pos q5]
            split at hb
            · simp [badR] at hb
            · rename_i q6; rw [if_neg q6]
              exact ⟨by simp, by simp, by simp, by simp, b5, b6, fun e => by simp at e, fun _ => by simp only; omega, fun e => by simp at e, fun e => by simp at e, b11, b12, b13⟩
          · rename_i q5; rw [if_neg q5]
            exact rsok_ended hok (by omega) c hb
/-- What the reference's Write returns: the state, the data, and how many bytes were taken. -/
def wrR : Rs → List UInt8 → Rs × List UInt8 × Nat
  | r, [] => (r, [], 0)
  | r, c :: l =>
    if r.bad ≠ 0 ∨ r.p = 8 then (r, [], 0)
    else if (stepR r c).bad ≠ 0 then (stepR r c, [], 0)
    else if r.p = 3 then ((wrR (stepR r c) l).1, c :: (wrR (stepR r c) l).2.1, (wrR (stepR r c) l).2.2 + 1)
    else ((wrR (stepR r c) l).1, (wrR (stepR r c) l).2.1, (wrR (stepR r c) l).2.2 + 1)
theorem wrR_stop {r : Rs} (h : r.bad ≠ 0 ∨ r.p = 8) (l : List UInt8) : wrR r l = (r, [], 0) := by
  cases l with
  | nil => rfl
  | cons c t => unfold wrR; rw [if_pos h]
theorem stepR_bad3 {r : Rs} (h : r.p = 3) (hb : r.bad = 0) (c : UInt8) : (stepR r c).bad = 0 := by
  unfold stepR; rw [if_neg (by omega), if_neg (by omega), if_pos h]; exact hb
theorem step_keeps (s : Dc) (c : UInt8) : (stepS s c).2.er = s.er := by
  have hx : ∀ (s : Dc) (c : UInt8) (a b : Nat), (expS s c a b).2.er = s.er := by intro s c a b; unfold expS; split <;> rfl
  have hl : ∀ s : Dc, (lineS s).2.er = s.er := by
    intro s; unfold lineS
    split
    · rfl
    · split
      · rfl
      · split <;> rfl
  unfold stepS
  split
  · unfold sizeS digS
    split
    · split
      · rfl
      · split <;> rfl
    · split
      · rfl
      · split
        · rfl
        · exact hx _ _ _ _
  split
  · unfold extS
    split
    · rfl
    · split <;> rfl
  split
  · unfold endS
    split <;> exact hx _ _ _ _
  split
  · exact hx _ _ _ _
  split
  · exact hx _ _ _ _
  · unfold trlS
    split
    · rfl
    · split
      · exact hl _
      · split <;> rfl
theorem step_er {s : Dc} {c : UInt8} (he : s.er = 0) (_h : (stepS s c).1 = 0) : (stepS s c).2.er = 0 := (step_keeps s c).trans he
/-- The two machines take the same bytes, and find the same data. -/
theorem wr_rel : ∀ (l : List UInt8) {s : Dc} {r : Rs}, RelS s r → s.Ok → RelS (wrD s l).1 (wrR r l).1 ∧ (wrD s l).2 = (wrR r l).2 := by
  intro l
  induction l with
  | nil => intro s r h _; exact ⟨h, rfl⟩
  | cons c t ih =>
    intro s r h hok
    have hb := h.hb
    have hp := h.hp
    by_cases q : s.er ≠ 0 ∨ s.pl = 8
    · rw [wrD_stop q, wrR_stop (by rw [hb, hp]; exact q)]
      exact ⟨h, rfl⟩
    · have he : s.er = 0 := by
        rcases Nat.eq_zero_or_pos s.er with h' | h'
        · exact h'
        · exact absurd (.inl (by omega)) q
      have h8 : s.pl ≠ 8 := fun e => q (.inr e)
      have hs := rel_step h hok he h8 c
      have qr : ¬ (r.bad ≠ 0 ∨ r.p = 8) := by rw [hb, hp]; exact q
      by_cases h3 : s.pl = 3
      · have e1 : afterS s c = dataS s 1 := by unfold afterS; rw [if_pos h3]
        rw [e1] at hs
        have := ih hs (ok_data hok h3 (hok.b10 h3))
        rw [wrD_byte he h8 h3, wrR, if_neg qr, if_neg (by rw [stepR_bad3 (by omega) (by omega)]; simp), if_pos (by omega)]
        exact ⟨this.1, by simp only [Prod.mk.injEq]; rw [this.2]; simp⟩
      · by_cases h0 : (stepS s c).1 = 0
        · have e1 : afterS s c = (stepS s c).2 := by unfold afterS; rw [if_neg h3, if_pos h0]
          rw [e1] at hs
          have hk := ok_step hok h3 h8 c
          have := ih hs hk
          have hz : (stepR r c).bad = 0 := by
            rw [hs.hb]
            exact step_er he h0
          rw [wrD_step he h8 h3 h0, wrR, if_neg qr, if_neg (by rw [hz]; simp), if_neg (by omega)]
          exact ⟨this.1, by simp only [Prod.mk.injEq]; rw [this.2]; simp⟩
        · have e1 : afterS s c = { (stepS s c).2 with er := (stepS s c).1 } := by unfold afterS; rw [if_neg h3, if_neg h0]
          rw [e1] at hs
          have hz : (stepR r c).bad ≠ 0 := by rw [hs.hb]; exact h0
          rw [wrD_bad he h8 h3 h0, wrR, if_neg qr, if_pos hz]
          exact ⟨hs, rfl⟩
theorem wrR_app : ∀ (a : List UInt8) (s : Rs) (b : List UInt8),
    wrR s (a ++ b) = ((wrR (wrR s a).1 b).1, (wrR s a).2.1 ++ (wrR (wrR s a).1 b).2.1, (wrR s a).2.2 + (wrR (wrR s a).1 b).2.2) := by
  intro a
  induction a with
  | nil => intro s b; simp [wrR]
  | cons c t ih =>
    intro s b
    by_cases h : s.bad ≠ 0 ∨ s.p = 8
    · rw [wrR_stop h, wrR_stop h, wrR_stop h]; simp
    · rw [List.cons_append, wrR, if_neg h, wrR, if_neg h]
      by_cases h0 : (stepR s c).bad ≠ 0
      · rw [if_pos h0, if_pos h0, wrR_stop (.inl h0)]; simp
      · rw [if_neg h0, if_neg h0]
        by_cases h3 : s.p = 3
        · rw [if_pos h3, if_pos h3, ih]; simp; omega
        · rw [if_neg h3, if_neg h3, ih]; simp; omega
/-- The bounds hold of every state without an error that the machine comes to. -/
theorem wrR_ok : ∀ (l : List UInt8) {r : Rs}, RsOk r → (wrR r l).1.bad = 0 → RsOk (wrR r l).1 := by
  intro l
  induction l with
  | nil => intro r h _; exact h
  | cons c t ih =>
    intro r h hz
    by_cases q : r.bad ≠ 0 ∨ r.p = 8
    · rw [wrR_stop q]; exact h
    · have h8 : r.p ≠ 8 := fun e => q (.inr e)
      rw [wrR, if_neg q] at hz ⊢
      by_cases h0 : (stepR r c).bad ≠ 0
      · rw [if_pos h0] at hz; exact absurd hz h0
      · rw [if_neg h0] at hz ⊢
        have h0' : (stepR r c).bad = 0 := by omega
        have hk := rsok_step h h8 c h0'
        by_cases h3 : r.p = 3
        · rw [if_pos h3] at hz ⊢; exact ih hk hz
        · rw [if_neg h3] at hz ⊢; exact ih hk hz
theorem wrR_len : ∀ (l : List UInt8) (s : Rs), (wrR s l).2.2 ≤ l.length ∧ (wrR s l).2.1.length ≤ (wrR s l).2.2 := by
  intro l
  induction l with
  | nil => intro s; simp [wrR]
  | cons c t ih =>
    intro s
    by_cases h : s.bad ≠ 0 ∨ s.p = 8
    · rw [wrR_stop h]; simp
    · rw [wrR, if_neg h]
      have := ih (stepR s c)
      split
      · simp
      · split <;> simp <;> omega
end Go.Proofs.YtikkaakgehaenaaDoor
