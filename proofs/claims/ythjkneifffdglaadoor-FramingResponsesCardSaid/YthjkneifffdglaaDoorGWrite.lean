/- Requests, written and read again. -/
import Derived.Test.YthjkneifffdglaaDoorGReq
namespace Go.Proofs.YthjkneifffdglaaDoor

section
variable {nm vl hs : List UInt8 → Option (List UInt8)} {lw : List UInt8 → List UInt8}
/-- A field with its host in lower case. -/
def lowH (lw : List UInt8 → List UInt8) (f : List UInt8 × List UInt8) : List UInt8 × List UInt8 := (f.1, if lw f.1 = hostN then lw f.2 else f.2)
theorem hostF_some (F : Flk nm vl hs lw) : ∀ {fs : Fs} {p : Fs × Nat}, hostF hs lw fs = some p → p.1 = fs.map (lowH lw) ∧ p.2 = (fs.filter fun f => decide (lw f.1 = hostN)).length ∧ ∀ f ∈ p.1, lw f.1 = hostN → hs f.2 = some f.2 := by
  intro fs
  induction fs with
  | nil => intro p h; obtain rfl := Option.some.inj h; exact ⟨rfl, rfl, by simp⟩
  | cons f r ih =>
    intro p h
    rw [hostF] at h
    by_cases hf : lw f.1 = hostN
    · rw [if_pos hf] at h
      cases h1 : hs f.2 with
      | none => rw [h1] at h; cases h
      | some y =>
        rw [h1] at h
        cases h2 : hostF hs lw r with
        | none => rw [h2] at h; cases h
        | some p' =>
          rw [h2] at h
          obtain rfl := Option.some.inj h
          obtain ⟨e1, e2, e3⟩ := ih h2
          refine ⟨?_, ?_, ?_⟩
          · rw [List.map_cons, ← e1]; unfold lowH; rw [if_pos hf, F.hs_lw h1]
          · rw [List.filter_cons_of_pos (by simpa using hf), List.length_cons, ← e2]
          · intro g hg hgn
            rcases List.mem_cons.1 hg with rfl | hg
            · exact F.hs_id h1
            · exact e3 g hg hgn
    · rw [if_neg hf] at h
      cases h2 : hostF hs lw r with
      | none => rw [h2] at h; cases h
      | some p' =>
        rw [h2] at h
        obtain rfl := Option.some.inj h
        obtain ⟨e1, e2, e3⟩ := ih h2
        refine ⟨?_, ?_, ?_⟩
        · rw [List.map_cons, ← e1]; unfold lowH; rw [if_neg hf]
        · rw [List.filter_cons_of_neg (by simpa using hf), ← e2]
        · intro g hg hgn
          rcases List.mem_cons.1 hg with rfl | hg
          · exact absurd hgn hf
          · exact e3 g hg hgn
/-- Fields whose hosts are canonical stay as they are. -/
theorem hostF_of : ∀ {fs : Fs}, (∀ f ∈ fs, lw f.1 = hostN → hs f.2 = some f.2) → hostF hs lw fs = some (fs, (fs.filter fun f => decide (lw f.1 = hostN)).length) := by
  intro fs
  induction fs with
  | nil => intro _; rfl
  | cons f r ih =>
    intro h
    rw [hostF, ih fun g hg => h g (by simp [hg])]
    by_cases hf : lw f.1 = hostN
    · rw [if_pos hf, h f (by simp) hf, List.filter_cons_of_pos (by simpa using hf)]; rfl
    · rw [if_neg hf, List.filter_cons_of_neg (by simpa using hf)]; rfl
theorem hosted_some (F : Flk nm vl hs lw) {fs fs' : Fs} (h : hosted hs lw fs = some fs') : fs' = fs.map (lowH lw) ∧ (fs.filter fun f => decide (lw f.1 = hostN)).length = 1 ∧ ∀ f ∈ fs', lw f.1 = hostN → hs f.2 = some f.2 := by
  unfold hosted at h
  cases h1 : hostF hs lw fs with
  | none => rw [h1] at h; cases h
  | some p =>
    rw [h1] at h
    obtain ⟨e1, e2, e3⟩ := hostF_some F h1
    by_cases h2 : p.2 = 1
    · simp only [Option.bind_some, if_pos h2] at h
      obtain rfl := Option.some.inj h
      exact ⟨e1, by rw [← e2]; exact h2, e3⟩
    · simp only [Option.bind_some, if_neg h2] at h; cases h
theorem hosted_of {fs : Fs} (h : ∀ f ∈ fs, lw f.1 = hostN → hs f.2 = some f.2) (hn : (fs.filter fun f => decide (lw f.1 = hostN)).length = 1) : hosted hs lw fs = some fs := by
  unfold hosted
  rw [hostF_of h]
  simp [hn]
/-- A field that can be written: its name and its value are right. -/
def GoodF (nm vl : List UInt8 → Option (List UInt8)) (lw : List UInt8 → List UInt8) (f : List UInt8 × List UInt8) : Prop := nm f.1 = some (lw f.1) ∧ vl f.2 = some f.2
theorem good_mem (F : Flk nm vl hs lw) {fs : Fs} (h : goodB nm vl fs = true) : ∀ f ∈ fs, GoodF nm vl lw f := by
  intro f hf
  unfold goodB at h
  rw [List.all_eq_true] at h
  have := h f hf
  simp only [Bool.and_eq_true, decide_eq_true_eq] at this
  obtain ⟨h1, h2⟩ := this
  cases h3 : nm f.1 with
  | none => rw [h3] at h1; cases h1
  | some y => exact ⟨by rw [h3, F.nm_lw h3], h2⟩
theorem mem_good {fs : Fs} (h : ∀ f ∈ fs, GoodF nm vl lw f) : goodB nm vl fs = true := by
  unfold goodB
  rw [List.all_eq_true]
  intro f hf
  rw [(h f hf).1, (h f hf).2]; simp
theorem good_lowH (F : Flk nm vl hs lw) {fs fs' : Fs} (h : ∀ f ∈ fs, GoodF nm vl lw f) (hh : hosted hs lw fs = some fs') : ∀ f ∈ fs', GoodF nm vl lw f := by
  obtain ⟨e1, _, e3⟩ := hosted_some F hh
  intro f hf
  by_cases hn : lw f.1 = hostN
  · have := e3 f hf hn
    rw [e1] at hf
    obtain ⟨g, hg, rfl⟩ := List.mem_map.1 hf
    exact ⟨(h g hg).1, F.hs_vl this⟩
  · rw [e1] at hf
    obtain ⟨g, hg, rfl⟩ := List.mem_map.1 hf
    have hn' : ¬ lw g.1 = hostN := hn
    have : lowH lw g = g := by unfold lowH; rw [if_neg hn']
    rw [this]; exact h g hg
theorem lineW_eq {f : List UInt8 × List UInt8} (h : GoodF nm vl lw f) : lineW nm f = lw f.1 ++ 58 :: 32 :: f.2 := by unfold lineW; rw [h.1]; rfl
theorem readF_line (F : Flk nm vl hs lw) {f : List UInt8 × List UInt8} (h : GoodF nm vl lw f) : readF nm vl (lineW nm f) = (0, lw f.1, f.2) := by
  have hy := F.nm_id h.1
  obtain ⟨hne, hc⟩ := F.nm_ok hy
  have h58 : 58 ∉ lw f.1 := fun hm => (hc 58 hm).2.2.2.1 rfl
  have hws : (lw f.1).any wsB = false := by
    rw [List.any_eq_false]
    intro c hm
    have := hc c hm
    simp [wsB, this.2.2.2.2.1, this.2.2.2.2.2]
  have hhd : (lw f.1 ++ 58 :: 32 :: f.2).head?.any wsB = false := by
    cases hl : lw f.1 with
    | nil => exact absurd hl hne
    | cons c t =>
      rw [hl, List.any_cons, Bool.or_eq_false_iff] at hws
      exact hws.1
  rw [lineW_eq h]
  unfold readF
  rw [hhd, cut1_at h58]
  simp only [Bool.false_eq_true, if_false, if_neg hne, hws, hy, F.vl_sp h.2]
theorem line_clean (F : Flk nm vl hs lw) {f : List UInt8 × List UInt8} (h : GoodF nm vl lw f) : Clean (lineW nm f) ∧ lineW nm f ≠ [] := by
  obtain ⟨_, hc⟩ := F.nm_ok (F.nm_id h.1)
  rw [lineW_eq h]
  refine ⟨clean_app.2 ⟨fun c hm => ⟨(hc c hm).1, (hc c hm).2.1, (hc c hm).2.2.1⟩, clean_cons.2 ⟨by decide, clean_cons.2 ⟨by decide, F.vl_ok h.2⟩⟩⟩, by simp⟩
theorem readFs_lines (F : Flk nm vl hs lw) : ∀ {fs : Fs}, (∀ f ∈ fs, GoodF nm vl lw f) → readFs nm vl (fs.map (lineW nm)) = (0, fs.map fun f => (lw f.1, f.2)) := by
  intro fs
  induction fs with
  | nil => intro _; rfl
  | cons f r ih =>
    intro h
    rw [List.map_cons, readFs, readF_line F (h f (by simp)), ih fun g hg => h g (by simp [hg])]
    simp
theorem lines_len : ∀ {fs fs' : Fs}, fs' = fs.map (lowH lw) → (∀ x, (lw x).length = x.length) → (flat (fs'.map (lineW nm))).length = (flat (fs.map (lineW nm))).length := by
  intro fs
  induction fs with
  | nil => intro fs' h _; rw [h]; rfl
  | cons f r ih =>
    intro fs' h hl
    have := ih (fs' := r.map (lowH lw)) rfl hl
    rw [h, List.map_cons, List.map_cons, List.map_cons, flat_cons, flat_cons, List.length_append, List.length_append, List.length_cons, List.length_cons, List.length_cons, List.length_cons, this]
    have e : (lineW nm (lowH lw f)).length = (lineW nm f).length := by
      unfold lineW lowH
      simp only [List.length_append, List.length_cons]
      split <;> simp [hl]
    rw [e]
theorem encH_len (x : List UInt8) (ls : List (List UInt8)) : (enc (x :: ls)).length = x.length + 4 + (flat ls).length := by rw [enc_cons]; simp [enc]; omega
/-- What is written is read again: names and the host are in lower case. -/
theorem writeQ_read (F : Flk nm vl hs lw) {m t b : List UInt8} {fs : Fs} (h : writeQ nm vl hs lw (m, t, fs) = (0, b)) (r : List UInt8) :
    readQ nm vl hs lw (b ++ r) = (0, (m, t, fs.map fun f => (lw f.1, (lowH lw f).2)), b.length) := by
  unfold writeQ at h
  simp only at h
  by_cases h1 : 64 < fs.length ∨ 8192 < (enc (startQ m t :: fs.map (lineW nm))).length
  · rw [if_pos h1] at h; exact absurd (congrArg Prod.fst h) (by simp)
  rw [if_neg h1] at h
  by_cases h2 : methodB m = false
  · rw [if_pos h2] at h; exact absurd (congrArg Prod.fst h) (by simp)
  rw [if_neg h2] at h
  by_cases h3 : targetB m t = false
  · rw [if_pos h3] at h; exact absurd (congrArg Prod.fst h) (by simp)
  rw [if_neg h3] at h
  by_cases h4 : goodB nm vl fs = false
  · rw [if_pos h4] at h; exact absurd (congrArg Prod.fst h) (by simp)
  rw [if_neg h4] at h
  cases h5 : hosted hs lw fs with
  | none => rw [h5] at h; exact absurd (congrArg Prod.fst h) (by simp)
  | some fs' =>
    rw [h5] at h
    simp only [Prod.mk.injEq, true_and] at h
    subst h
    simp only [not_or, Bool.not_eq_false] at h1 h2 h3 h4
    obtain ⟨e1, e2, e3⟩ := hosted_some F h5
    have hg := good_lowH F (good_mem F h4) h5
    have hlen : fs'.length = fs.length := by rw [e1, List.length_map]
    have hfl : (fs'.map fun f => (lw f.1, f.2)) = fs.map fun f => (lw f.1, (lowH lw f).2) := by rw [e1, List.map_map]; rfl
    have hh : hosted hs lw (fs'.map fun f => (lw f.1, f.2)) = some (fs'.map fun f => (lw f.1, f.2)) := by
      apply hosted_of
      · intro f hf hn
        obtain ⟨g, hg2, rfl⟩ := List.mem_map.1 hf
        simp only [F.lw_id] at hn
        exact e3 g hg2 hn
      · rw [hfl, List.filter_map, List.length_map]
        have : ((fun f : List UInt8 × List UInt8 => decide (lw f.1 = hostN)) ∘ fun f => (lw f.1, (lowH lw f).2)) = fun f => decide (lw f.1 = hostN) := by funext f; simp [F.lw_id]
        rw [this]; exact e2
    rw [← hfl]
    refine readQ_of h2 h3 (readFs_lines F hg) hh (fun x hx => ?_) ?_ (by rw [List.length_map]; omega) r
    · obtain ⟨f, hf, rfl⟩ := List.mem_map.1 hx
      exact line_clean F (hg f hf)
    · rw [encH_len, lines_len e1 F.lw_len, ← encH_len]; omega
/-- A line that is read as a field: the field's own line is at most a byte longer. -/
theorem readF_some (F : Flk nm vl hs lw) {l : List UInt8} {f : List UInt8 × List UInt8} (h : readF nm vl l = (0, f)) : nm f.1 = some f.1 ∧ lw f.1 = f.1 ∧ vl f.2 = some f.2 ∧ f.1.length + f.2.length + 1 ≤ l.length := by
  unfold readF at h
  by_cases h1 : l.head?.any wsB = true
  · rw [if_pos h1] at h; exact absurd (congrArg Prod.fst h) (by simp)
  rw [if_neg h1] at h
  cases h2 : cut1 58 l with
  | none => rw [h2] at h; exact absurd (congrArg Prod.fst h) (by simp)
  | some p =>
    obtain ⟨b, a⟩ := p
    rw [h2] at h
    simp only at h
    by_cases h3 : b = []
    · rw [if_pos h3] at h; exact absurd (congrArg Prod.fst h) (by simp)
    rw [if_neg h3] at h
    by_cases h4 : b.any wsB = true
    · rw [if_pos h4] at h; exact absurd (congrArg Prod.fst h) (by simp)
    rw [if_neg h4] at h
    cases h5 : nm b with
    | none => rw [h5] at h; exact absurd (congrArg Prod.fst h) (by simp)
    | some y =>
      rw [h5] at h
      cases h6 : vl a with
      | none => rw [h6] at h; exact absurd (congrArg Prod.fst h) (by simp)
      | some v =>
        rw [h6] at h
        simp only [Prod.mk.injEq, true_and] at h
        subst h
        have e := F.nm_lw h5
        obtain ⟨e1, _⟩ := cut1_some h2
        refine ⟨F.nm_id h5, by rw [e, F.lw_id], (F.vl_id h6).1, ?_⟩
        have := (F.vl_id h6).2
        show y.length + v.length + 1 ≤ l.length
        rw [e1, e, F.lw_len, List.length_append, List.length_cons]
        omega
theorem readFs_some (F : Flk nm vl hs lw) : ∀ {ls : List (List UInt8)} {fs : Fs}, readFs nm vl ls = (0, fs) → fs.length = ls.length ∧ (∀ f ∈ fs, nm f.1 = some f.1 ∧ lw f.1 = f.1 ∧ vl f.2 = some f.2) ∧ (flat (fs.map (lineW nm))).length ≤ (flat ls).length + ls.length := by
  intro ls
  induction ls with
  | nil => intro fs h; simp only [readFs, Prod.mk.injEq, true_and] at h; subst h; exact ⟨rfl, by simp, by simp [flat]⟩
  | cons l r ih =>
    intro fs h
    rw [readFs] at h
    by_cases h1 : (readF nm vl l).1 ≠ 0
    · rw [if_pos h1] at h; exact absurd (congrArg Prod.fst h) h1
    rw [if_neg h1] at h
    by_cases h2 : (readFs nm vl r).1 ≠ 0
    · rw [if_pos h2] at h; exact absurd (congrArg Prod.fst h) h2
    rw [if_neg h2] at h
    simp only [Prod.mk.injEq, true_and] at h
    subst h
    simp only [ne_eq, Decidable.not_not] at h1 h2
    obtain ⟨a1, a2, a3, a4⟩ := readF_some F (l := l) (f := (readF nm vl l).2) (Prod.ext h1 rfl)
    obtain ⟨b1, b2, b3⟩ := ih (fs := (readFs nm vl r).2) (Prod.ext h2 rfl)
    refine ⟨by simp [b1], ?_, ?_⟩
    · intro f hf
      rcases List.mem_cons.1 hf with rfl | hf
      · exact ⟨a1, a2, a3⟩
      · exact b2 f hf
    · rw [List.map_cons, flat_cons, flat_cons]
      have e : (lineW nm (readF nm vl l).2).length = (readF nm vl l).2.1.length + (readF nm vl l).2.2.length + 2 := by
        unfold lineW; rw [a1]; simp; omega
      simp only [List.length_append, List.length_cons, e]
      omega
/-- What is read can be written (unless the canonical head is too long), and is read again as the same request. -/
theorem readQ_write (F : Flk nm vl hs lw) {s m t : List UInt8} {fs : Fs} {n : Nat} (h : readQ nm vl hs lw s = (0, (m, t, fs), n)) :
    (writeQ nm vl hs lw (m, t, fs) = (5, []) ∧ 8192 < n + 64) ∨ ∃ b, writeQ nm vl hs lw (m, t, fs) = (0, b) ∧ readQ nm vl hs lw b = (0, (m, t, fs), b.length) := by
  obtain ⟨h1, h2, ls, fs0, h3, h4, h5, h6, h7, h8, h9, h10⟩ := readQ_some h
  obtain ⟨a1, a2, a3⟩ := readFs_some F h3
  obtain ⟨e1, e2, e3⟩ := hosted_some F h4
  have hg0 : ∀ f ∈ fs0, GoodF nm vl lw f := fun f hf => ⟨by rw [(a2 f hf).2.1]; exact (a2 f hf).1, (a2 f hf).2.2⟩
  have hg := good_lowH F hg0 h4
  have hlen : fs.length = fs0.length := by rw [e1, List.length_map]
  have hself : ∀ f ∈ fs, lw f.1 = f.1 := fun f hf => by
    rw [e1] at hf
    obtain ⟨g, hg2, rfl⟩ := List.mem_map.1 hf
    exact (a2 g hg2).2.1
  have hcount : (fs.filter fun f => decide (lw f.1 = hostN)).length = 1 := by
    rw [e1, List.filter_map, List.length_map]
    exact e2
  have hh : hosted hs lw fs = some fs := hosted_of e3 hcount
  have hbl : (enc (startQ m t :: fs.map (lineW nm))).length ≤ n + ls.length := by
    rw [h7, encH_len, encH_len, lines_len e1 F.lw_len]; omega
  by_cases hbig : 8192 < (enc (startQ m t :: fs.map (lineW nm))).length
  · left
    refine ⟨?_, by omega⟩
    unfold writeQ
    rw [if_pos (.inr hbig)]
  · right
    have hw : writeQ nm vl hs lw (m, t, fs) = (0, enc (startQ m t :: fs.map (lineW nm))) := by
      unfold writeQ
      rw [if_neg (show ¬ (64 < fs.length ∨ _) by rintro (x | x); omega; exact hbig x)]
      simp only
      rw [if_neg (by rw [h1]; decide), if_neg (by rw [h2]; decide), if_neg (by rw [mem_good hg]; decide), hh]
    refine ⟨_, hw, ?_⟩
    have := writeQ_read F hw []
    rw [List.append_nil] at this
    rw [this]
    have e : (fs.map fun f => (lw f.1, (lowH lw f).2)) = fs := by
      conv => rhs; rw [← List.map_id fs]
      apply List.map_congr_left
      intro f hf
      have e4 := hself f hf
      have e5 : (lowH lw f).2 = f.2 := by
        unfold lowH
        simp only
        by_cases hn : lw f.1 = hostN
        · rw [if_pos hn]; exact (F.hs_lw (e3 f hf hn)).symm
        · rw [if_neg hn]
      rw [e4, e5]; rfl
    rw [e]
end
end Go.Proofs.YthjkneifffdglaaDoor
