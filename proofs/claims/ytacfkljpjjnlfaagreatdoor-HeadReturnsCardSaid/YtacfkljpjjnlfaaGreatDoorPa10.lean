import Derived.Test.YtacfkljpjjnlfaaGreatDoorPa9
import Derived.Test.YtacfkljpjjnlfaaGreatDoorPa5
import Derived.Test.YtacfkljpjjnlfaaGreatDoorPa1
/- Requests, written and read again. -/
namespace Go.Proofs.YtacfkljpjjnlfaaGreatDoor

section
variable {nm vl hs : List UInt8 → Option (List UInt8)} {lw : List UInt8 → List UInt8}
/-- A field with its host in lower case. -/
def lowH (lw : List UInt8 → List UInt8) (f : List UInt8 × List UInt8) : List UInt8 × List UInt8 := (f.1, if lw f.1 = hostN then lw f.2 else f.2)
theorem hostF_some (F : Flk nm vl hs lw) : ∀ {fs : Fs} {p : Fs × Nat}, hostF hs lw fs = some p → p.1 = fs.map (lowH lw) ∧ p.2 = (fs.filter fun f => decide (lw f.1 = hostN)).length ∧ ∀ f ∈ p.1, lw f.1 = hostN → hs f.2 = some f.2 := by
  intro fs
  induction fs with
  | nil => intro p h; obtain rfl := Option.some.inj h; exact ⟨rfl, rfl, by simp⟩
  | cons f r ih =>
    intro p h
    rw [hostF] at h
    by_cases hf : lw f.1 = hostN
    · rw [if_pos hf] at h
      cases h1 : hs f.2 with
      | none => rw [h1] at h; cases h
      | some y =>
        rw [h1] at h
        cases h2 : hostF hs lw r with
        | none => rw [h2] at h; cases h
        | some p' =>
          rw [h2] at h
          obtain rfl := Option.some.inj h
          obtain ⟨e1, e2, e3⟩ := ih h2
          refine ⟨?_, ?_, ?_⟩
          · rw [List.map_cons, ← e1]; unfold lowH; rw [if_pos hf, F.hs_lw h1]
          · rw [List.filter_cons_of_pos (by simpa using hf), List.length_cons, ← e2]
          · intro g hg hgn
            rcases List.mem_cons.1 hg with rfl | hg
            · exact F.hs_id h1
            · exact e3 g hg hgn
    · rw [if_neg hf] at h
      cases h2 : hostF hs lw r with
      | none => rw [h2] at h; cases h
      | some p' =>
        rw [h2] at h
        obtain rfl := Option.some.inj h
        obtain ⟨e1, e2, e3⟩ := ih h2
        refine ⟨?_, ?_, ?_⟩
        · rw [List.map_cons, ← e1]; unfold lowH; rw [if_neg hf]
        · rw [List.filter_cons_of_neg (by simpa using hf), ← e2]
        · intro g hg hgn
          rcases List.mem_cons.1 hg with rfl | hg
          · exact absurd hgn hf
          · exact e3 g hg hgn
/-- Fields whose hosts are canonical stay as they are. -/
theorem hostF_of : ∀ {fs : Fs}, (∀ f ∈ fs, lw f.1 = hostN → hs f.2 = some f.2) → hostF hs lw fs = some (fs, (fs.filter fun f => decide (lw f.1 = hostN)).length) := by
  intro fs
  induction fs with
  | nil => intro _; rfl
  | cons f r ih =>
    intro h
    rw [hostF, ih fun g hg => h g (by simp [hg])]
    by_cases hf : lw f.1 = hostN
    · rw [if_pos hf, h f (by simp) hf, List.filter_cons_of_pos (by simpa using hf)]; rfl
    · rw [if_neg hf, List.filter_cons_of_neg (by simpa using hf)]; rfl
theorem hosted_some (F : Flk nm vl hs lw) {fs fs' : Fs} (h : hosted hs lw fs = some fs') : fs' = fs.map (lowH lw) ∧ (fs.filter fun f => decide (lw f.1 = hostN)).length = 1 ∧ ∀ f ∈ fs', lw f.1 = hostN → hs f.2 = some f.2 := by
  unfold hosted at h
  cases h1 : hostF hs lw fs with
  | none => rw [h1] at h; cases h
  | some p =>
    rw [h1] at h
    obtain ⟨e1, e2, e3⟩ := hostF_some F h1
    by_cases h2 : p.2 = 1
    · simp only [Option.bind_some, if_pos h2] at h
      obtain rfl := Option.some.inj h
      exact ⟨e1, by rw [← e2]; exact h2, e3⟩
    · simp only [Option.bind_some, if_neg h2] at h; cases h
theorem hosted_of {fs : Fs} (h : ∀ f ∈ fs, lw f.1 = hostN → hs f.2 = some f.2) (hn : (fs.filter fun f => decide (lw f.1 = hostN)).length = 1) : hosted hs lw fs = some fs := by
  unfold hosted
  rw [hostF_of h]
  simp [hn]
/-- A field that can be written: its name and its value are right. -/
def GoodF (nm vl : List UInt8 → Option (List UInt8)) (lw : List UInt8 → List UInt8) (f : List UInt8 × List UInt8) : Prop := nm f.1 = some (lw f.1) ∧ vl f.2 = some f.2
theorem good_mem (F : Flk nm vl hs lw) {fs : Fs} (h : goodB nm vl fs = true) : ∀ f ∈ fs, GoodF nm vl lw f := by
  intro f hf
  unfold goodB at h
  rw [List.all_eq_true] at h
  have := h f hf
  simp only [Bool.and_eq_true, decide_eq_true_eq] at this
  obtain ⟨h1, h2⟩ := this
  cases h3 : nm f.1 with
  | none => rw [h3] at h1; cases h1
  | some y => exact ⟨by rw [h3, F.nm_lw h3], h2⟩
theorem mem_good {fs : Fs} (h : ∀ f ∈ fs, GoodF nm vl lw f) : goodB nm vl fs = true := by
  unfold goodB
  rw [List.all_eq_true]
  intro f hf
  rw [(h f hf).1, (h f hf).2]; simp
theorem good_lowH (F : Flk nm vl hs lw) {fs fs' : Fs} (h : ∀ f ∈ fs, GoodF nm vl lw f) (hh : hosted hs lw fs = some fs') : ∀ f ∈ fs', GoodF nm vl lw f := by
  obtain ⟨e1, _, e3⟩ := hosted_some F hh
  intro f hf
  by_cases hn : lw f.1 = hostN
  · have := e3 f hf hn
    rw [e1] at hf
    obtain ⟨g, hg, rfl⟩ := List.mem_map.1 hf
    exact ⟨(h g hg).1, F.hs_vl this⟩
  · rw [e1] at hf
    obtain ⟨g, hg, rfl⟩ := List.mem_map.1 hf
    have hn' : ¬ lw g.1 = hostN := hn
    have : lowH lw g = g := by unfold lowH; rw [if_neg hn']
    rw [this]; exact h g hg
theorem lineW_eq {f : List UInt8 × List UInt8} (h : GoodF nm vl lw f) : lineW nm f = lw f.1 ++ 58 :: 32 :: f.2 := by unfold lineW; rw [h.1]; rfl
theorem readF_line (F : Flk nm vl hs lw) {f : List UInt8 × List UInt8} (h : GoodF nm vl lw f) : readF nm vl (lineW nm f) = (0, lw f.1, f.2) := by
  have hy := F.nm_id h.1
  obtain ⟨hne, hc⟩ := F.nm_ok hy
  have h58 : 58 ∉ lw f.1 := fun hm => (hc 58 hm).2.2.2.1 rfl
  have hws : (lw f.1).any wsB = false := by
    rw [List.any_eq_false]
    intro c hm
    have := hc c hm
    simp [wsB, this.2.2.2.2.1, this.2.2.2.2.2]
  have hhd : (lw f.1 ++ 58 :: 32 :: f.2).head?.any wsB = false := by
    cases hl : lw f.1 with
    | nil => exact absurd hl hne
    | cons c t =>
      rw [hl, List.any_cons, Bool.or_eq_false_iff] at hws
      exact hws.1
  rw [lineW_eq h]
  unfold readF
  rw [hhd, cut1_at h58]
  simp only [Bool.false_eq_true, if_false, if_neg hne, hws, hy, F.vl_sp h.2]
theorem line_clean (F : Flk nm vl hs lw) {f : List UInt8 × List UInt8} (h : GoodF nm vl lw f) : Clean (lineW nm f) ∧ lineW nm f ≠ [] := by
  obtain ⟨_, hc⟩ := F.nm_ok (F.nm_id h.1)
  rw [lineW_eq h]
  refine ⟨clean_app.2 ⟨fun c hm => ⟨(hc c hm).1, (hc c hm).2.1, (hc c hm).2.2.1⟩, clean_cons.2 ⟨by decide, clean_cons.2 ⟨by decide, F.vl_ok h.2⟩⟩⟩, by simp⟩
theorem readFs_lines (F : Flk nm vl hs lw) : ∀ {fs : Fs}, (∀ f ∈ fs, GoodF nm vl lw f) → readFs nm vl (fs.map (lineW nm)) = (0, fs.map fun f => (lw f.1, f.2)) := by
  intro fs
  induction fs with
  | nil => intro _; rfl
  | cons f r ih =>
    intro h
    rw [List.map_cons, readFs, readF_line F (h f (by simp)), ih fun g hg => h g (by simp [hg])]
    simp
theorem lines_len : ∀ {fs fs' : Fs}, fs' = fs.map (lowH lw) → (∀ x, (lw x).length = x.length) → (flat (fs'.map (lineW nm))).length = (flat (fs.map (lineW nm))).length := by
  intro fs
  induction fs with
  | nil => intro fs' h _; rw [h]; rfl
  | cons f r ih =>
    intro fs' h hl
    have := ih (fs' := r.map (lowH lw)) rfl hl
    rw [h, List.map_cons, List.map_cons, List.map_cons, flat_cons, flat_cons, List.length_append, List.length_append, List.length_cons, List.length_cons, List.length_cons, List.length_cons, this]
    have e : (lineW nm (lowH lw f)).length = (lineW nm f).length := by
      unfold lineW lowH
      simp only [List.length_append, List.length_cons]
      split <;> simp [hl]
    rw [e]
theorem encH_len (x : List UInt8) (ls : List (List UInt8)) : (enc (x :: ls)).length = x.length + 4 + (flat ls).length := by rw [enc_cons]; simp [enc]; omega
/-- What is written is read again: names and the host are in lower case. -/
theorem writeQ_read (F : Flk nm vl hs lw) {m t b : List UInt8} {fs : Fs} (h : writeQ nm vl hs lw (m, t, fs) = (0, b)) (r : List UInt8) :
    readQ nm vl hs lw (b ++ r) = (0, (m, t, fs.map fun f => (lw f.1, (lowH lw f).2)), b.length) := by
  unfold writeQ at h
  simp only at h
  by_cases h1 : 64 < fs.length ∨ 8192 < (enc (startQ m t :: fs.map (lineW nm))).length
  · rw [if_pos h1] at h; exact absurd (congrArg Prod.fst h) (by simp)
  rw [if_neg h1] at h
  by_cases h2 : methodB m = false
  · rw [if_pos h2] at h; exact absurd (congrArg Prod.fst h) (by simp)
  rw [if_neg h2] at h
  by_cases h3 : targetB m t = false
  · rw [if_pos h3] at h; exact absurd (congrArg Prod.fst h) (by simp)
  rw [if_neg h3] at h
  by_cases h4 : goodB nm vl fs = false
  · rw [if_pos h4] at h; exact absurd (congrArg Prod.fst h) (by simp)
  rw [if_neg h4] at h
  cases h5 : hosted hs lw fs with
  | none => rw [h5] at h; exact absurd (congrArg Prod.fst h) (by simp)
  | some fs' =>
    rw [h5] at h
    simp only [Prod.mk.injEq, true_and] at h
    subst h
    simp only [not_or, Bool.not_eq_false] at h1 h2 h3 h4
    obtain ⟨e1, e2, e3⟩ := hosted_some F h5
    have hg := good_lowH F (good_mem F h4) h5
    have hlen : fs'.length = fs.length := by rw [e1, List.length_map]
    have hfl : (fs'.map fun f => (lw f.1, f.2)) = fs.map fun f => (lw f.1, (lowH lw f).2) := by rw [e1, List.map_map]; rfl
    have hh : hosted hs lw (fs'.map fun f => (lw f.1, f.2)) = some (fs'.map fun f => (lw f.1, f.2)) := by
      apply hosted_of
      · intro f hf hn
        obtain ⟨g, hg2, rfl⟩ := List.mem_map.1 hf
        simp only [F.lw_id] at hn
        exact e3 g hg2 hn
      · rw [hfl, List.filter_map, List.length_map]
        have : ((fun f : List UInt8 × List UInt8 => decide (lw f.1 = hostN)) ∘ fun f => (lw f.1, (lowH lw f).2)) = fun f => decide (lw f.1 = hostN) := by funext f; simp [F.lw_id]
        rw [this]; exact e2
    rw [← hfl]
    refine readQ_of h2 h3 (readFs_lines F hg) hh (fun x hx => ?_) ?_ (by rw [List.length_map]; omega) r
    · obtain ⟨f, hf, rfl⟩ := List.mem_map.1 hx
      exact line_clean F (hg f hf)
    · rw [encH_len, lines_len e1 F.lw_len, ← encH_len]; omega
/-- A line that is read as a field: the field's own line is at most a byte longer. -/
theorem readF_some (F : Flk nm vl hs lw) {l : List UInt8} {f : List UInt8 × List UInt8} (h : readF nm vl l = (0, f)) : nm f.1 = some f.1 ∧ lw f.1 = f.1 ∧ vl f.2 = some f.2 ∧ f.1.length + f.2.length + 1 ≤ l.length := by
  unfold readF at h
  by_cases h1 : l.head?.any wsB = true
  · rw [if_pos h1] at h; exact absurd (congrArg Prod.fst h) (by simp)
  rw [if_neg h1] at h
  cases h2 : cut1 58 l with
  | none => rw [h2] at h; exact absurd (congrArg Prod.fst h) (by simp)
  | some p =>
    obtain ⟨b, a⟩ := p
    rw [h2] at h
    simp only at h
    by_cases h3 : b = []
    · rw [if_pos h3] at h; exact absurd (congrArg Prod.fst h) (by simp)
    rw [if_neg h3] at h
    by_cases h4 : b.any wsB = true
    · rw [if_pos h4] at h; exact absurd (congrArg Prod.fst h) (by simp)
    rw [if_neg h4] at h
    cases h5 : nm b with
    | none => rw [h5] at h; exact absurd (congrArg Prod.fst h) (by simp)
    | some y =>
      rw [h5] at h
      cases h6 : vl a with
      | none => rw [h6] at h; exact absurd (congrArg Prod.fst h) (by simp)
      | some v =>
        rw [h6] at h
        simp only [Prod.mk.injEq, true_and] at h
        subst h
        have e := F.nm_lw h5
        obtain ⟨e1, _⟩ := cut1_some h2
        refine ⟨F.nm_id h5, by rw [e, F.lw_id], (F.vl_id h6).1, ?_⟩
        have := (F.vl_id h6).2
        show y.length + v.length + 1 ≤ l.length
        rw [e1, e, F.lw_len, List.length_append, List.length_cons]
        omega
theorem readFs_some (F : Flk nm vl hs lw) : ∀ {ls : List (List UInt8)} {fs : Fs}, readFs nm vl ls = (0, fs) → fs.length = ls.length ∧ (∀ f ∈ fs, nm f.1 = some f.1 ∧ lw f.1 = f.1 ∧ vl f.2 = some f.2) ∧ (flat (fs.map (lineW nm))).length ≤ (flat ls).length + ls.length := by
  intro ls
  induction ls with
  | nil => intro fs h; simp only [readFs, Prod.mk.injEq, true_and] at h; subst h; exact ⟨rfl, by simp, by simp [flat]⟩
  | cons l r ih =>
    intro fs h
    rw [readFs] at h
    by_cases h1 : (readF nm vl l).1 ≠ 0
    · rw [if_pos h1] at h; exact absurd (congrArg Prod.fst h) h1
    rw [if_neg h1] at h
    by_cases h2 : (readFs nm vl r).1 ≠ 0
    · rw [if_pos h2] at h; exact absurd (congrArg Prod.fst h) h2
    rw [if_neg h2] at h
    simp only [Prod.mk.injEq, true_and] at h
    subst h
    simp only [ne_eq, Decidable.not_not] at h1 h2
    obtain ⟨a1, a2, a3, a4⟩ := readF_some F (l := l) (f := (readF nm vl l).2) (Prod.ext h1 rfl)
    obtain ⟨b1, b2, b3⟩ := ih (fs := (readFs nm vl r).2) (Prod.ext h2 rfl)
    refine ⟨by simp [b1], ?_, ?_⟩
    · intro f hf
      rcases List.mem_cons.1 hf with rfl | hf
      · exact ⟨a1, a2, a3⟩
      · exact b2 f hf
    · rw [List.map_cons, flat_cons, flat_cons]
      have e : (lineW nm (readF nm vl l).2).length = (readF nm vl l).2.1.length + (readF nm vl l).2.2.length + 2 := by
        unfold lineW; rw [a1]; simp; omega
      simp only [List.length_append, List.length_cons, e]
      omega
/-- What is read can be written (unless the canonical head is too long), and is read again as the same request. -/
theorem readQ_write (F : Flk nm vl hs lw) {s m t : List UInt8} {fs : Fs} {n : Nat} (h : readQ nm vl hs lw s = (0, (m, t, fs), n)) :
    (writeQ nm vl hs lw (m, t, fs) = (5, []) ∧ 8192 < n + 64) ∨ ∃ b, writeQ nm vl hs lw (m, t, fs) = (0, b) ∧ readQ nm vl hs lw b = (0, (m, t, fs), b.length) := by
  obtain ⟨h1, h2, ls, fs0, h3, h4, h5, h6, h7, h8, h9, h10⟩ := readQ_some h
  obtain ⟨a1, a2, a3⟩ := readFs_some F h3
  obtain ⟨e1, e2, e3⟩ := hosted_some F h4
  have hg0 : ∀ f ∈ fs0, GoodF nm vl lw f := fun f hf => ⟨by rw [(a2 f hf).2.1]; exact (a2 f hf).1, (a2 f hf).2.2⟩
  have hg := good_lowH F hg0 h4
  have hlen : fs.length = fs0.length := by rw [e1, List.length_map]
  have hself : ∀ f ∈ fs, lw f.1 = f.1 := fun f hf => by
    rw [e1] at hf
    obtain ⟨g, hg2, rfl⟩ := List.mem_map.1 hf
    exact (a2 g hg2).2.1
  have hcount : (fs.filter fun f => decide (lw f.1 = hostN)).length = 1 := by
    rw [e1, List.filter_map, List.length_map]
    exact e2
  have hh : hosted hs lw fs = some fs := hosted_of e3 hcount
  have hbl : (enc (startQ m t :: fs.map (lineW nm))).length ≤ n + ls.length := by
    rw [h7, encH_len, encH_len, lines_len e1 F.lw_len]; omega
  by_cases hbig : 8192 < (enc (startQ m t :: fs.map (lineW nm))).length
  · left
    refine ⟨?_, by omega⟩
    unfold writeQ
    rw [if_pos (.inr hbig)]
  · right
    have hw : writeQ nm vl hs lw (m, t, fs) = (0, enc (startQ m t :: fs.map (lineW nm))) := by
      unfold writeQ
      rw [if_neg (show ¬ (64 < fs.length ∨ _) by rintro (x | x); omega; exact hbig x)]
      simp only
      rw [if_neg (by rw [h1]; decide), if_neg (by rw [h2]; decide), if_neg (by rw [mem_good hg]; decide), hh]
    refine ⟨_, hw, ?_⟩
    have := writeQ_read F hw []
    rw [List.append_nil] at this
    rw [this]
    have e : (fs.map fun f => (lw f.1, (lowH lw f).2)) = fs := by
      conv => rhs; rw [← List.map_id fs]
      apply List.map_congr_left
      intro f hf
      have e4 := hself f hf
      have e5 : (lowH lw f).2 = f.2 := by
        unfold lowH
        simp only
        by_cases hn : lw f.1 = hostN
        · rw [if_pos hn]; exact (F.hs_lw (e3 f hf hn)).symm
        · rw [if_neg hn]
      rw [e4, e5]; rfl
    rw [e]
end
end Go.Proofs.YtacfkljpjjnlfaaGreatDoor

/- Responses: reading and writing heads, in lists of bytes; what is written is read again. -/
namespace Go.Proofs.YtacfkljpjjnlfaaGreatDoor

/-- The phrases. -/
def phrases : List (Nat × List UInt8) := [
  (100, [67, 111, 110, 116, 105, 110, 117, 101]),
  (101, [83, 119, 105, 116, 99, 104, 105, 110, 103, 32, 80, 114, 111, 116, 111, 99, 111, 108, 115]),
  (200, [79, 75]),
  (201, [67, 114, 101, 97, 116, 101, 100]),
  (202, [65, 99, 99, 101, 112, 116, 101, 100]),
  (203, [78, 111, 110, 45, 65, 117, 116, 104, 111, 114, 105, 116, 97, 116, 105, 118, 101, 32, 73, 110, 102, 111, 114, 109, 97, 116, 105, 111, 110]),
  (204, [78, 111, 32, 67, 111, 110, 116, 101, 110, 116]),
  (206, [80, 97, 114, 116, 105, 97, 108, 32, 67, 111, 110, 116, 101, 110, 116]),
  (300, [77, 117, 108, 116, 105, 112, 108, 101, 32, 67, 104, 111, 105, 99, 101, 115]),
  (301, [77, 111, 118, 101, 100, 32, 80, 101, 114, 109, 97, 110, 101, 110, 116, 108, 121]),
  (302, [70, 111, 117, 110, 100]),
  (303, [83, 101, 101, 32, 79, 116, 104, 101, 114]),
  (304, [78, 111, 116, 32, 77, 111, 100, 105, 102, 105, 101, 100]),
  (307, [84, 101, 109, 112, 111, 114, 97, 114, 121, 32, 82, 101, 100, 105, 114, 101, 99, 116]),
  (308, [80, 101, 114, 109, 97, 110, 101, 110, 116, 32, 82, 101, 100, 105, 114, 101, 99, 116]),
  (400, [66, 97, 100, 32, 82, 101, 113, 117, 101, 115, 116]),
  (401, [85, 110, 97, 117, 116, 104, 111, 114, 105, 122, 101, 100]),
  (403, [70, 111, 114, 98, 105, 100, 100, 101, 110]),
  (404, [78, 111, 116, 32, 70, 111, 117, 110, 100]),
  (405, [77, 101, 116, 104, 111, 100, 32, 78, 111, 116, 32, 65, 108, 108, 111, 119, 101, 100]),
  (408, [82, 101, 113, 117, 101, 115, 116, 32, 84, 105, 109, 101, 111, 117, 116]),
  (410, [71, 111, 110, 101]),
  (411, [76, 101, 110, 103, 116, 104, 32, 82, 101, 113, 117, 105, 114, 101, 100]),
  (412, [80, 114, 101, 99, 111, 110, 100, 105, 116, 105, 111, 110, 32, 70, 97, 105, 108, 101, 100]),
  (413, [67, 111, 110, 116, 101, 110, 116, 32, 84, 111, 111, 32, 76, 97, 114, 103, 101]),
  (414, [85, 82, 73, 32, 84, 111, 111, 32, 76, 111, 110, 103]),
  (416, [82, 97, 110, 103, 101, 32, 78, 111, 116, 32, 83, 97, 116, 105, 115, 102, 105, 97, 98, 108, 101]),
  (429, [84, 111, 111, 32, 77, 97, 110, 121, 32, 82, 101, 113, 117, 101, 115, 116, 115]),
  (431, [82, 101, 113, 117, 101, 115, 116, 32, 72, 101, 97, 100, 101, 114, 32, 70, 105, 101, 108, 100, 115, 32, 84, 111, 111, 32, 76, 97, 114, 103, 101]),
  (500, [73, 110, 116, 101, 114, 110, 97, 108, 32, 83, 101, 114, 118, 101, 114, 32, 69, 114, 114, 111, 114]),
  (501, [78, 111, 116, 32, 73, 109, 112, 108, 101, 109, 101, 110, 116, 101, 100]),
  (502, [66, 97, 100, 32, 71, 97, 116, 101, 119, 97, 121]),
  (503, [83, 101, 114, 118, 105, 99, 101, 32, 85, 110, 97, 118, 97, 105, 108, 97, 98, 108, 101]),
  (504, [71, 97, 116, 101, 119, 97, 121, 32, 84, 105, 109, 101, 111, 117, 116])]
def reasonL (n : Nat) : List UInt8 := ((phrases.find? fun p => decide (p.1 = n)).map (·.2)).getD []
def ctlG (c : UInt8) : Bool := (decide (c.toNat < 32) && decide (c.toNat ≠ 9)) || decide (c.toNat = 127)
def d3 (n : Nat) : List UInt8 := [UInt8.ofNat (48 + n / 100), UInt8.ofNat (48 + n / 10 % 10), UInt8.ofNat (48 + n % 10)]
def dgB (c : UInt8) : Bool := decide (48 ≤ c.toNat) && decide (c.toNat ≤ 57)
/-- The status of what follows the version; 0 if there is none. -/
def statusN : List UInt8 → Nat
  | a :: b :: c :: r =>
    if (r = [] ∨ r.head? = some 32) ∧ dgB a = true ∧ dgB b = true ∧ dgB c = true ∧ r.any ctlG = false then
      let n := 100 * (a.toNat - 48) + 10 * (b.toNat - 48) + (c.toNat - 48)
      if 100 ≤ n ∧ n ≤ 599 then n else 0
    else 0
  | _ => 0
theorem reason_clean_tab : (phrases.all fun p => p.2.all fun c => !ctlG c) = true := by decide +kernel
theorem reason_noctl (n : Nat) : (reasonL n).any ctlG = false := by
  unfold reasonL
  cases h : phrases.find? fun p => decide (p.1 = n) with
  | none => rfl
  | some p =>
    have := List.all_eq_true.1 reason_clean_tab p (List.mem_of_find?_eq_some h)
    show p.2.any ctlG = false
    rw [List.any_eq_false]
    intro c hc
    have := List.all_eq_true.1 this c hc
    simpa using this
theorem noctl_clean {l : List UInt8} (h : l.any ctlG = false) : Clean l := by
  rw [List.any_eq_false] at h
  intro c hc
  have := h c hc
  refine ⟨?_, ?_, ?_⟩ <;> (rintro rfl; exact this (by decide))
section
variable (nm vl hs : List UInt8 → Option (List UInt8)) (lw : List UInt8 → List UInt8)
abbrev Rp := Nat × Fs
/-- A response, read from its lines. -/
def respL (l : List (List UInt8)) : Nat × Rp :=
  if (cutG 32 (l.headD [])).1 ≠ verL then (28, 0, [])
  else if statusN (cutG 32 (l.headD [])).2 = 0 then (2, 0, [])
  else if (readFs nm vl l.tail).1 ≠ 0 then ((readFs nm vl l.tail).1, 0, [])
  else (0, statusN (cutG 32 (l.headD [])).2, (readFs nm vl l.tail).2)
def readP (s : List UInt8) : Nat × Rp × Nat :=
  if (splitG s).1 ≠ 0 then ((splitG s).1, (0, []), 0)
  else if (respL nm vl (splitG s).2.1).1 ≠ 0 then ((respL nm vl (splitG s).2.1).1, (0, []), 0)
  else (0, (respL nm vl (splitG s).2.1).2, (splitG s).2.2)
/-- The status that is written: 0 for one out of range. -/
def stN (st : Int) : Nat := if st < 100 ∨ 599 < st then 0 else st.toNat
def startP (st : Int) : List UInt8 := verL ++ 32 :: (d3 (stN st) ++ 32 :: reasonL (stN st))
def writeP (st : Int) (fs : Fs) : Nat × List UInt8 :=
  if 64 < fs.length ∨ 8192 < (enc (startP st :: fs.map (lineW nm))).length then (5, [])
  else if stN st = 0 then (2, [])
  else if goodB nm vl fs = false then (25, [])
  else (0, enc (startP st :: fs.map (lineW nm)))
end
section
variable {nm vl hs : List UInt8 → Option (List UInt8)} {lw : List UInt8 → List UInt8}
theorem d3_clean (n : Nat) (h : n ≤ 599) : Clean (d3 n) := by
  intro c hc
  simp only [d3, List.mem_cons, List.not_mem_nil, or_false] at hc
  have key : ∀ k, k ≤ 9 → UInt8.ofNat (48 + k) ≠ 0 ∧ UInt8.ofNat (48 + k) ≠ 13 ∧ UInt8.ofNat (48 + k) ≠ 10 := by
    intro k hk
    have : k = 0 ∨ k = 1 ∨ k = 2 ∨ k = 3 ∨ k = 4 ∨ k = 5 ∨ k = 6 ∨ k = 7 ∨ k = 8 ∨ k = 9 := by omega
    rcases this with rfl | rfl | rfl | rfl | rfl | rfl | rfl | rfl | rfl | rfl <;> decide
  rcases hc with rfl | rfl | rfl
  · exact key _ (by omega)
  · exact key _ (by omega)
  · exact key _ (by omega)
theorem d3_toNat (k : Nat) (hk : k ≤ 9) : (UInt8.ofNat (48 + k)).toNat = 48 + k := by rw [UInt8.toNat_ofNat']; omega
theorem statusN_d3 (n : Nat) (h1 : 100 ≤ n) (h2 : n ≤ 599) : statusN (d3 n ++ 32 :: reasonL n) = n := by
  have a1 := d3_toNat (n / 100) (by omega)
  have a2 := d3_toNat (n / 10 % 10) (by omega)
  have a3 := d3_toNat (n % 10) (by omega)
  have hr : (32 :: reasonL n).any ctlG = false := by rw [List.any_cons, reason_noctl]; decide
  show statusN (UInt8.ofNat (48 + n / 100) :: UInt8.ofNat (48 + n / 10 % 10) :: UInt8.ofNat (48 + n % 10) :: 32 :: reasonL n) = n
  simp only [statusN]
  rw [if_pos ⟨.inr rfl, by unfold dgB; rw [a1]; simp; omega, by unfold dgB; rw [a2]; simp; omega, by unfold dgB; rw [a3]; simp; omega, hr⟩, a1, a2, a3]
  have e : 100 * (48 + n / 100 - 48) + 10 * (48 + n / 10 % 10 - 48) + (48 + n % 10 - 48) = n := by omega
  simp only [e]
  rw [if_pos ⟨h1, h2⟩]
theorem startP_clean (st : Int) : Clean (startP st) ∧ startP st ≠ [] := by
  unfold startP
  refine ⟨clean_app.2 ⟨ver_clean, clean_cons.2 ⟨by decide, clean_app.2 ⟨d3_clean _ (by unfold stN; split <;> omega), clean_cons.2 ⟨by decide, noctl_clean (reason_noctl _)⟩⟩⟩⟩, by simp⟩
/-- What is written is read again. -/
theorem writeP_read (F : Flk nm vl hs lw) {st : Int} {fs : Fs} {b : List UInt8} (h : writeP nm vl st fs = (0, b)) (r : List UInt8) :
    (100 ≤ st ∧ st ≤ 599) ∧ readP nm vl (b ++ r) = (0, (st.toNat, fs.map fun f => (lw f.1, f.2)), b.length) := by
  unfold writeP at h
  by_cases h1 : 64 < fs.length ∨ 8192 < (enc (startP st :: fs.map (lineW nm))).length
  · rw [if_pos h1] at h; exact absurd (congrArg Prod.fst h) (by simp)
  rw [if_neg h1] at h
  by_cases h2 : stN st = 0
  · rw [if_pos h2] at h; exact absurd (congrArg Prod.fst h) (by simp)
  rw [if_neg h2] at h
  by_cases h4 : goodB nm vl fs = false
  · rw [if_pos h4] at h; exact absurd (congrArg Prod.fst h) (by simp)
  rw [if_neg h4] at h
  simp only [Prod.mk.injEq, true_and] at h
  subst h
  simp only [not_or, Bool.not_eq_false] at h1 h4
  have hst : 100 ≤ st ∧ st ≤ 599 := by
    unfold stN at h2
    by_cases hh : st < 100 ∨ 599 < st
    · rw [if_pos hh] at h2; exact absurd rfl h2
    · omega
  have hsn : stN st = st.toNat := by unfold stN; rw [if_neg (by omega)]
  have hg := good_mem F h4
  refine ⟨hst, ?_⟩
  have hs' : splitG (enc (startP st :: fs.map (lineW nm)) ++ r) = (0, startP st :: fs.map (lineW nm), (enc (startP st :: fs.map (lineW nm))).length) :=
    splitG_enc (by simp) (fun x hx => by
      rcases List.mem_cons.1 hx with rfl | hx
      · exact startP_clean st
      · obtain ⟨f, hf, rfl⟩ := List.mem_map.1 hx
        exact line_clean F (hg f hf)) (by omega) (by rw [List.length_cons, List.length_map]; omega) r
  have e1 : cutG 32 (startP st) = (verL, d3 (stN st) ++ 32 :: reasonL (stN st)) := cutG_at (by decide) _
  have e2 : statusN (d3 (stN st) ++ 32 :: reasonL (stN st)) = st.toNat := by rw [statusN_d3 _ (by omega) (by omega), hsn]
  have hl : respL nm vl (startP st :: fs.map (lineW nm)) = (0, st.toNat, fs.map fun f => (lw f.1, f.2)) := by
    unfold respL
    simp only [List.headD_cons, List.tail_cons, e1, e2, readFs_lines F hg]
    rw [if_neg (show ¬ verL ≠ verL by simp), if_neg (show ¬ st.toNat = 0 by omega)]
    simp
  unfold readP
  rw [hs']
  simp only [hl]
  simp
end
end Go.Proofs.YtacfkljpjjnlfaaGreatDoor

/- Names, values and hosts are as the heads' reading and writing asks. -/
namespace Go.Proofs.YtacfkljpjjnlfaaGreatDoor

def nmO (l : List UInt8) : Option (List UInt8) := if nameC l = 0 then some (lowS l) else none
def vlO (l : List UInt8) : Option (List UInt8) := if valueC l = 0 then some (trimB l) else none
theorem tok_fin : ∀ n : Fin 256, tokB (UInt8.ofNat n.val) = true → (UInt8.ofNat n.val ≠ 0 ∧ UInt8.ofNat n.val ≠ 13 ∧ UInt8.ofNat n.val ≠ 10 ∧ UInt8.ofNat n.val ≠ 58 ∧ UInt8.ofNat n.val ≠ 32 ∧ UInt8.ofNat n.val ≠ 9) ∧ tokB (lowB (UInt8.ofNat n.val)) = true := by decide +kernel
theorem tok_facts {c : UInt8} (h : tokB c = true) : (c ≠ 0 ∧ c ≠ 13 ∧ c ≠ 10 ∧ c ≠ 58 ∧ c ≠ 32 ∧ c ≠ 9) ∧ tokB (lowB c) = true := by
  have := tok_fin ⟨c.toNat, UInt8.toNat_lt c⟩ (by rw [UInt8.ofNat_toNat]; exact h)
  simpa only [UInt8.ofNat_toNat] using this
theorem nmO_some {l y : List UInt8} (h : nmO l = some y) : y = lowS l ∧ tokS l = true ∧ l.length ≤ 64 := by
  unfold nmO at h
  by_cases h1 : nameC l = 0
  · rw [if_pos h1] at h
    unfold nameC at h1
    by_cases h2 : tokS l = true
    · rw [if_pos h2] at h1
      exact ⟨(Option.some.inj h).symm, h2, by split at h1 <;> omega⟩
    · rw [if_neg h2] at h1; omega
  · rw [if_neg h1] at h; cases h
theorem nmO_of {l : List UInt8} (h1 : tokS l = true) (h2 : l.length ≤ 64) : nmO l = some (lowS l) := by
  have e : nameC l = 0 := by unfold nameC; rw [if_pos h1, if_neg (by omega)]
  unfold nmO; rw [if_pos e]
theorem tokS_low {l : List UInt8} (h : tokS l = true) : tokS (lowS l) = true := by
  unfold tokS at h ⊢
  rw [Bool.and_eq_true, List.all_eq_true] at h
  rw [Bool.and_eq_true, List.all_eq_true]
  refine ⟨fun c hc => ?_, ?_⟩
  · unfold lowS at hc
    obtain ⟨d, hd, rfl⟩ := List.mem_map.1 hc
    exact (tok_facts (h.1 d hd)).2
  · cases l with
    | nil => simp at h
    | cons c t => rfl
theorem ctl_fin : ∀ n : Fin 256, ctlB (UInt8.ofNat n.val) = false → UInt8.ofNat n.val ≠ 0 ∧ UInt8.ofNat n.val ≠ 13 ∧ UInt8.ofNat n.val ≠ 10 := by decide +kernel
theorem vlO_some {l y : List UInt8} (h : vlO l = some y) : y = trimB l ∧ ctlS l = false ∧ (trimB l).length ≤ 2048 := by
  unfold vlO at h
  by_cases h1 : valueC l = 0
  · rw [if_pos h1] at h
    unfold valueC at h1
    by_cases h2 : ctlS l = true
    · rw [if_pos h2] at h1; omega
    · rw [if_neg h2] at h1
      exact ⟨(Option.some.inj h).symm, by simpa using h2, by split at h1 <;> omega⟩
  · rw [if_neg h1] at h; cases h
theorem vlO_of {l : List UInt8} (h1 : ctlS l = false) (h2 : (trimB l).length ≤ 2048) : vlO l = some (trimB l) := by
  have e : valueC l = 0 := by unfold valueC; rw [h1, if_neg (by decide), if_neg (by omega)]
  unfold vlO; rw [if_pos e]
theorem tL_id (l : List UInt8) : tL (tL l) = tL l := by
  induction l with
  | nil => rfl
  | cons c t ih =>
    rw [tL_cons]
    by_cases h : blank c = true
    · rw [if_pos h]; exact ih
    · rw [if_neg h, tL_cons, if_neg h]
theorem tR_id (l : List UInt8) : tR (tR l) = tR l := by
  induction l with
  | nil => rfl
  | cons c t ih =>
    rw [tR_cons]
    by_cases h : tR t = [] ∧ blank c = true
    · rw [if_pos h]; rfl
    · rw [if_neg h, tR_cons, ih, if_neg h]
theorem trimB_id (l : List UInt8) : trimB (trimB l) = trimB l := by
  rw [trimB_eq, trimB_eq, tR_tL, tR_id, ← tR_tL (tL l), tL_id]
theorem trimB_sub (l : List UInt8) : ∀ c ∈ trimB l, c ∈ l := by
  intro c hc
  rw [trimB_eq] at hc
  unfold tR at hc
  rw [List.mem_reverse] at hc
  have h1 := (List.dropWhile_sublist blank).subset hc
  rw [List.mem_reverse] at h1
  exact (List.dropWhile_sublist blank).subset h1
theorem ctlS_sub {a b : List UInt8} (h : ∀ c ∈ a, c ∈ b) (hb : ctlS b = false) : ctlS a = false := by
  unfold ctlS at *
  rw [List.any_eq_false] at *
  exact fun c hc => hb c (h c hc)
theorem trimB_blank (c : UInt8) (hc : blank c = true) (l : List UInt8) : trimB (c :: l) = trimB l := by
  rw [trimB_eq, trimB_eq, tL_cons, if_pos hc]
/-- A text without blanks is trimmed. -/
theorem trimB_none {l : List UInt8} (h : ∀ c ∈ l, blank c = false) : trimB l = l := by
  have h1 : tL l = l := by
    cases l with
    | nil => rfl
    | cons c t => rw [tL_cons, if_neg (by rw [h c (by simp)]; decide)]
  have h2 : tR l = l := by
    unfold tR
    have : l.reverse.dropWhile blank = l.reverse := by
      cases hr : l.reverse with
      | nil => rfl
      | cons c t =>
        rw [List.dropWhile_cons, if_neg]
        have : c ∈ l.reverse := by rw [hr]; simp
        rw [h c (List.mem_reverse.1 this)]; decide
    rw [this, List.reverse_reverse]
  rw [trimB_eq, h1, h2]
theorem aln_fin : ∀ n : Fin 256, lblC (UInt8.ofNat n.val) = true → ctlB (UInt8.ofNat n.val) = false ∧ blank (UInt8.ofNat n.val) = false := by decide +kernel
theorem lblC_facts {c : UInt8} (h : lblC c = true) : ctlB c = false ∧ blank c = false := by
  have := aln_fin ⟨c.toNat, UInt8.toNat_lt c⟩ (by rw [UInt8.ofNat_toNat]; exact h)
  simpa only [UInt8.ofNat_toNat] using this
theorem host_chars {l h : List UInt8} (e : hostO l = some h) : ∀ c ∈ h, ctlB c = false ∧ blank c = false := by
  have e' := (hostO_some (hostO_idem e)).2.2
  intro c hc
  by_cases hd : c = 46
  · subst hd; decide
  · obtain ⟨s, hs, hxs⟩ := cutL_mem 46 h c hc hd
    have := List.all_eq_true.mp e' s hs
    simp only [lblB, Bool.and_eq_true, List.all_eq_true] at this
    exact lblC_facts (this.2 c hxs)
theorem flk : Flk nmO vlO hostO lowS where
  nm_lw h := (nmO_some h).1
  nm_id h := by
    obtain ⟨rfl, h2, h3⟩ := nmO_some h
    rw [nmO_of (tokS_low h2) (by rw [lowS_len]; exact h3), lowS_idem]
  nm_ok h := by
    obtain ⟨rfl, h2, h3⟩ := nmO_some h
    unfold tokS at h2
    rw [Bool.and_eq_true, List.all_eq_true] at h2
    refine ⟨?_, fun c hc => (tok_facts (h2.1 c hc)).1⟩
    rintro rfl
    simp at h2
  vl_ok h := by
    obtain ⟨_, h2, _⟩ := vlO_some h
    unfold ctlS at h2
    rw [List.any_eq_false] at h2
    intro c hc
    have h3 : ctlB c = false := by simpa using h2 c hc
    have := ctl_fin ⟨c.toNat, UInt8.toNat_lt c⟩ (by rw [UInt8.ofNat_toNat]; exact h3)
    simpa only [UInt8.ofNat_toNat] using this
  vl_id h := by
    obtain ⟨rfl, h2, h3⟩ := vlO_some h
    refine ⟨?_, trimB_le _⟩
    rw [vlO_of (ctlS_sub (trimB_sub _) h2) (by rw [trimB_id]; exact h3), trimB_id]
  vl_sp h := by
    obtain ⟨h1, h2, h3⟩ := vlO_some h
    have e := trimB_blank 32 (by decide) _ |>.trans h1.symm
    rw [vlO_of (by unfold ctlS; rw [List.any_cons]; unfold ctlS at h2; rw [h2]; decide) (by rw [trimB_blank 32 (by decide)]; exact h3), e]
  hs_lw h := (hostO_some h).1
  hs_id h := hostO_idem h
  hs_vl h := by
    have hc := host_chars h
    have ht : trimB _ = _ := trimB_none fun c hm => (hc c hm).2
    have hl := (hostO_some (hostO_idem h)).2.1
    rw [vlO_of (by unfold ctlS; rw [List.any_eq_false]; intro c hm; simp [(hc c hm).1]) (by rw [ht]; omega), ht]
  lw_len := lowS_len
  lw_id := lowS_idem
end Go.Proofs.YtacfkljpjjnlfaaGreatDoor
