/- Names, values and hosts are as the heads' reading and writing asks. -/
import Derived.Test.YthjkneifffdglaaDoorFName
import Derived.Test.YthjkneifffdglaaDoorASpec
import Derived.Test.YthjkneifffdglaaDoorGResp
namespace Go.Proofs.YthjkneifffdglaaDoor

def nmO (l : List UInt8) : Option (List UInt8) := if nameC l = 0 then some (lowS l) else none
def vlO (l : List UInt8) : Option (List UInt8) := if valueC l = 0 then some (trimB l) else none
theorem tok_fin : ∀ n : Fin 256, tokB (UInt8.ofNat n.val) = true → (UInt8.ofNat n.val ≠ 0 ∧ UInt8.ofNat n.val ≠ 13 ∧ UInt8.ofNat n.val ≠ 10 ∧ UInt8.ofNat n.val ≠ 58 ∧ UInt8.ofNat n.val ≠ 32 ∧ UInt8.ofNat n.val ≠ 9) ∧ tokB (lowB (UInt8.ofNat n.val)) = true := by decide +kernel
theorem tok_facts {c : UInt8} (h : tokB c = true) : (c ≠ 0 ∧ c ≠ 13 ∧ c ≠ 10 ∧ c ≠ 58 ∧ c ≠ 32 ∧ c ≠ 9) ∧ tokB (lowB c) = true := by
  have := tok_fin ⟨c.toNat, UInt8.toNat_lt c⟩ (by rw [UInt8.ofNat_toNat]; exact h)
  simpa only [UInt8.ofNat_toNat] using this
theorem nmO_some {l y : List UInt8} (h : nmO l = some y) : y = lowS l ∧ tokS l = true ∧ l.length ≤ 64 := by
  unfold nmO at h
  by_cases h1 : nameC l = 0
  · rw [if_pos h1] at h
    unfold nameC at h1
    by_cases h2 : tokS l = true
    · rw [if_pos h2] at h1
      exact ⟨(Option.some.inj h).symm, h2, by split at h1 <;> omega⟩
    · rw [if_neg h2] at h1; omega
  · rw [if_neg h1] at h; cases h
theorem nmO_of {l : List UInt8} (h1 : tokS l = true) (h2 : l.length ≤ 64) : nmO l = some (lowS l) := by
  have e : nameC l = 0 := by unfold nameC; rw [if_pos h1, if_neg (by omega)]
  unfold nmO; rw [if_pos e]
theorem tokS_low {l : List UInt8} (h : tokS l = true) : tokS (lowS l) = true := by
  unfold tokS at h ⊢
  rw [Bool.and_eq_true, List.all_eq_true] at h
  rw [Bool.and_eq_true, List.all_eq_true]
  refine ⟨fun c hc => ?_, ?_⟩
  · unfold lowS at hc
    obtain ⟨d, hd, rfl⟩ := List.mem_map.1 hc
    exact (tok_facts (h.1 d hd)).2
  · cases l with
    | nil => simp at h
    | cons c t => rfl
theorem ctl_fin : ∀ n : Fin 256, ctlB (UInt8.ofNat n.val) = false → UInt8.ofNat n.val ≠ 0 ∧ UInt8.ofNat n.val ≠ 13 ∧ UInt8.ofNat n.val ≠ 10 := by decide +kernel
theorem vlO_some {l y : List UInt8} (h : vlO l = some y) : y = trimB l ∧ ctlS l = false ∧ (trimB l).length ≤ 2048 := by
  unfold vlO at h
  by_cases h1 : valueC l = 0
  · rw [if_pos h1] at h
    unfold valueC at h1
    by_cases h2 : ctlS l = true
    · rw [if_pos h2] at h1; omega
    · rw [if_neg h2] at h1
      exact ⟨(Option.some.inj h).symm, by simpa using h2, by split at h1 <;> omega⟩
  · rw [if_neg h1] at h; cases h
theorem vlO_of {l : List UInt8} (h1 : ctlS l = false) (h2 : (trimB l).length ≤ 2048) : vlO l = some (trimB l) := by
  have e : valueC l = 0 := by unfold valueC; rw [h1, if_neg (by decide), if_neg (by omega)]
  unfold vlO; rw [if_pos e]
theorem tL_id (l : List UInt8) : tL (tL l) = tL l := by
  induction l with
  | nil => rfl
  | cons c t ih =>
    rw [tL_cons]
    by_cases h : blank c = true
    · rw [if_pos h]; exact ih
    · rw [if_neg h, tL_cons, if_neg h]
theorem tR_id (l : List UInt8) : tR (tR l) = tR l := by
  induction l with
  | nil => rfl
  | cons c t ih =>
    rw [tR_cons]
    by_cases h : tR t = [] ∧ blank c = true
    · rw [if_pos h]; rfl
    · rw [if_neg h, tR_cons, ih, if_neg h]
theorem trimB_id (l : List UInt8) : trimB (trimB l) = trimB l := by
  rw [trimB_eq, trimB_eq, tR_tL, tR_id, ← tR_tL (tL l), tL_id]
theorem trimB_sub (l : List UInt8) : ∀ c ∈ trimB l, c ∈ l := by
  intro c hc
  rw [trimB_eq] at hc
  unfold tR at hc
  rw [List.mem_reverse] at hc
  have h1 := (List.dropWhile_sublist blank).subset hc
  rw [List.mem_reverse] at h1
  exact (List.dropWhile_sublist blank).subset h1
theorem ctlS_sub {a b : List UInt8} (h : ∀ c ∈ a, c ∈ b) (hb : ctlS b = false) : ctlS a = false := by
  unfold ctlS at *
  rw [List.any_eq_false] at *
  exact fun c hc => hb c (h c hc)
theorem trimB_blank (c : UInt8) (hc : blank c = true) (l : List UInt8) : trimB (c :: l) = trimB l := by
  rw [trimB_eq, trimB_eq, tL_cons, if_pos hc]
/-- A text without blanks is trimmed. -/
theorem trimB_none {l : List UInt8} (h : ∀ c ∈ l, blank c = false) : trimB l = l := by
  have h1 : tL l = l := by
    cases l with
    | nil => rfl
    | cons c t => rw [tL_cons, if_neg (by rw [h c (by simp)]; decide)]
  have h2 : tR l = l := by
    unfold tR
    have : l.reverse.dropWhile blank = l.reverse := by
      cases hr : l.reverse with
      | nil => rfl
      | cons c t =>
        rw [List.dropWhile_cons, if_neg]
        have : c ∈ l.reverse := by rw [hr]; simp
        rw [h c (List.mem_reverse.1 this)]; decide
    rw [this, List.reverse_reverse]
  rw [trimB_eq, h1, h2]
theorem aln_fin : ∀ n : Fin 256, lblC (UInt8.ofNat n.val) = true → ctlB (UInt8.ofNat n.val) = false ∧ blank (UInt8.ofNat n.val) = false := by decide +kernel
theorem lblC_facts {c : UInt8} (h : lblC c = true) : ctlB c = false ∧ blank c = false := by
  have := aln_fin ⟨c.toNat, UInt8.toNat_lt c⟩ (by rw [UInt8.ofNat_toNat]; exact h)
  simpa only [UInt8.ofNat_toNat] using this
theorem host_chars {l h : List UInt8} (e : hostO l = some h) : ∀ c ∈ h, ctlB c = false ∧ blank c = false := by
  have e' := (hostO_some (hostO_idem e)).2.2
  intro c hc
  by_cases hd : c = 46
  · subst hd; decide
  · obtain ⟨s, hs, hxs⟩ := cutL_mem 46 h c hc hd
    have := List.all_eq_true.mp e' s hs
    simp only [lblB, Bool.and_eq_true, List.all_eq_true] at this
    exact lblC_facts (this.2 c hxs)
theorem flk : Flk nmO vlO hostO lowS where
  nm_lw h := (nmO_some h).1
  nm_id h := by
    obtain ⟨rfl, h2, h3⟩ := nmO_some h
    rw [nmO_of (tokS_low h2) (by rw [lowS_len]; exact h3), lowS_idem]
  nm_ok h := by
    obtain ⟨rfl, h2, h3⟩ := nmO_some h
    unfold tokS at h2
    rw [Bool.and_eq_true, List.all_eq_true] at h2
    refine ⟨?_, fun c hc => (tok_facts (h2.1 c hc)).1⟩
    rintro rfl
    simp at h2
  vl_ok h := by
    obtain ⟨_, h2, _⟩ := vlO_some h
    unfold ctlS at h2
    rw [List.any_eq_false] at h2
    intro c hc
    have h3 : ctlB c = false := by simpa using h2 c hc
    have := ctl_fin ⟨c.toNat, UInt8.toNat_lt c⟩ (by rw [UInt8.ofNat_toNat]; exact h3)
    simpa only [UInt8.ofNat_toNat] using this
  vl_id h := by
    obtain ⟨rfl, h2, h3⟩ := vlO_some h
    refine ⟨?_, trimB_le _⟩
    rw [vlO_of (ctlS_sub (trimB_sub _) h2) (by rw [trimB_id]; exact h3), trimB_id]
  vl_sp h := by
    obtain ⟨h1, h2, h3⟩ := vlO_some h
    have e := trimB_blank 32 (by decide) _ |>.trans h1.symm
    rw [vlO_of (by unfold ctlS; rw [List.any_cons]; unfold ctlS at h2; rw [h2]; decide) (by rw [trimB_blank 32 (by decide)]; exact h3), e]
  hs_lw h := (hostO_some h).1
  hs_id h := hostO_idem h
  hs_vl h := by
    have hc := host_chars h
    have ht : trimB _ = _ := trimB_none fun c hm => (hc c hm).2
    have hl := (hostO_some (hostO_idem h)).2.1
    rw [vlO_of (by unfold ctlS; rw [List.any_eq_false]; intro c hm; simp [(hc c hm).1]) (by rw [ht]; omega), ht]
  lw_len := lowS_len
  lw_id := lowS_idem
end Go.Proofs.YthjkneifffdglaaDoor
