/- The address of a text, in plain words: where the first slash is; how long an address can be. -/
import Derived.Test.YtfggckdakmnfbaaDoorAAdr
import Derived.Lib.Bytealg
namespace Go.Proofs.YtfggckdakmnfbaaDoor

theorem ib_none : ∀ {l : List UInt8}, 47 ∉ l → Lib.indexByte l 47 = -1 := by
  intro l
  induction l with
  | nil => intro _; rfl
  | cons c t ih =>
    intro h
    have hc : (c == 47) = false := by simp; intro e; exact h (by simp [e])
    have ht := ih (fun e => h (by simp [e]))
    unfold Lib.indexByte; rw [hc, ht]; rfl
theorem ib_some : ∀ {l : List UInt8}, 47 ∈ l → Lib.indexByte l 47 = ((l.takeWhile (· ≠ 47)).length : Int) ∧ (l.takeWhile (· ≠ 47)).length < l.length ∧ l.take (l.takeWhile (· ≠ 47)).length = l.takeWhile (· ≠ 47) := by
  intro l
  induction l with
  | nil => intro h; cases h
  | cons c t ih =>
    intro h
    by_cases hc : c = 47
    · subst hc; simp [Lib.indexByte]
    · obtain ⟨h1, h2, h3⟩ := ih (by rcases List.mem_cons.mp h with e | e; exact absurd e.symm hc; exact e)
      have hcb : (c == 47) = false := by simpa using hc
      have hd : decide (c ≠ 47) = true := by simpa using hc
      have hn : (((t.takeWhile (· ≠ 47)).length : Int) == -1) = false := by simp
      unfold Lib.indexByte
      rw [hcb, h1, hn]
      rw [List.takeWhile_cons, if_pos hd]
      refine ⟨by simp, by rw [List.length_cons, List.length_cons]; omega, ?_⟩
      simp only [List.length_cons, List.take_succ_cons]
      rw [h3]
theorem takeWhile_none {l : List UInt8} (h : 47 ∉ l) : l.takeWhile (· ≠ 47) = l := by
  induction l with
  | nil => rfl
  | cons c t ih =>
    have hc : decide (c ≠ 47) = true := by simp; intro e; exact h (by simp [e])
    rw [List.takeWhile_cons, if_pos hc, ih (fun e => h (by simp [e]))]
theorem readO_none {l : List UInt8} (h : 47 ∉ l) : readO l = none := by
  have ht := takeWhile_none h
  unfold readO
  simp only [ht, List.drop_length]
  have : (parseA l []).1 ≠ 0 := by
    unfold parseA
    cases hostO l with
    | none => simp
    | some x => simp [cutC, pathO]
  rw [if_neg (fun e => this e.1)]
theorem parse_le (h t : List UInt8) : AdrLe 2000 (parseA h t).2 := by
  by_cases e : (parseA h t).1 = 0
  · obtain ⟨_, _, h3, h4, hl⟩ := parseA_ok (h := h) (t := t) (a := (parseA h t).2) (Prod.ext e rfl)
    generalize (parseA h t).2 = a at *
    have hq : a.b = false → a.q = [] := by
      intro hb
      rw [h4] at hb
      rw [cutC_off hb] at h3
      simpa [canO] using h3.symm
    unfold Adr.text Adr.target at hl
    rw [List.length_append] at hl
    cases hb : a.b with
    | true =>
      rw [hb, if_pos rfl, List.length_append, List.length_cons] at hl
      exact ⟨by rw [strB_size]; omega, by rw [strB_size]; omega, by rw [strB_size]; omega⟩
    | false =>
      rw [hb, if_neg (by decide)] at hl
      exact ⟨by rw [strB_size]; omega, by rw [strB_size]; omega, by rw [hq hb]; decide⟩
  · rw [parseA_zero e]
    refine ⟨?_, ?_, ?_⟩ <;> decide
end Go.Proofs.YtfggckdakmnfbaaDoor
