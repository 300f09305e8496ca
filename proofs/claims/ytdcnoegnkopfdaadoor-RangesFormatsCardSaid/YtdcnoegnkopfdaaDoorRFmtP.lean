/- Plain mathematics of chapter 9: Format's text, range by range. -/
import Derived.Test.YtdcnoegnkopfdaaDoorRBack
import Derived.Lib.Join
namespace Go.Proofs.YtdcnoegnkopfdaaDoor

theorem formR_snoc : ∀ (l : List Rg) (r : Rg), formR (l ++ [r]) = if l = [] then textR r else formR l ++ 44 :: textR r := by
  intro l
  induction l with
  | nil => intro r; rfl
  | cons q t ih =>
    intro r
    rw [if_neg (by simp)]
    cases t with
    | nil => rfl
    | cons x t =>
      have := ih r
      rw [if_neg (by simp)] at this
      show textR q ++ 44 :: formR (x :: t ++ [r]) = textR q ++ 44 :: formR (x :: t) ++ 44 :: textR r
      rw [this]; simp
theorem formR_cons (q : Rg) {t : List Rg} (h : t ≠ []) : formR (q :: t) = textR q ++ 44 :: formR t := by
  cases t with
  | nil => exact absurd rfl h
  | cons x t => rfl
theorem join_formR (l : List Rg) : Lib.join (l.map textR) [44] = formR l := by
  cases l with
  | nil => rfl
  | cons q t =>
    rw [List.map_cons, Lib.join_cons]
    induction t generalizing q with
    | nil => simp [Lib.joinTail, formR]
    | cons x t ih =>
      rw [formR_cons q (by simp), ← ih x]
      simp [Lib.joinTail]
theorem textR_len {r : Rg} (h : properR r) : (textR r).length ≤ 41 := by
  have hd : ∀ n : Int, 0 ≤ n → n ≤ 999999999999999 → (decT n).length ≤ 15 := fun n h0 h1 => dec_len _ (by omega)
  obtain ⟨h1, h2, h3⟩ := h
  have a := hd r.1 h1 (by omega)
  have b := hd (r.2 - 1) (by omega) (by omega)
  unfold textR; simp; omega
def goodR (l : List Rg) : Prop := ∀ r ∈ l, properR r
theorem goodR0 (l : List Rg) : goodR (l.take 0) := fun r h => by simp at h
theorem goodR_step {l : List Rg} {k : Nat} {r : Rg} (h : goodR (l.take k)) (hk : l[k]? = some r) (hp : properR r) : goodR (l.take (k + 1)) := by
  rw [List.take_add_one, hk]
  intro q hq
  rcases List.mem_append.mp hq with hq | hq
  · exact h q hq
  · simp at hq; subst hq; exact hp
theorem formR_len (l : List Rg) (h : goodR l) : (formR l).length ≤ l.length * 42 := by
  induction l with
  | nil => simp [formR]
  | cons q t ih =>
    have h1 := ih fun r hr => h r (List.mem_cons_of_mem _ hr)
    have h2 := textR_len (h q (by simp))
    cases t with
    | nil => show (textR q).length ≤ _; simp; omega
    | cons x t =>
      rw [formR_cons q (by simp)]
      simp only [List.length_append, List.length_cons] at h1 ⊢
      omega
theorem fmt_bad {l : List Rg} {k : Nat} {r : Rg} (hk : l[k]? = some r) (hp : ¬ properR r) : fmtR l = none := by
  unfold fmtR; rw [if_neg]; exact fun h => hp (h.2 r (List.mem_of_getElem? hk))
theorem fmt_nil : fmtR [] = none := rfl
theorem fmt_good {l : List Rg} {k : Nat} (h : goodR (l.take k)) (hk : l.length ≤ k) (hne : l ≠ []) : fmtR l = some (preB ++ formR l) := by
  unfold fmtR; rw [if_pos]; rw [List.take_of_length_le hk] at h; exact ⟨hne, h⟩
theorem take_map_snoc {l : List Rg} {k : Nat} {r : Rg} (hk : l[k]? = some r) : (l.take (k + 1)).map textR = (l.take k).map textR ++ [textR r] := by
  rw [List.take_add_one, hk]; simp
theorem form_first {l : List Rg} {r : Rg} (h : l[0]? = some r) : formR (l.take 1) = textR r := by
  rw [List.take_add_one, h]; rfl
theorem form_next {l : List Rg} {k : Nat} {r : Rg} (h : l[k]? = some r) (h0 : 0 < k) : formR (l.take (k + 1)) = formR (l.take k) ++ 44 :: textR r := by
  have hk := (List.getElem?_eq_some_iff.mp h).1
  rw [List.take_add_one, h, Option.toList_some, formR_snoc, if_neg]
  intro e
  have := congrArg List.length e
  rw [List.length_take, List.length_nil] at this
  omega
end Go.Proofs.YtdcnoegnkopfdaaDoor
