/- Plain mathematics: two neighbours of a list exchanged; nothing of the program. -/
import Derived.Test.YthpjemihbobjfaaSame
import Derived.Test.YthpjemihbobjfaaFKeeps
namespace Go.Proofs.Ythpjemihbobjfaa.moves
open Go.RowKit

theorem two_of {ps : Flds} {i : Nat} {p q : List UInt8 × List UInt8} (hp : ps[i]? = some p) (hq : ps[i + 1]? = some q) : two (ps.take i) p [] q (ps.drop (i + 1 + 1)) = ps := by
  have e : ps.take i ++ ps.drop i = ps := List.take_append_drop _ _
  rw [drop_at hp, drop_at hq] at e
  exact e
theorem moves_same {A C : Flds} {p q : List UInt8 × List UInt8} (h : lowS p.1 ≠ lowS q.1) : SameF (lowF (two A p [] q C)) (lowF (two A q [] p C)) := by
  have e : ∀ x y : List UInt8 × List UInt8, lowF (two A x [] y C) = lowF A ++ (([(lowS x.1, x.2)] ++ [(lowS y.1, y.2)]) ++ lowF C) := fun x y => by simp [two, lowF]
  rw [e, e]
  refine (SameF.refl _).app ((SameF.swap fun a ha b hb => ?_).app (SameF.refl _))
  simp at ha hb; subst ha hb
  exact fun he => h he.symm
theorem moves_siz (A C : Flds) (p q : List UInt8 × List UInt8) : sizL (two A q [] p C) = sizL (two A p [] q C) := by
  have e : ∀ x y : List UInt8 × List UInt8, sizL (two A x [] y C) = sizL A + (sizL [x] + (sizL [y] + sizL C)) := fun x y => by
    have : two A x [] y C = A ++ ([x] ++ ([y] ++ C)) := by simp [two]
    rw [this, siz_app, siz_app, siz_app]
  rw [e, e]; omega
theorem moves_mem {A C : Flds} {p q x : List UInt8 × List UInt8} (h : x ∈ two A q [] p C) : x ∈ two A p [] q C := by
  simp only [two, List.nil_append, List.mem_append, List.mem_cons] at h ⊢
  rcases h with h | h | h | h
  · exact .inl h
  · exact .inr (.inr (.inl h))
  · exact .inr (.inl h)
  · exact .inr (.inr (.inr h))
theorem add_not {ps g : Flds} {n v : List UInt8} (hl : g.length = ps.length) : ¬ SameF (lowF ps) (lowF (addL g n v)) := fun h => by
  have := h.length
  rw [lowF_len, lowF_len] at this
  simp [addL] at this; omega
theorem add_siz (g : Flds) : sizL (addL g [97, 98] [99]) = sizL g + 7 := by
  unfold addL
  rw [siz_app]
  have : sizL [(lowS [97, 98], [99])] = 7 := by decide
  rw [this]
theorem siz_le {ps : Flds} (h : ∀ p ∈ ps, p.1.length + p.2.length ≤ 6000) : sizL ps ≤ ps.length * 6004 := by
  induction ps with
  | nil => simp [sizL]
  | cons p r ih =>
    have e : sizL (p :: r) = p.1.length + p.2.length + 4 + sizL r := rfl
    rw [e, List.length_cons, Nat.succ_mul]
    have h1 := h p (List.mem_cons_self ..)
    have h2 := ih fun q hq => h q (List.mem_cons_of_mem _ hq)
    omega
theorem rem_cast {a n : Nat} (h : 2 ≤ n) : (a : Int) % ((n : Int) - 1) = ((a % (n - 1) : Nat) : Int) := by
  have : (n : Int) - 1 = ((n - 1 : Nat) : Int) := by omega
  rw [this]; rfl
/-- What is known of the second list behind the exchange. -/
def Moved (ps g : Flds) : Prop := SameF (lowF ps) (lowF g) ∧ sizL g = sizL ps ∧ g.length = ps.length ∧ ∀ p ∈ g, p ∈ ps
theorem moved_id (ps : Flds) : Moved ps ps := ⟨SameF.refl _, rfl, rfl, fun _ h => h⟩
theorem moved_two {ps : Flds} {i : Nat} {p q : List UInt8 × List UInt8} (hp : ps[i]? = some p) (hq : ps[i + 1]? = some q) (h : lowS p.1 ≠ lowS q.1) : Moved ps (two (ps.take i) q [] p (ps.drop (i + 1 + 1))) := by
  have e := two_of hp hq
  generalize ps.take i = A at e
  generalize ps.drop (i + 1 + 1) = C at e
  subst e
  exact ⟨moves_same h, moves_siz _ _ _ _, by rw [two_len, two_len], fun x hx => moves_mem hx⟩
end Go.Proofs.Ythpjemihbobjfaa.moves
