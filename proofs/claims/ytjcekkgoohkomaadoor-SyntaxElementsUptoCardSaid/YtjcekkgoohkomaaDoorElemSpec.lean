/- Plain mathematics: a list of elements with blanks and empty elements between them has these elements. -/
import Derived.Test.YtjcekkgoohkomaaDoorQuoSpec
import Derived.Test.YtjcekkgoohkomaaDoorList
import Derived.Test.YtjcekkgoohkomaaDoorTrim
import Derived.Test.YtjcekkgoohkomaaDoorDiv
namespace Go.Proofs.YtjcekkgoohkomaaDoor

/-- The elements of a text without its control bytes looked at. -/
def elems (x : List UInt8) : Option (List (List UInt8)) := (scan 44 .out [] x).map fun ps => fil (ps.map trimB)
theorem listO_elems (x : List UInt8) (h : ctlS x = false) : listO x = elems x := by
  unfold listO partsO elems fil
  rw [h]
  cases scan 44 .out [] x <;> simp

theorem scan_plain : ∀ (x cur rest : List UInt8), (∀ c ∈ x, c ≠ 34 ∧ c ≠ 44) → scan 44 .out cur (x ++ rest) = scan 44 .out (cur ++ x) rest := by
  intro x
  induction x with
  | nil => intro cur rest _; simp
  | cons c t ih =>
    intro cur rest h
    have hc := h c (by simp)
    rw [List.cons_append, scan, if_neg hc.1, if_neg hc.2, ih _ _ (fun d hd => h d (by simp [hd]))]
    simp
theorem scan_items : ∀ (t cur rest : List UInt8), scan 44 .inn cur (escS t ++ 34 :: rest) = scan 44 .out (cur ++ escS t ++ [34]) rest := by
  intro t
  induction t with
  | nil =>
    intro cur rest
    show scan 44 .inn cur (34 :: rest) = _
    rw [scan, if_pos rfl]; simp [escS]
  | cons c r ih =>
    intro cur rest
    have e : escS (c :: r) = esc c ++ escS r := rfl
    rw [e, List.append_assoc]
    unfold esc
    by_cases h : c = 34 ∨ c = 92
    · rw [if_pos h]
      show scan 44 .inn cur (92 :: c :: (escS r ++ 34 :: rest)) = _
      rw [scan, if_neg (by decide), if_pos rfl, scan, ih]; simp
    · rw [if_neg h]
      show scan 44 .inn cur (c :: (escS r ++ 34 :: rest)) = _
      rw [scan, if_neg (fun e => h (.inl e)), if_neg (fun e => h (.inr e)), ih]; simp
theorem scan_quo (t cur rest : List UInt8) : scan 44 .out cur (quoS t ++ rest) = scan 44 .out (cur ++ quoS t) rest := by
  show scan 44 .out cur (34 :: (escS t ++ [34] ++ rest)) = _
  rw [scan, if_pos rfl, List.append_assoc]
  show scan 44 .inn (cur ++ [34]) (escS t ++ 34 :: rest) = _
  rw [scan_items]; simp [quoS]

/-- An element: a token, or a quoted string. -/
def Elem (q : List UInt8) : Prop := (q ≠ [] ∧ q.all tokB = true) ∨ ∃ t, q = quoS t ∧ ctlS t = false
theorem tok_not {c : UInt8} (h : tokB c = true) : c ≠ 34 ∧ c ≠ 44 ∧ blank c = false ∧ ctlB c = false := by
  refine ⟨?_, ?_, ?_, ?_⟩
  · rintro rfl; exact absurd h (by decide)
  · rintro rfl; exact absurd h (by decide)
  · rw [Bool.eq_false_iff]; intro hb
    rcases (blank_iff c).mp hb with h1 | h1
    · obtain rfl : c = 32 := UInt8.toNat_inj.mp h1
      exact absurd h (by decide)
    · obtain rfl : c = 9 := UInt8.toNat_inj.mp h1
      exact absurd h (by decide)
  · rw [Bool.eq_false_iff]; intro hb
    have hn : c.toNat < 32 ∨ c.toNat = 127 := by simp [ctlB] at hb; omega
    unfold tokB digB at h
    rcases hn with hn | hn
    · simp at h; omega
    · simp [hn] at h
theorem Elem.scan {q : List UInt8} (h : Elem q) (cur rest : List UInt8) : scan 44 .out cur (q ++ rest) = scan 44 .out (cur ++ q) rest := by
  rcases h with ⟨_, h⟩ | ⟨t, rfl, _⟩
  · exact scan_plain q cur rest (fun c hc => by have := tok_not (List.all_eq_true.mp h c hc); exact ⟨this.1, this.2.1⟩)
  · exact scan_quo t cur rest
theorem Elem.ctl {q : List UInt8} (h : Elem q) : ctlS q = false := by
  rcases h with ⟨_, h⟩ | ⟨t, rfl, ht⟩
  · unfold ctlS; rw [Bool.eq_false_iff]; intro hc
    obtain ⟨c, hc, hb⟩ := List.any_eq_true.mp hc
    rw [(tok_not (List.all_eq_true.mp h c hc)).2.2.2] at hb; cases hb
  · have := ctl_escS t ht
    unfold quoS ctlS at *
    simp [this]; decide
theorem Elem.ne {q : List UInt8} (h : Elem q) : q ≠ [] := by
  rcases h with ⟨h, _⟩ | ⟨t, rfl, _⟩
  · exact h
  · simp [quoS]
theorem Elem.first {q : List UInt8} (h : Elem q) : ∃ c r, q = c :: r ∧ blank c = false := by
  rcases h with ⟨h1, h2⟩ | ⟨t, rfl, _⟩
  · cases q with
    | nil => exact absurd rfl h1
    | cons c r => exact ⟨c, r, rfl, (tok_not (List.all_eq_true.mp h2 c (by simp))).2.2.1⟩
  · exact ⟨34, escS t ++ [34], rfl, by decide⟩
theorem Elem.final {q : List UInt8} (h : Elem q) : ∃ c r, q = r ++ [c] ∧ blank c = false := by
  rcases h with ⟨h1, h2⟩ | ⟨t, rfl, _⟩
  · rcases List.eq_nil_or_concat q with rfl | ⟨r, c, rfl⟩
    · exact absurd rfl h1
    · exact ⟨c, r, by simp, (tok_not (List.all_eq_true.mp h2 c (by simp))).2.2.1⟩
  · exact ⟨34, 34 :: escS t, rfl, by decide⟩
theorem tL_blanks (x q : List UInt8) (h : ∀ c ∈ x, blank c = true) : tL (x ++ q) = tL q := by
  induction x with
  | nil => rfl
  | cons c t ih => rw [List.cons_append, tL_cons, if_pos (h c (by simp)), ih (fun d hd => h d (by simp [hd]))]
theorem tR_blanks (q : List UInt8) : ∀ y : List UInt8, (∀ c ∈ y, blank c = true) → tR (q ++ y) = tR q := by
  intro y
  induction y generalizing q with
  | nil => intro _; simp
  | cons c t ih =>
    intro h
    have e : q ++ c :: t = (q ++ [c]) ++ t := by simp
    rw [e, ih _ (fun d hd => h d (by simp [hd])), tR_snoc, if_pos (h c (by simp))]
theorem Elem.trim {q : List UInt8} (h : Elem q) (x y : List UInt8) (hx : ∀ c ∈ x, blank c = true) (hy : ∀ c ∈ y, blank c = true) : trimB (x ++ q ++ y) = q := by
  rw [trimB_eq, List.append_assoc, tL_blanks _ _ hx]
  obtain ⟨c, r, hq, hc⟩ := h.first
  have e : tL (q ++ y) = q ++ y := by rw [hq, List.cons_append, tL_cons, hc]; rfl
  rw [e, tR_blanks _ _ hy]
  obtain ⟨d, s, hq2, hd⟩ := h.final
  rw [hq2, tR_snoc, hd]; rfl

/-- The blanks before an element, and what follows it. -/
def preL (k : Nat) : List UInt8 := if k = 0 then [] else if k = 1 then [32] else if k = 2 then [9] else [32, 9, 32]
def postL (k : Nat) : List UInt8 := if k = 0 then [44] else if k = 1 then [32, 44] else if k = 2 then [44, 44, 32, 44] else [9, 44]
theorem preL_blank (k : Nat) : ∀ c ∈ preL k, blank c = true := by
  have h0 : ∀ c ∈ ([] : List UInt8), blank c = true := by decide
  have h1 : ∀ c ∈ ([32] : List UInt8), blank c = true := by decide
  have h2 : ∀ c ∈ ([9] : List UInt8), blank c = true := by decide
  have h3 : ∀ c ∈ ([32, 9, 32] : List UInt8), blank c = true := by decide
  unfold preL
  split
  · exact h0
  · split
    · exact h1
    · split
      · exact h2
      · exact h3
theorem elems_cut (cur rest : List UInt8) : (scan 44 .out cur (44 :: rest)).map (fun ps => fil (ps.map trimB)) = (elems rest).map (fil [trimB cur] ++ ·) := by
  rw [scan, if_neg (by decide), if_pos rfl]
  unfold elems fil
  cases scan 44 .out [] rest with
  | none => rfl
  | some ps => simp [List.filter_cons]; split <;> simp
theorem fil_one {q : List UInt8} (h : q ≠ []) : fil [q] = [q] := by
  cases q with
  | nil => exact absurd rfl h
  | cons a t => rfl
theorem elems_one {q : List UInt8} (h : Elem q) (i j : Nat) (rest : List UInt8) : elems (preL i ++ q ++ postL j ++ rest) = (elems rest).map ([q] ++ ·) := by
  have hp := preL_blank i
  have h1 : ∀ z, scan 44 .out [] (preL i ++ q ++ z) = scan 44 .out (preL i ++ q) z := fun z => by
    rw [List.append_assoc, scan_plain (preL i) [] _ (fun c hc => by have := hp c hc; constructor <;> (rintro rfl; exact absurd this (by decide))), h.scan]; simp
  have t0 := h.trim (preL i) [] hp (by simp)
  rw [List.append_nil] at t0
  have t1 := h.trim (preL i) [32] hp (by intro c hc; simp at hc; subst hc; decide)
  have t2 := h.trim (preL i) [9] hp (by intro c hc; simp at hc; subst hc; decide)
  unfold elems
  rw [List.append_assoc, h1]
  unfold postL
  split
  · rw [List.cons_append, List.nil_append, elems_cut, t0, fil_one h.ne]
    rfl
  · split
    · show Option.map _ (scan 44 .out (preL i ++ q) ([32] ++ 44 :: rest)) = _
      rw [scan_plain [32] _ _ (by intro c hc; simp at hc; subst hc; decide), elems_cut, t1, fil_one h.ne]; rfl
    · split
      · show Option.map _ (scan 44 .out (preL i ++ q) (44 :: 44 :: 32 :: 44 :: rest)) = _
        rw [elems_cut, t0, fil_one h.ne]
        have e1 : elems (44 :: 32 :: 44 :: rest) = (elems (32 :: 44 :: rest)).map (fil [trimB []] ++ ·) := elems_cut [] _
        have e2 : elems (32 :: 44 :: rest) = (elems rest).map (fil [trimB [32]] ++ ·) := by
          show Option.map _ (scan 44 .out [] ([32] ++ 44 :: rest)) = _
          rw [scan_plain [32] _ _ (by intro c hc; simp at hc; subst hc; decide)]
          exact elems_cut [32] rest
        have f1 : fil [trimB []] = [] := by decide
        have f2 : fil [trimB [32]] = [] := by decide
        rw [e1, e2, f1, f2]
        show _ = Option.map _ (elems rest)
        cases elems rest <;> rfl
      · show Option.map _ (scan 44 .out (preL i ++ q) ([9] ++ 44 :: rest)) = _
        rw [scan_plain [9] _ _ (by intro c hc; simp at hc; subst hc; decide), elems_cut, t2, fil_one h.ne]; rfl
/-- After some elements: x is the text so far, qs its elements. -/
def Els (x : List UInt8) (qs : List (List UInt8)) : Prop := ctlS x = false ∧ ∀ rest, elems (x ++ rest) = (elems rest).map (qs ++ ·)
theorem Els0 : Els [] [] := ⟨rfl, fun rest => by simp⟩
theorem Els.step {x : List UInt8} {qs : List (List UInt8)} (h : Els x qs) {q : List UInt8} (hq : Elem q) (i j : Nat) : Els (x ++ (preL i ++ q ++ postL j)) (qs ++ [q]) := by
  refine ⟨?_, fun rest => ?_⟩
  · have h1 : ctlS (preL i) = false := by unfold preL; repeat' split
                                          all_goals decide
    have h2 : ctlS (postL j) = false := by unfold postL; repeat' split
                                           all_goals decide
    have h3 := hq.ctl
    have h4 := h.1
    unfold ctlS at *
    simp [h1, h2, h3, h4]
  · rw [List.append_assoc, h.2, elems_one hq]
    cases elems rest <;> simp
theorem Els.list {x : List UInt8} {qs : List (List UInt8)} (h : Els x qs) : listO x = some qs := by
  rw [listO_elems x h.1]
  have := h.2 []
  rw [List.append_nil] at this
  rw [this]
  have e : elems [] = some [] := by decide
  rw [e]; simp
end Go.Proofs.YtjcekkgoohkomaaDoor
