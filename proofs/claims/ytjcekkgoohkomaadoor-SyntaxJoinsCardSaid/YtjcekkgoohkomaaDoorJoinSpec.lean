/- Plain mathematics: what Join writes, and that Split reads it back. -/
import Derived.Test.YtjcekkgoohkomaaDoorSplitSpec
import Derived.Test.YtjcekkgoohkomaaDoorElemSpec
namespace Go.Proofs.YtjcekkgoohkomaaDoor

theorem scan_plain' (b : UInt8) : ∀ (x cur rest : List UInt8), (∀ c ∈ x, c ≠ 34 ∧ c ≠ b) → scan b .out cur (x ++ rest) = scan b .out (cur ++ x) rest := by
  intro x
  induction x with
  | nil => intro cur rest _; simp
  | cons c t ih =>
    intro cur rest h
    have hc := h c (by simp)
    rw [List.cons_append, scan, if_neg hc.1, if_neg hc.2, ih _ _ (fun d hd => h d (by simp [hd]))]
    simp
theorem scan_items' (b : UInt8) : ∀ (t cur rest : List UInt8), scan b .inn cur (escS t ++ 34 :: rest) = scan b .out (cur ++ escS t ++ [34]) rest := by
  intro t
  induction t with
  | nil =>
    intro cur rest
    show scan b .inn cur (34 :: rest) = _
    rw [scan, if_pos rfl]; simp [escS]
  | cons c r ih =>
    intro cur rest
    have e : escS (c :: r) = esc c ++ escS r := rfl
    rw [e, List.append_assoc]
    unfold esc
    by_cases h : c = 34 ∨ c = 92
    · rw [if_pos h]
      show scan b .inn cur (92 :: c :: (escS r ++ 34 :: rest)) = _
      rw [scan, if_neg (by decide), if_pos rfl, scan, ih]; simp
    · rw [if_neg h]
      show scan b .inn cur (c :: (escS r ++ 34 :: rest)) = _
      rw [scan, if_neg (fun e => h (.inl e)), if_neg (fun e => h (.inr e)), ih]; simp
theorem scan_quo' (b : UInt8) (t cur rest : List UInt8) : scan b .out cur (quoS t ++ rest) = scan b .out (cur ++ quoS t) rest := by
  show scan b .out cur (34 :: (escS t ++ [34] ++ rest)) = _
  rw [scan, if_pos rfl, List.append_assoc]
  show scan b .inn (cur ++ [34]) (escS t ++ 34 :: rest) = _
  rw [scan_items']; simp [quoS]
theorem scan_first (b : UInt8) : ∀ (l : List UInt8) (st : St) (cur p0 : List UInt8) (more : List (List UInt8)), scan b st cur l = some (p0 :: more) →
    (p0 = cur ++ l ∧ ∀ rest, scan b st cur (l ++ rest) = scan b .out (cur ++ l) rest) ∨ p0.length < cur.length + l.length := by
  intro l
  induction l with
  | nil =>
    intro st cur p0 more h
    cases st <;> simp [scan] at h
    obtain ⟨rfl, _⟩ := h
    exact .inl ⟨by simp, fun rest => by simp⟩
  | cons c r ih =>
    intro st cur p0 more h
    have step : ∀ st', scan b st' (cur ++ [c]) r = some (p0 :: more) → (∀ rest, scan b st cur (c :: r ++ rest) = scan b st' (cur ++ [c]) (r ++ rest)) →
        (p0 = cur ++ c :: r ∧ ∀ rest, scan b st cur (c :: r ++ rest) = scan b .out (cur ++ c :: r) rest) ∨ p0.length < cur.length + (c :: r).length := by
      intro st' h1 h2
      rcases ih st' _ _ _ h1 with ⟨h3, h4⟩ | h3
      · exact .inl ⟨by rw [h3]; simp, fun rest => by rw [h2, h4]; simp⟩
      · refine .inr ?_
        simp at h3 ⊢; omega
    cases st
    · by_cases c34 : c = 34
      · rw [scan, if_pos c34] at h
        exact step _ h (fun rest => by rw [List.cons_append, scan, if_pos c34])
      · by_cases cb : c = b
        · rw [scan, if_neg c34, if_pos cb] at h
          cases hr : scan b .out [] r with
          | none => rw [hr] at h; cases h
          | some qs => rw [hr] at h; simp at h; obtain ⟨rfl, _⟩ := h; exact .inr (by simp)
        · rw [scan, if_neg c34, if_neg cb] at h
          exact step _ h (fun rest => by rw [List.cons_append, scan, if_neg c34, if_neg cb])
    · by_cases c34 : c = 34
      · rw [scan, if_pos c34] at h
        exact step _ h (fun rest => by rw [List.cons_append, scan, if_pos c34])
      · by_cases c92 : c = 92
        · rw [scan, if_neg c34, if_pos c92] at h
          exact step _ h (fun rest => by rw [List.cons_append, scan, if_neg c34, if_pos c92])
        · rw [scan, if_neg c34, if_neg c92] at h
          exact step _ h (fun rest => by rw [List.cons_append, scan, if_neg c34, if_neg c92])
    · rw [scan] at h
      exact step _ h (fun rest => by rw [List.cons_append, scan])

def txtS (x : List UInt8) : List UInt8 := if tokS x = true then x else quoS x
def bodyS (p : List UInt8 × List UInt8) : List UInt8 := lowS p.1 ++ 61 :: txtS p.2
def pieceS (p : List UInt8 × List UInt8) : List UInt8 := 59 :: 32 :: bodyS p
def joinL (v : List UInt8) (ps : List (List UInt8 × List UInt8)) : List UInt8 := v ++ ps.flatMap pieceS
def goodB (p : List UInt8 × List UInt8) : Bool := tokS p.1 && !ctlS p.2
def joinO (v : List UInt8) (ps : List (List UInt8 × List UInt8)) : Option (List UInt8) := if ps.all goodB = true then some (joinL v ps) else none

theorem tokS_ctl {x : List UInt8} (h : tokS x = true) : ctlS x = false := by
  unfold tokS at h; simp at h
  unfold ctlS; rw [Bool.eq_false_iff]; intro hc
  obtain ⟨c, hc, hb⟩ := List.any_eq_true.mp hc
  rw [(tok_not (h.1 c hc)).2.2.2] at hb; cases hb
theorem tokS_all {x : List UInt8} (h : tokS x = true) : ∀ c ∈ x, tokB c = true := by
  unfold tokS at h; simp at h; exact h.1
theorem tokS_ne {x : List UInt8} (h : tokS x = true) : x ≠ [] := by
  rintro rfl; exact absurd h (by decide)
theorem tok_59 {c : UInt8} (h : tokB c = true) : c ≠ 59 ∧ c ≠ 61 := by
  constructor <;> (rintro rfl; exact absurd h (by decide))
theorem tok_low {c : UInt8} (h : tokB c = true) : tokB (lowB c) = true := by
  by_cases hu : 65 ≤ c.toNat ∧ c.toNat ≤ 90
  · have e := lowB_up hu.1 hu.2
    unfold tokB
    have : (decide (97 ≤ (lowB c).toNat) && decide ((lowB c).toNat ≤ 122)) = true := by rw [e]; simp; omega
    rw [this]; simp
  · rw [lowB_not hu]; exact h
theorem low_low (c : UInt8) : lowB (lowB c) = lowB c := by
  by_cases hu : 65 ≤ c.toNat ∧ c.toNat ≤ 90
  · have e := lowB_up hu.1 hu.2
    exact lowB_not (by rw [e]; omega)
  · rw [lowB_not hu, lowB_not hu]
theorem lowS_lowS (l : List UInt8) : lowS (lowS l) = lowS l := by simp [lowS, low_low]
theorem tokS_low {x : List UInt8} (h : tokS x = true) : tokS (lowS x) = true := by
  have h1 := tokS_all h
  have h2 := tokS_ne h
  unfold tokS lowS
  simp only [Bool.and_eq_true, List.all_map, List.all_eq_true, Function.comp]
  exact ⟨fun c hc => tok_low (h1 c hc), by cases x with | nil => exact absurd rfl h2 | cons a t => rfl⟩
theorem elem_tok {x : List UInt8} (h : tokS x = true) : Elem x := .inl ⟨tokS_ne h, by rw [List.all_eq_true]; exact tokS_all h⟩
theorem elem_txt {x : List UInt8} (h : ctlS x = false) : Elem (txtS x) := by
  unfold txtS
  by_cases ht : tokS x = true
  · rw [if_pos ht]; exact elem_tok ht
  · rw [if_neg ht]; exact .inr ⟨x, rfl, h⟩
theorem goodB_iff (p : List UInt8 × List UInt8) : goodB p = true ↔ tokS p.1 = true ∧ ctlS p.2 = false := by unfold goodB; simp
theorem scan_txt {x : List UInt8} (cur rest : List UInt8) : scan 59 .out cur (txtS x ++ rest) = scan 59 .out (cur ++ txtS x) rest := by
  unfold txtS
  by_cases ht : tokS x = true
  · rw [if_pos ht]
    exact scan_plain' 59 x cur rest (fun c hc => ⟨(tok_not (tokS_all ht c hc)).1, (tok_59 (tokS_all ht c hc)).1⟩)
  · rw [if_neg ht]; exact scan_quo' 59 x cur rest
theorem scan_body {p : List UInt8 × List UInt8} (h : goodB p = true) (cur rest : List UInt8) : scan 59 .out cur (bodyS p ++ rest) = scan 59 .out (cur ++ bodyS p) rest := by
  have ht := tokS_low ((goodB_iff p).mp h).1
  unfold bodyS
  rw [List.append_assoc, scan_plain' 59 _ _ _ (fun c hc => ⟨(tok_not (tokS_all ht c hc)).1, (tok_59 (tokS_all ht c hc)).1⟩)]
  show scan 59 .out _ ([61] ++ (txtS p.2 ++ rest)) = _
  rw [scan_plain' 59 [61] _ _ (by intro c hc; simp at hc; subst hc; decide), scan_txt]
  simp
theorem scan_pieces : ∀ (ps : List (List UInt8 × List UInt8)) (cur : List UInt8), ps.all goodB = true → scan 59 .out cur (ps.flatMap pieceS) = some (cur :: ps.map fun p => 32 :: bodyS p) := by
  intro ps
  induction ps with
  | nil => intro cur _; rfl
  | cons p r ih =>
    intro cur h
    simp only [List.all_cons, Bool.and_eq_true] at h
    have e : (p :: r).flatMap pieceS = 59 :: ([32] ++ (bodyS p ++ r.flatMap pieceS)) := by simp [pieceS]
    rw [e, scan, if_neg (by decide), if_pos rfl, scan_plain' 59 [32] _ _ (by intro c hc; simp at hc; subst hc; decide), scan_body h.1, ih _ h.2]
    rfl
theorem trim_body {p : List UInt8 × List UInt8} (h : goodB p = true) : trimB (32 :: bodyS p) = bodyS p := by
  have hg := (goodB_iff p).mp h
  rw [trimB_eq]
  obtain ⟨c, r, hq, hc⟩ := (elem_tok (tokS_low hg.1)).first
  have e1 : tL (32 :: bodyS p) = bodyS p := by
    rw [tL_cons, if_pos (by decide)]
    unfold bodyS
    rw [hq, List.cons_append, tL_cons, hc]; rfl
  rw [e1]
  obtain ⟨d, t, hq2, hd⟩ := (elem_txt hg.2).final
  have e2 : bodyS p = (lowS p.1 ++ 61 :: t) ++ [d] := by unfold bodyS; rw [hq2]; simp
  rw [e2, tR_snoc, hd]; rfl
theorem param_body {p : List UInt8 × List UInt8} (h : goodB p = true) : paramO (bodyS p) = some (lowS p.1, p.2) := by
  have hg := (goodB_iff p).mp h
  have ht := tokS_low hg.1
  have hc : cutE (bodyS p) = some (lowS p.1, txtS p.2) := cutE_app _ (fun hm => (tok_59 (tokS_all ht 61 hm)).2 rfl)
  unfold paramO
  rw [hc]
  simp only [ht, if_true]
  unfold txtS
  by_cases hx : tokS p.2 = true
  · rw [if_pos hx, if_pos hx, lowS_lowS]
  · rw [if_neg hx]
    have hq : tokS (quoS p.2) = false := by
      rw [Bool.eq_false_iff]; intro hh
      exact (tok_not (tokS_all hh 34 (by simp [quoS]))).1 rfl
    rw [hq, unq_quo _ hg.2, lowS_lowS]; rfl
theorem body_ne (p : List UInt8 × List UInt8) : bodyS p ≠ [] := by simp [bodyS]
theorem params_bodies : ∀ (ps : List (List UInt8 × List UInt8)), ps.all goodB = true → paramsO (ps.map bodyS) = some (ps.map fun p => (lowS p.1, p.2)) := by
  intro ps
  induction ps with
  | nil => intro _; rfl
  | cons p r ih =>
    intro h
    simp only [List.all_cons, Bool.and_eq_true] at h
    rw [List.map_cons, paramsO, if_neg (body_ne p), param_body h.1, ih h.2]; rfl
theorem ctl_body {p : List UInt8 × List UInt8} (h : goodB p = true) : ctlS (pieceS p) = false := by
  have hg := (goodB_iff p).mp h
  have h1 := (elem_tok (tokS_low hg.1)).ctl
  have h2 := (elem_txt hg.2).ctl
  have h3 : ctlB 59 = false := by decide
  have h4 : ctlB 32 = false := by decide
  have h5 : ctlB 61 = false := by decide
  unfold pieceS bodyS ctlS at *
  rw [List.any_cons, List.any_cons, List.any_append, List.any_cons, h1, h2, h3, h4, h5]; rfl
theorem ctl_join {v : List UInt8} (hv : ctlS v = false) : ∀ (ps : List (List UInt8 × List UInt8)), ps.all goodB = true → ctlS (joinL v ps) = false := by
  intro ps h
  have : ctlS (ps.flatMap pieceS) = false := by
    induction ps with
    | nil => rfl
    | cons p r ih =>
      simp only [List.all_cons, Bool.and_eq_true] at h
      have e : (p :: r).flatMap pieceS = pieceS p ++ r.flatMap pieceS := rfl
      have h1 := ctl_body h.1
      have h2 := ih h.2
      rw [e]; unfold ctlS at *
      rw [List.any_append, h1, h2]; rfl
  unfold joinL ctlS at *
  rw [List.any_append, hv, this]; rfl
/-- Split of Join. -/
theorem split_join {v : List UInt8} {ps : List (List UInt8 × List UInt8)} (hv : splitO v = some (v, [])) (h : ps.all goodB = true) : splitO (joinL v ps) = some (v, ps.map fun p => (lowS p.1, p.2)) := by
  have hc : ctlS v = false := by
    rw [Bool.eq_false_iff]; intro hc
    unfold splitO partsO at hv; rw [hc] at hv; cases hv
  obtain ⟨p0, more, hs⟩ : ∃ p0 more, scan 59 .out [] v = some (p0 :: more) := by
    unfold splitO partsO at hv
    rw [hc] at hv
    cases hs : scan 59 .out [] v with
    | none => rw [hs] at hv; cases hv
    | some qs =>
      have := scan_ne 59 v _ _ _ hs
      cases qs with
      | nil => exact absurd rfl this
      | cons p0 more => exact ⟨p0, more, rfl⟩
  have ht : trimB p0 = v := by
    unfold splitO partsO at hv
    rw [hc, hs] at hv
    simp only [Bool.false_eq_true, if_false, Option.map_some, List.map_cons] at hv
    cases hp : paramsO (more.map trimB) with
    | none => rw [hp] at hv; cases hv
    | some qs => rw [hp] at hv; simp at hv; exact hv.1
  rcases scan_first 59 v _ _ _ _ hs with ⟨h0, hr⟩ | h0
  · simp only [List.nil_append] at h0 hr
    subst h0
    have hp : partsO 59 (joinL p0 ps) = some (p0 :: ps.map bodyS) := by
      unfold partsO
      rw [ctl_join hc ps h]
      unfold joinL
      rw [hr, scan_pieces ps _ h]
      simp only [Bool.false_eq_true, if_false, Option.map_some, List.map_cons, ht, List.map_map]
      congr 2
      apply List.map_congr_left
      intro p hp
      exact trim_body (List.all_eq_true.mp h p hp)
    unfold splitO
    rw [hp]
    show Option.map _ (paramsO (ps.map bodyS)) = _
    rw [params_bodies ps h]; rfl
  · have := trimB_len p0
    rw [ht] at this
    simp at h0
    omega
theorem txt_len (x : List UInt8) : (txtS x).length ≤ 2 * x.length + 2 := by
  unfold txtS
  have := escS_le x
  split
  · omega
  · simp [quoS]; omega
theorem piece_len (p : List UInt8 × List UInt8) : (pieceS p).length ≤ 2 * (p.1.length + p.2.length) + 5 := by
  have := txt_len p.2
  simp [pieceS, bodyS, lowS_len]; omega
theorem join_len (v : List UInt8) : ∀ (ps : List (List UInt8 × List UInt8)), (∀ p ∈ ps, p.1.length + p.2.length ≤ 400) → (joinL v ps).length ≤ v.length + 805 * ps.length := by
  intro ps
  induction ps with
  | nil => intro _; simp [joinL]
  | cons p r ih =>
    intro h
    have h1 := ih (fun q hq => h q (by simp [hq]))
    have h2 := piece_len p
    have h3 := h p (by simp)
    unfold joinL at *
    have e : (p :: r).flatMap pieceS = pieceS p ++ r.flatMap pieceS := rfl
    rw [e]
    simp only [List.length_append, List.length_cons] at *
    omega
theorem join_take {v : List UInt8} {ps : List (List UInt8 × List UInt8)} {k : Nat} {p : List UInt8 × List UInt8} (h : ps[k]? = some p) : joinL v (ps.take (k + 1)) = joinL v (ps.take k) ++ pieceS p := by
  unfold joinL; rw [List.take_add_one, h]; simp
theorem good_take {ps : List (List UInt8 × List UInt8)} {k : Nat} {p : List UInt8 × List UInt8} (h : ps[k]? = some p) (hg : (ps.take k).all goodB = true) (hp : goodB p = true) : (ps.take (k + 1)).all goodB = true := by
  rw [List.take_add_one, h, List.all_append, hg]; simp [hp]
theorem join_bad {v : List UInt8} {ps : List (List UInt8 × List UInt8)} {k : Nat} {p : List UInt8 × List UInt8} (h : ps[k]? = some p) (hp : goodB p = false) : joinO v ps = none := by
  unfold joinO; rw [if_neg]
  intro ha
  rw [List.all_eq_true.mp ha p (List.mem_of_getElem? h)] at hp; cases hp
theorem join_done {v : List UInt8} {ps : List (List UInt8 × List UInt8)} {k : Nat} (hk : ps.length ≤ k) (hg : (ps.take k).all goodB = true) : joinO v ps = some (joinL v (ps.take k)) := by
  rw [List.take_of_length_le hk] at *; unfold joinO; rw [if_pos hg]
end Go.Proofs.YtjcekkgoohkomaaDoor
