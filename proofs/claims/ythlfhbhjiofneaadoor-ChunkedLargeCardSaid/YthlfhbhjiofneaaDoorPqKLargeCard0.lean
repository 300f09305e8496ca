import Derived.Test.YthlfhbhjiofneaaDoorKSpec
import Derived.Test.YthlfhbhjiofneaaDoorFName
import Derived.Test.YthlfhbhjiofneaaDoorASpec
/- The reference's machine of chunked bodies, plain, and what it has to do with the program's. -/
namespace Go.Proofs.YthlfhbhjiofneaaDoor

/-- A state of the reference. -/
structure Rs where
  p : Nat
  d : Nat
  n : Nat
  ln : Nat
  tt : Nat
  lf : Nat
  se : Nat
  tx : List UInt8
  fs : List (List UInt8 × List UInt8)
  bad : Nat
def Rs.new : Rs := ⟨0, 0, 0, 0, 0, 0, 0, [], [], 0⟩
def badR (r : Rs) (e : Nat) : Rs := { r with bad := e }
def sizedR (r : Rs) (c : UInt8) : Rs :=
  if c.toNat = 13 ∧ 0 < r.d then { r with p := 2 }
  else if r.ln = 256 then badR r 33
  else if r.p = 1 then (if ctlB c = true then badR r 33 else { r with ln := r.ln + 1 })
  else if c.toNat = 59 ∧ 0 < r.d then { r with p := 1, ln := r.ln + 1 }
  else match hexV c with
    | none => badR r 33
    | some v => if r.d = 8 then badR r 33
      else if 65536 < r.tt + (16 * r.n + v) then { r with d := r.d + 1, n := 16 * r.n + v, bad := 5 }
      else { r with d := r.d + 1, n := 16 * r.n + v, ln := r.ln + 1 }
def endedR (r : Rs) (c : UInt8) : Rs :=
  if r.se = 8192 ∨ c.toNat = 0 ∨ ((decide (c.toNat = 10)) != decide (r.p = 7)) = true then badR r 34
  else if c.toNat = 13 then { r with p := 7, se := r.se + 1 }
  else if c.toNat ≠ 10 then { r with tx := r.tx ++ [c], se := r.se + 1 }
  else if r.tx = [] then { r with p := 8, se := r.se + 1 }
  else if ((cutC 58 r.tx).2.2 = false ∨ trB (cutC 58 r.tx).1 (cutC 58 r.tx).2.1 = false) ∨ r.fs.length = 64 then badR r 34
  else { r with fs := r.fs ++ [(nameR (cutC 58 r.tx).1, valueR (cutC 58 r.tx).2.1)], p := 6, tx := [], se := r.se + 1 }
def stepR (r : Rs) (c : UInt8) : Rs :=
  if r.p = 0 ∨ r.p = 1 then sizedR r c
  else if r.p = 2 then (if c.toNat ≠ 10 then badR r 33 else { r with p := if r.n = 0 then 6 else 3, lf := r.n })
  else if r.p = 3 then { r with lf := r.lf - 1, tt := r.tt + 1, p := if r.lf - 1 = 0 then 4 else 3 }
  else if r.p = 4 then (if c.toNat ≠ 13 then badR r 33 else { r with p := 5 })
  else if r.p = 5 then (if c.toNat ≠ 10 then badR r 33 else { r with p := 0, d := 0, n := 0, ln := 0 })
  else endedR r c
/-- What the two machines' states have to do with one another while there is no error. -/
structure RelR (s : Dc) (r : Rs) : Prop where
  a0 : s.pl = 0 → r.d = s.len ∧ r.ln = s.len ∧ r.n = s.sz ∧ r.tt = s.tot
  a1 : s.pl = 1 → 0 < r.d ∧ r.ln = s.len ∧ r.n = s.sz ∧ r.tt = s.tot
  a2 : s.pl = 2 → r.n = s.sz ∧ r.tt = s.tot
  a3 : s.pl = 3 → r.lf = s.sz ∧ r.tt = s.tot
  a4 : s.pl = 4 ∨ s.pl = 5 → r.tt = s.tot ∧ s.sz = 0
  a5 : s.pl ≤ 5 → r.se = 0 ∧ r.tx = []
  a6 : s.pl = 6 ∨ s.pl = 7 → r.se = s.len ∧ r.tx = s.line
structure RelS (s : Dc) (r : Rs) : Prop where
  hp : r.p = s.pl
  hb : r.bad = s.er
  hf : r.fs = s.trs
  hr : s.er = 0 → RelR s r
/-- The reference's numbers are small, so that nothing wraps. -/
structure RsOk (r : Rs) : Prop where
  p : r.p ≤ 8
  d : r.d ≤ 8
  n : r.n ≤ 1048576 + 16
  ln : r.ln ≤ 256
  tt : r.tt ≤ 65536
  lf : r.lf ≤ 1048576 + 16
  l3 : r.p = 3 → 0 < r.lf ∧ r.tt + r.lf ≤ 65536
  n0 : r.p = 0 → r.tt + r.n ≤ 65536
  n1 : r.p = 1 → r.tt + r.n ≤ 65536
  n2 : r.p = 2 → r.tt + r.n ≤ 65536
  se : r.se ≤ 8192
  tx : r.tx.length ≤ r.se
  fs : r.fs.length ≤ 64
theorem rel_new : RelS Dc.new Rs.new := by
  refine ⟨rfl, rfl, rfl, fun _ => ?_⟩
  constructor <;> simp [Dc.new, Rs.new]
theorem rsok_new : RsOk Rs.new := by constructor <;> simp [Rs.new]
/-- The error of a step. -/
def afterS (s : Dc) (c : UInt8) : Dc := if s.pl = 3 then dataS s 1 else if (stepS s c).1 = 0 then (stepS s c).2 else { (stepS s c).2 with er := (stepS s c).1 }
theorem after_er {s : Dc} {c : UInt8} (h3 : s.pl ≠ 3) {t : Dc} {e : Nat} (h : stepS s c = (e, t)) (he : e ≠ 0) : afterS s c = { t with er := e } := by
  unfold afterS; rw [if_neg h3, h, if_neg he]
theorem after_ok {s : Dc} {c : UInt8} (h3 : s.pl ≠ 3) {t : Dc} (h : stepS s c = (0, t)) : afterS s c = t := by
  unfold afterS; rw [if_neg h3, h, if_pos rfl]
theorem rel_bad {s : Dc} {r : Rs} (h : RelS s r) {t : Dc} {q : Rs} {e : Nat} (he : e ≠ 0) (h1 : t.pl = s.pl) (h2 : t.trs = s.trs) (q1 : q.p = r.p) (q2 : q.fs = r.fs) (q3 : q.bad = e) : RelS { t with er := e } q :=
  ⟨q1.trans (h.hp.trans h1.symm), q3, q2.trans (h.hf.trans h2.symm), fun e0 => absurd e0 he⟩
theorem hex_not {c : UInt8} {v : Nat} (h : hexV c = some v) : c.toNat ≠ 13 ∧ c.toNat ≠ 59 := by
  unfold hexV at h
  constructor <;> intro e <;> rw [e] at h <;> simp at h
theorem rel_step {s : Dc} {r : Rs} (h : RelS s r) (hok : s.Ok) (he : s.er = 0) (h8 : s.pl ≠ 8) (c : UInt8) : RelS (afterS s c) (stepR r c) := by
  have hR := h.hr he
  have hp := h.hp
  have hf := h.hf
  have hbd : r.bad = 0 := h.hb.trans he
  have h11 := hok.b11
  rcases (show s.pl = 0 ∨ s.pl = 1 ∨ s.pl = 2 ∨ s.pl = 3 ∨ s.pl = 4 ∨ s.pl = 5 ∨ s.pl = 6 ∨ s.pl = 7 by omega) with p | p | p | p | p | p | p | p
  · obtain ⟨d1, d2, d3, d4⟩ := hR.a0 p
    have d5 := hR.a5 (by omega)
    have hl := hok.b2 p
    have e1 : stepS s c = sizeS s c := by unfold stepS; rw [if_pos p]
    have e2 : stepR r c = sizedR r c := by unfold stepR; rw [if_pos (.inl (by omega))]
    rw [e2]
    unfold sizedR
    unfold sizeS at e1
    cases hv : hexV c with
    | some v =>
      obtain ⟨n1, n2⟩ := hex_not hv
      rw [hv] at e1
      simp only at e1
      unfold digS at e1
      rw [if_neg (fun e => n1 e.1), if_neg (by omega), if_neg (by omega), if_neg (fun e => n2 e.1)]
      simp only
      by_cases q1 : s.len = 8
      · rw [if_pos q1] at e1
        rw [if_pos (by omega), after_er (by omega) e1 (by decide)]
        exact rel_bad h (by decide) rfl rfl rfl rfl rfl
      · rw [if_neg q1] at e1
        rw [if_neg (by omega)]
        by_cases q2 : 65536 < s.tot + (s.sz * 16 + v)
        · rw [if_pos q2] at e1
          rw [if_pos (by omega), after_er (by omega) e1 (by decide)]
          exact rel_bad h (by decide) rfl rfl rfl rfl rfl
        · rw [if_neg q2] at e1
          rw [if_neg (by omega), after_ok (by omega) e1]
          refine ⟨by simp only; omega, by simp only; omega, hf, fun _ => ⟨fun _ => ⟨by simp only; omega, by simp only; omega, by simp only; omega, d4⟩, fun q => by simp only at q; omega, fun q => by simp only at q; omega, fun q => by simp only at q; omega, fun q => by simp only at q; omega, fun _ => d5, fun q => by simp only at q; omega⟩⟩
    | none =>
      rw [hv] at e1
      simp only at e1
      by_cases q1 : s.len = 0
      · rw [if_pos q1] at e1
        rw [if_neg (fun e => by omega), if_neg (by omega), if_neg (by omega), if_neg (fun e => by omega)]
        simp only
        rw [after_er (by omega) e1 (by decide)]
        exact rel_bad h (by decide) rfl rfl rfl rfl rfl
      · rw [if_neg q1] at e1
        by_cases q2 : c.toNat = 59
        · rw [if_pos q2] at e1
          rw [if_neg (fun e => by omega), if_neg (by omega), if_neg (by omega), if_pos ⟨q2, by omega⟩, after_ok (by omega) e1]
          exact ⟨rfl, by simp only; omega, hf, fun _ => ⟨fun q => (by cases q), fun _ => ⟨by simp only; omega, by simp only; omega, d3, d4⟩, fun q => (by cases q), fun q => (by cases q), fun q => (by rcases q with q | q <;> cases q), fun _ => d5, fun q => (by rcases q with q | q <;> cases q)⟩⟩
        · rw [if_neg q2] at e1
          unfold expS at e1
          by_cases q3 : c.toNat = 13
          · rw [if_pos q3] at e1
            rw [if_pos ⟨q3, by omega⟩, after_ok (by omega) e1]
            exact ⟨rfl, by simp only; omega, hf, fun _ => ⟨fun q => (by cases q), fun q => (by cases q), fun _ => ⟨d3, d4⟩, fun q => (by cases q), fun q => (by rcases q with q | q <;> cases q), fun _ => d5, fun q => (by rcases q with q | q <;> cases q)⟩⟩
          · rw [if_neg q3] at e1
            rw [if_neg (fun e => q3 e.1), if_neg (by omega), if_neg (by omega), if_neg (fun e => q2 e.1)]
            simp only
            rw [after_er (by omega) e1 (by decide)]
            exact rel_bad h (by decide) rfl rfl rfl rfl rfl
  · obtain ⟨d1, d2, d3, d4⟩ := hR.a1 p
    have d5 := hR.a5 (by omega)
    have e1 : stepS s c = extS s c := by unfold stepS; rw [if_neg (by omega), if_pos p]
    have e2 : stepR r c = sizedR r c := by unfold stepR; rw [if_pos (.inr (by omega))]
    rw [e2]
    unfold sizedR
    unfold extS at e1
    by_cases q3 : c.toNat = 13
    · rw [if_pos q3] at e1
      rw [if_pos ⟨q3, d1⟩, after_ok (by omega) e1]
      exact ⟨rfl, by simp only; omega, hf, fun _ => ⟨fun q => (by cases q), fun q => (by cases q), fun _ => ⟨d3, d4⟩, fun q => (by cases q), fun q => (by rcases q with q | q <;> cases q), fun _ => d5, fun q => (by rcases q with q | q <;> cases q)⟩⟩
    · rw [if_neg q3] at e1
      rw [if_neg (fun e => q3 e.1)]
      by_cases q4 : s.len = 256
      · rw [if_pos (.inr q4)] at e1
        rw [if_pos (by omega), after_er (by omega) e1 (by decide)]
        exact rel_bad h (by decide) rfl rfl rfl rfl rfl
      · rw [if_neg (by omega), if_pos (by omega)]
        cases q5 : ctlB c with
        | true =>
          rw [if_pos (.inl q5)] at e1
          rw [if_pos rfl, after_er (by omega) e1 (by decide)]
          exact rel_bad h (by decide) rfl rfl rfl rfl rfl
        | false =>
          rw [if_neg (by simp [q5, q4])] at e1
          rw [if_neg (by simp), after_ok (by omega) e1]
          exact ⟨hp, by simp only; omega, hf, fun _ => ⟨fun q => by simp only at q; omega, fun _ => ⟨d1, by simp only; omega, d3, d4⟩, fun q => by simp only at q; omega, fun q => by simp only at q; omega, fun q => by simp only at q; omega, fun _ => d5, fun q => by simp only at q; omega⟩⟩
  · obtain ⟨d3, d4⟩ := hR.a2 p
    have d5 := hR.a5 (by omega)
    have hb6 := hok.b6 (by omega)
    have e1 : stepS s c = endS s c := by unfold stepS; rw [if_neg (by omega), if_neg (by omega), if_pos p]
    have e2 : stepR r c = if c.toNat ≠ 10 then badR r 33 else { r with p := if r.n = 0 then 6 else 3, lf := r.n } := by unfold stepR; rw [if_neg (by omega), if_pos (by omega)]
    rw [e2]
    unfold endS expS at e1
    by_cases q1 : c.toNat = 10
    · rw [if_neg (by simp [q1])]
      by_cases q2 : s.sz = 0
      · rw [if_pos q2, if_pos q1] at e1
        rw [if_pos (by omega), after_ok (by omega) e1]
        exact ⟨rfl, by simp only; omega, hf, fun _ => ⟨fun q => (by cases q), fun q => (by cases q), fun q => (by cases q), fun q => (by cases q), fun q => (by rcases q with q | q <;> cases q), fun q => by simp only at q; omega, fun _ => ⟨d5.1, by rw [d5.2]; exact (List.eq_nil_of_length_eq_zero hb6).symm⟩⟩⟩
      · rw [if_neg q2, if_pos q1] at e1
        rw [if_neg (by omega), after_ok (by omega) e1]
        exact ⟨rfl, by simp only; omega, hf, fun _ => ⟨fun q => (by cases q), fun q => (by cases q), fun q => (by cases q), fun _ => ⟨d3, d4⟩, fun q => (by rcases q with q | q <;> cases q), fun _ => d5, fun q => (by rcases q with q | q <;> cases q)⟩⟩
    · rw [if_pos q1]
      rw [if_neg q1, if_neg q1, ite_self] at e1
      rw [after_er (by omega) e1 (by decide)]
      exact rel_bad h (by decide) rfl rfl rfl rfl rfl
  · obtain ⟨d3, d4⟩ := hR.a3 p
    have d5 := hR.a5 (by omega)
    have e2 : stepR r c = { r with lf := r.lf - 1, tt := r.tt + 1, p := if r.lf - 1 = 0 then 4 else 3 } := by unfold stepR; rw [if_neg (by omega), if_neg (by omega), if_pos (by omega)]
    have e1 : afterS s c = dataS s 1 := by unfold afterS; rw [if_pos p]
    rw [e2, e1]
    unfold dataS
    have hz : (r.lf - 1 = 0) = (s.sz - 1 = 0) := by rw [d3]
    refine ⟨by simp only [hz], by simp only; omega, hf, fun _ => ?_⟩
    by_cases q : s.sz - 1 = 0
    · refine ⟨?_, ?_, ?_, ?_, fun _ => ⟨by simp only; omega, q⟩, fun _ => d5, ?_⟩ <;> simp [q]
    · refine ⟨?_, ?_, ?_, fun _ => ⟨by simp only; omega, by simp only; omega⟩, ?_, fun _ => d5, ?_⟩ <;> simp [q]
  · obtain ⟨d4, d6⟩ := hR.a4 (.inl p)
    have d5 := hR.a5 (by omega)
    have e1 : stepS s c = expS s c 13 5 := by unfold stepS; rw [if_neg (by omega), if_neg (by omega), if_neg (by omega), if_pos p]
    have e2 : stepR r c = if c.toNat ≠ 13 then badR r 33 else { r with p := 5 } := by unfold stepR; rw [if_neg (by omega), if_neg (by omega), if_neg (by omega), if_pos (by omega)]
    rw [e2]
    unfold expS at e1
    by_cases q1 : c.toNat = 13
    · rw [if_pos q1] at e1
      rw [if_neg (by simp [q1]), after_ok (by omega) e1]
      exact ⟨rfl, by simp only; omega, hf, fun _ => ⟨fun q => (by cases q), fun q => (by cases q), fun q => (by cases q), fun q => (by cases q), fun _ => ⟨d4, d6⟩, fun _ => d5, fun q => (by rcases q with q | q <;> cases q)⟩⟩
    · rw [if_neg q1] at e1
      rw [if_pos q1, after_er (by omega) e1 (by decide)]
      exact rel_bad h (by decide) rfl rfl rfl rfl rfl
  · obtain ⟨d4, d6⟩ := hR.a4 (.inr p)
    have d5 := hR.a5 (by omega)
    have e1 : stepS s c = expS s c 10 0 := by unfold stepS; rw [if_neg (by omega), if_neg (by omega), if_neg (by omega), if_neg (by omega), if_pos p]
    have e2 : stepR r c = if c.toNat ≠ 10 then badR r 33 else { r with p := 0, d := 0, n := 0, ln := 0 } := by unfold stepR; rw [if_neg (by omega), if_neg (by omega), if_neg (by omega), if_neg (by omega), if_pos (by omega)]
    have hb4 := hok.b4 (by omega) (by omega)
    rw [e2]
    unfold expS at e1
    by_cases q1 : c.toNat = 10
    · rw [if_pos q1] at e1
      rw [if_neg (by simp [q1]), after_ok (by omega) e1]
      exact ⟨rfl, by simp only; omega, hf, fun _ => ⟨fun _ => ⟨hb4.symm, hb4.symm, d6.symm, d4⟩, fun q => (by cases q), fun q => (by cases q), fun q => (by cases q), fun q => (by rcases q with q | q <;> cases q), fun _ => d5, fun q => (by rcases q with q | q <;> cases q)⟩⟩
    · rw [if_neg q1] at e1
      rw [if_pos q1, after_er (by omega) e1 (by decide)]
      exact rel_bad h (by decide) rfl rfl rfl rfl rfl
  all_goals
    obtain ⟨d3, d4⟩ := hR.a6 (by omega)
    have e1 : stepS s c = trlS s c := by unfold stepS; rw [if_neg (by omega), if_neg (by omega), if_neg (by omega), if_neg (by omega), if_neg (by omega)]
    have e2 : stepR r c = endedR r c := by unfold stepR; rw [if_neg (by omega), if_neg (by omega), if_neg (by omega), if_neg (by omega), if_neg (by omega)]
    have hw := hok.b7 (by omega)
    rw [e2]
    unfold endedR
    unfold trlS at e1
    have hcond : (r.se = 8192 ∨ c.toNat = 0 ∨ ((decide (c.toNat = 10)) != decide (r.p = 7)) = true) = (s.len = 8192 ∨ c.toNat = 0 ∨ ((decide (c.toNat = 10)) != decide (s.pl = 7)) = true) := by rw [d3, hp]
    by_cases q0 : s.len = 8192 ∨ c.toNat = 0 ∨ ((decide (c.toNat = 10)) != decide (s.pl = 7)) = true
    · rw [if_pos q0] at e1
      rw [if_pos (hcond ▸ q0), after_er (by omega) e1 (by decide)]
      exact rel_bad h (by decide) rfl rfl rfl rfl rfl
    · rw [if_neg q0] at e1
      rw [if_neg (hcond ▸ q0)]
      by_cases q1 : c.toNat = 10
      · rw [if_pos q1] at e1
        rw [if_neg (by omega), if_neg (by simp [q1])]
        unfold lineS at e1
        simp only at e1
        by_cases q2 : s.line = []
        · rw [if_pos q2] at e1
          rw [if_pos (d4.trans q2), after_ok (by omega) e1]
          exact ⟨rfl, by simp only; omega, hf, fun _ => ⟨fun q => (by cases q), fun q => (by cases q), fun q => (by cases q), fun q => (by cases q), fun q => (by rcases q with q | q <;> cases q), fun q => by simp only at q; omega, fun q => (by rcases q with q | q <;> cases q)⟩⟩
        · rw [if_neg q2] at e1
          rw [if_neg (by rw [d4]; exact q2), d4, hf]
          by_cases q3 : (cutC 58 s.line).2.2 = false ∨ s.trs.length = 64
          · rw [if_pos q3] at e1
            rw [if_pos (by rcases q3 with q | q; exact .inl (.inl q); exact .inr q), after_er (by omega) e1 (by decide)]
            exact rel_bad h (by decide) rfl rfl rfl rfl rfl
          · rw [if_neg q3] at e1
            by_cases q4 : trB (cutC 58 s.line).1 (cutC 58 s.line).2.1 = false
            · rw [if_pos q4] at e1
              rw [if_pos (.inl (.inr q4)), after_er (by omega) e1 (by decide)]
              exact rel_bad h (by decide) rfl rfl rfl rfl rfl
            · rw [if_neg q4] at e1
              rw [if_neg (by rintro ((q | q) | q); exact q3 (.inl q); exact q4 q; exact q3 (.inr q)), after_ok (by omega) e1]
              exact ⟨rfl, by simp only; omega, by simp only, fun _ => ⟨fun q => (by cases q), fun q => (by cases q), fun q => (by cases q), fun q => (by cases q), fun q => (by rcases q with q | q <;> cases q), fun q => by simp only at q; omega, fun _ => ⟨by simp only; omega, rfl⟩⟩⟩
      · rw [if_neg q1] at e1
        by_cases q2 : c.toNat = 13
        · rw [if_pos q2] at e1
          rw [if_pos q2, after_ok (by omega) e1]
          exact ⟨rfl, by simp only; omega, hf, fun _ => ⟨fun q => (by cases q), fun q => (by cases q), fun q => (by cases q), fun q => (by cases q), fun q => (by rcases q with q | q <;> cases q), fun q => by simp only at q; omega, fun _ => ⟨by simp only; omega, d4⟩⟩⟩
        · rw [if_neg q2] at e1
          rw [if_neg q2, if_pos q1, after_ok (by omega) e1]
          exact ⟨hp, by simp only; omega, hf, fun _ => ⟨fun q => by simp only at q; omega, fun q => by simp only at q; omega, fun q => by simp only at q; omega, fun q => by simp only at q; omega, fun q => by simp only at q; omega, fun q => by simp only at q; omega, fun _ => ⟨by simp only; omega, by simp only [d4]⟩⟩⟩
end Go.Proofs.YthlfhbhjiofneaaDoor

/- The reference's Write, plain: its machine over bytes says what the program's says. -/
namespace Go.Proofs.YthlfhbhjiofneaaDoor

theorem rsok_sized {r : Rs} (h : RsOk r) (hp : r.p = 0 ∨ r.p = 1) (c : UInt8) (hb : (sizedR r c).bad = 0) : RsOk (sizedR r c) := by
  obtain ⟨b1, b2, b3, b4, b5, b6, b7, b8, b9, b10, b11, b12, b13⟩ := h
  have htn : r.tt + r.n ≤ 65536 := by rcases hp with h | h; exact b8 h; exact b9 h
  unfold sizedR at hb ⊢
  split at hb
  · rename_i q; rw [if_pos q]
    exact ⟨by simp, b2, b3, b4, b5, b6, fun e => by simp at e, fun e => by simp at e, fun e => by simp at e, fun _ => htn, b11, b12, b13⟩
  · rename_i q; rw [if_neg q]
    split at hb
    · simp [badR] at hb
    · rename_i q2; rw [if_neg q2]
      split at hb
      · rename_i q3; rw [if_pos q3]
        split at hb
        · simp [badR] at hb
        · rename_i q4; rw [if_neg q4]
          exact ⟨b1, b2, b3, by simp only; omega, b5, b6, fun e => by simp only at e; omega, fun _ => htn, fun _ => htn, fun _ => htn, b11, b12, b13⟩
      · rename_i q3; rw [if_neg q3]
        split at hb
        · rename_i q4; rw [if_pos q4]
          exact ⟨by simp, b2, b3, by simp only; omega, b5, b6, fun e => by simp at e, fun _ => htn, fun _ => htn, fun _ => htn, b11, b12, b13⟩
        · rename_i q4; rw [if_neg q4]
          cases hv : hexV c with
          | none => rw [hv] at hb; simp [badR] at hb
          | some v =>
            have hvl := hexV_lt hv
            rw [hv] at hb
            simp only at hb ⊢
            split at hb
            · simp [badR] at hb
            · rename_i q5; rw [if_neg q5]
              split at hb
              · simp at hb
              · rename_i q6; rw [if_neg q6]
                exact ⟨b1, by simp only; omega, by simp only; omega, by simp only; omega, b5, b6, fun e => by simp only at e; omega, fun _ => by simp only; omega, fun _ => by simp only; omega, fun _ => by simp only; omega, b11, b12, b13⟩
theorem rsok_ended {r : Rs} (h : RsOk r) (hp : r.p = 6 ∨ r.p = 7) (c : UInt8) (hb : (endedR r c).bad = 0) : RsOk (endedR r c) := by
  obtain ⟨b1, b2, b3, b4, b5, b6, b7, b8, b9, b10, b11, b12, b13⟩ := h
  unfold endedR at hb ⊢
  split at hb
  · simp [badR] at hb
  · rename_i q; rw [if_neg q]
    have hse : r.se ≠ 8192 := fun e => q (.inl e)
    split at hb
    · rename_i q2; rw [if_pos q2]
      exact ⟨by simp, b2, b3, b4, b5, b6, fun e => by simp at e, fun e => by simp at e, fun e => by simp at e, fun e => by simp at e, by simp only; omega, by simp only; omega, b13⟩
    · rename_i q2; rw [if_neg q2]
      split at hb
      · rename_i q3; rw [if_pos q3]
        exact ⟨b1, b2, b3, b4, b5, b6, fun e => by simp only at e; omega, fun e => by simp only at e; omega, fun e => by simp only at e; omega, fun e => by simp only at e; omega, by simp only; omega, by simp; omega, b13⟩
      · rename_i q3; rw [if_neg q3]
        split at hb
        · rename_i q4; rw [if_pos q4]
          exact ⟨by simp, b2, b3, b4, b5, b6, fun e => by simp at e, fun e => by simp at e, fun e => by simp at e, fun e => by simp at e, by simp only; omega, by simp only; omega, b13⟩
        · rename_i q4; rw [if_neg q4]
          split at hb
          · simp [badR] at hb
          · rename_i q5; rw [if_neg q5]
            have hfs : r.fs.length ≠ 64 := fun e => q5 (.inr e)
            exact ⟨by simp, b2, b3, b4, b5, b6, fun e => by simp at e, fun e => by simp at e, fun e => by simp at e, fun e => by simp at e, by simp only; omega, by simp, by simp; omega⟩
/-- A step without an error keeps the bounds. -/
theorem rsok_step {r : Rs} (h : RsOk r) (h8 : r.p ≠ 8) (c : UInt8) (hb : (stepR r c).bad = 0) : RsOk (stepR r c) := by
  have hok := h
  obtain ⟨b1, b2, b3, b4, b5, b6, b7, b8, b9, b10, b11, b12, b13⟩ := h
  unfold stepR at hb ⊢
  split at hb
  · rename_i q; rw [if_pos q]; exact rsok_sized hok q c hb
  · rename_i q; rw [if_neg q]
    split at hb
    · rename_i q2; rw [if_pos q2]
      have htn := b10 q2
      split at hb
      · simp [badR] at hb
      · rename_i q3; rw [if_neg q3]
        by_cases q4 : r.n = 0
        · rw [if_pos q4]
          exact ⟨by simp, b2, b3, b4, b5, b3, fun e => by simp at e, fun e => by simp at e, fun e => by simp at e, fun e => by simp at e, b11, b12, b13⟩
        · rw [if_neg q4]
          exact ⟨by simp, b2, b3, b4, b5, b3, fun _ => ⟨by simp only; omega, htn⟩, fun e => by simp at e, fun e => by simp at e, fun e => by simp at e, b11, b12, b13⟩
    · rename_i q2; rw [if_neg q2]
      split at hb
      · rename_i q3; rw [if_pos q3]
        obtain ⟨l1, l2⟩ := b7 q3
        by_cases q4 : r.lf - 1 = 0
        · rw [if_pos q4]
          exact ⟨by simp, b2, b3, b4, by simp only; omega, by simp only; omega, fun e => by simp at e, fun e => by simp at e, fun e => by simp at e, fun e => by simp at e, b11, b12, b13⟩
        · rw [if_neg q4]
          exact ⟨by simp, b2, b3, b4, by simp only; omega, by simp only; omega, fun _ => ⟨by simp only; omega, by simp only; omega⟩, fun e => by simp at e, fun e => by simp at e, fun e => by simp at e, b11, b12, b13⟩
      · rename_i q3; rw [if_neg q3]
        split at hb
        · rename_i q4; rw [if_pos q4]
          split at hb
          · simp [badR] at hb
          · rename_i q5; rw [if_neg q5]
            exact ⟨by simp, b2, b3, b4, b5, b6, fun e => by simp at e, fun e => by simp at e, fun e => by simp at e, fun e => by simp at e, b11, b12, b13⟩
        · rename_i q4; rw [if_neg q4]
          split at hb
          · rename_i q5; rw [if_pos q5]
            split at hb
            · simp [badR] at hb
            · rename_i q6; rw [if_neg q6]
              exact ⟨by simp, by simp, by simp, by simp, b5, b6, fun e => by simp at e, fun _ => by simp only; omega, fun e => by simp at e, fun e => by simp at e, b11, b12, b13⟩
          · rename_i q5; rw [if_neg q5]
            exact rsok_ended hok (by omega) c hb
/-- What the reference's Write returns: the state, the data, and how many bytes were taken. -/
def wrR : Rs → List UInt8 → Rs × List UInt8 × Nat
  | r, [] => (r, [], 0)
  | r, c :: l =>
    if r.bad ≠ 0 ∨ r.p = 8 then (r, [], 0)
    else if (stepR r c).bad ≠ 0 then (stepR r c, [], 0)
    else if r.p = 3 then ((wrR (stepR r c) l).1, c :: (wrR (stepR r c) l).2.1, (wrR (stepR r c) l).2.2 + 1)
    else ((wrR (stepR r c) l).1, (wrR (stepR r c) l).2.1, (wrR (stepR r c) l).2.2 + 1)
theorem wrR_stop {r : Rs} (h : r.bad ≠ 0 ∨ r.p = 8) (l : List UInt8) : wrR r l = (r, [], 0) := by
  cases l with
  | nil => rfl
  | cons c t => unfold wrR; rw [if_pos h]
theorem stepR_bad3 {r : Rs} (h : r.p = 3) (hb : r.bad = 0) (c : UInt8) : (stepR r c).bad = 0 := by
  unfold stepR; rw [if_neg (by omega), if_neg (by omega), if_pos h]; exact hb
theorem step_keeps (s : Dc) (c : UInt8) : (stepS s c).2.er = s.er := by
  have hx : ∀ (s : Dc) (c : UInt8) (a b : Nat), (expS s c a b).2.er = s.er := by intro s c a b; unfold expS; split <;> rfl
  have hl : ∀ s : Dc, (lineS s).2.er = s.er := by
    intro s; unfold lineS
    split
    · rfl
    · split
      · rfl
      · split <;> rfl
  unfold stepS
  split
  · unfold sizeS digS
    split
    · split
      · rfl
      · split <;> rfl
    · split
      · rfl
      · split
        · rfl
        · exact hx _ _ _ _
  split
  · unfold extS
    split
    · rfl
    · split <;> rfl
  split
  · unfold endS
    split <;> exact hx _ _ _ _
  split
  · exact hx _ _ _ _
  split
  · exact hx _ _ _ _
  · unfold trlS
    split
    · rfl
    · split
      · exact hl _
      · split <;> rfl
theorem step_er {s : Dc} {c : UInt8} (he : s.er = 0) (_h : (stepS s c).1 = 0) : (stepS s c).2.er = 0 := (step_keeps s c).trans he
/-- The two machines take the same bytes, and find the same data. -/
theorem wr_rel : ∀ (l : List UInt8) {s : Dc} {r : Rs}, RelS s r → s.Ok → RelS (wrD s l).1 (wrR r l).1 ∧ (wrD s l).2 = (wrR r l).2 := by
  intro l
  induction l with
  | nil => intro s r h _; exact ⟨h, rfl⟩
  | cons c t ih =>
    intro s r h hok
    have hb := h.hb
    have hp := h.hp
    by_cases q : s.er ≠ 0 ∨ s.pl = 8
    · rw [wrD_stop q, wrR_stop (by rw [hb, hp]; exact q)]
      exact ⟨h, rfl⟩
    · have he : s.er = 0 := by
        rcases Nat.eq_zero_or_pos s.er with h' | h'
        · exact h'
        · exact absurd (.inl (by omega)) q
      have h8 : s.pl ≠ 8 := fun e => q (.inr e)
      have hs := rel_step h hok he h8 c
      have qr : ¬ (r.bad ≠ 0 ∨ r.p = 8) := by rw [hb, hp]; exact q
      by_cases h3 : s.pl = 3
      · have e1 : afterS s c = dataS s 1 := by unfold afterS; rw [if_pos h3]
        rw [e1] at hs
        have := ih hs (ok_data hok h3 (hok.b10 h3))
        rw [wrD_byte he h8 h3, wrR, if_neg qr, if_neg (by rw [stepR_bad3 (by omega) (by omega)]; simp), if_pos (by omega)]
        exact ⟨this.1, by simp only [Prod.mk.injEq]; rw [this.2]; simp⟩
      · by_cases h0 : (stepS s c).1 = 0
        · have e1 : afterS s c = (stepS s c).2 := by unfold afterS; rw [if_neg h3, if_pos h0]
          rw [e1] at hs
          have hk := ok_step hok h3 h8 c
          have := ih hs hk
          have hz : (stepR r c).bad = 0 := by
            rw [hs.hb]
            exact step_er he h0
          rw [wrD_step he h8 h3 h0, wrR, if_neg qr, if_neg (by rw [hz]; simp), if_neg (by omega)]
          exact ⟨this.1, by simp only [Prod.mk.injEq]; rw [this.2]; simp⟩
        · have e1 : afterS s c = { (stepS s c).2 with er := (stepS s c).1 } := by unfold afterS; rw [if_neg h3, if_neg h0]
          rw [e1] at hs
          have hz : (stepR r c).bad ≠ 0 := by rw [hs.hb]; exact h0
          rw [wrD_bad he h8 h3 h0, wrR, if_neg qr, if_pos hz]
          exact ⟨hs, rfl⟩
theorem wrR_app : ∀ (a : List UInt8) (s : Rs) (b : List UInt8),
    wrR s (a ++ b) = ((wrR (wrR s a).1 b).1, (wrR s a).2.1 ++ (wrR (wrR s a).1 b).2.1, (wrR s a).2.2 + (wrR (wrR s a).1 b).2.2) := by
  intro a
  induction a with
  | nil => intro s b; simp [wrR]
  | cons c t ih =>
    intro s b
    by_cases h : s.bad ≠ 0 ∨ s.p = 8
    · rw [wrR_stop h, wrR_stop h, wrR_stop h]; simp
    · rw [List.cons_append, wrR, if_neg h, wrR, if_neg h]
      by_cases h0 : (stepR s c).bad ≠ 0
      · rw [if_pos h0, if_pos h0, wrR_stop (.inl h0)]; simp
      · rw [if_neg h0, if_neg h0]
        by_cases h3 : s.p = 3
        · rw [if_pos h3, if_pos h3, ih]; simp; omega
        · rw [if_neg h3, if_neg h3, ih]; simp; omega
/-- The bounds hold of every state without an error that the machine comes to. -/
theorem wrR_ok : ∀ (l : List UInt8) {r : Rs}, RsOk r → (wrR r l).1.bad = 0 → RsOk (wrR r l).1 := by
  intro l
  induction l with
  | nil => intro r h _; exact h
  | cons c t ih =>
    intro r h hz
    by_cases q : r.bad ≠ 0 ∨ r.p = 8
    · rw [wrR_stop q]; exact h
    · have h8 : r.p ≠ 8 := fun e => q (.inr e)
      rw [wrR, if_neg q] at hz ⊢
      by_cases h0 : (stepR r c).bad ≠ 0
      · rw [if_pos h0] at hz; exact absurd hz h0
      · rw [if_neg h0] at hz ⊢
        have h0' : (stepR r c).bad = 0 := by omega
        have hk := rsok_step h h8 c h0'
        by_cases h3 : r.p = 3
        · rw [if_pos h3] at hz ⊢; exact ih hk hz
        · rw [if_neg h3] at hz ⊢; exact ih hk hz
theorem wrR_len : ∀ (l : List UInt8) (s : Rs), (wrR s l).2.2 ≤ l.length ∧ (wrR s l).2.1.length ≤ (wrR s l).2.2 := by
  intro l
  induction l with
  | nil => intro s; simp [wrR]
  | cons c t ih =>
    intro s
    by_cases h : s.bad ≠ 0 ∨ s.p = 8
    · rw [wrR_stop h]; simp
    · rw [wrR, if_neg h]
      have := ih (stepR s c)
      split
      · simp
      · split <;> simp <;> omega
end Go.Proofs.YthlfhbhjiofneaaDoor

/- Chunks as they are written, and what a decoder makes of them: the plain part. -/
namespace Go.Proofs.YthlfhbhjiofneaaDoor

/-- A hexadecimal digit, and the digits of a number. -/
def hxD (d : Nat) : UInt8 := if d < 10 then UInt8.ofNat (48 + d) else UInt8.ofNat (87 + d)
def hexT (n : Nat) : List UInt8 := if n < 16 then [hxD n] else hexT (n / 16) ++ [hxD (n % 16)]
termination_by n
theorem hexT_small {n : Nat} (h : n < 16) : hexT n = [hxD n] := by rw [hexT, if_pos h]
theorem hexT_more {n : Nat} (h : 16 ≤ n) : hexT n = hexT (n / 16) ++ [hxD (n % 16)] := by rw [hexT, if_neg (by omega)]
theorem hexV_hxD {d : Nat} (h : d < 16) : hexV (hxD d) = some d := by
  have : ∀ d : Fin 16, hexV (hxD d.val) = some d.val := by decide
  exact this ⟨d, h⟩
theorem hexT_len : ∀ (k n : Nat), n < 16 ^ (k + 1) → 1 ≤ (hexT n).length ∧ (hexT n).length ≤ k + 1 := by
  intro k
  induction k with
  | zero => intro n h; rw [hexT_small (by omega)]; simp
  | succ k ih =>
    intro n h
    by_cases hn : n < 16
    · rw [hexT_small hn]; simp
    · have := ih (n / 16) (by rw [Nat.pow_succ] at h; omega)
      rw [hexT_more (by omega)]; simp; omega
/-- A decoder at the beginning of a chunk. -/
structure AtSize (s : Dc) : Prop where
  pl : s.pl = 0
  er : s.er = 0
  len : s.len = 0
  sz : s.sz = 0
theorem wrD_one {s : Dc} (he : s.er = 0) (h8 : s.pl ≠ 8) (h3 : s.pl ≠ 3) {c : UInt8} {t : Dc} (h : stepS s c = (0, t)) : wrD s [c] = (t, [], 1) := by
  rw [wrD_step he h8 h3 (by rw [h]), h]; rfl
theorem step_digit {s : Dc} (hp : s.pl = 0) {d : Nat} (hd : d < 16) : stepS s (hxD d) = digS s d := by
  unfold stepS; rw [if_pos hp]; unfold sizeS; rw [hexV_hxD hd]
theorem wrD_hex : ∀ (k n : Nat) {s : Dc}, AtSize s → n < 16 ^ (k + 1) → k < 8 → s.tot + n ≤ 65536 → wrD s (hexT n) = ({ s with sz := n, len := (hexT n).length }, [], (hexT n).length) := by
  intro k
  induction k with
  | zero =>
    intro n s h hn _ ht
    rw [hexT_small (by omega)]
    refine wrD_one h.er (by rw [h.pl]; decide) (by rw [h.pl]; decide) ?_
    rw [step_digit h.pl (by omega)]
    unfold digS
    rw [h.len, h.sz, if_neg (by decide), if_neg (by omega)]
    simp
  | succ k ih =>
    intro n s h hn hk ht
    by_cases h16 : n < 16
    · rw [hexT_small h16]
      refine wrD_one h.er (by rw [h.pl]; decide) (by rw [h.pl]; decide) ?_
      rw [step_digit h.pl (by omega)]
      unfold digS
      rw [h.len, h.sz, if_neg (by decide), if_neg (by omega)]
      simp
    · have hq : n / 16 < 16 ^ (k + 1) := by rw [Nat.pow_succ] at hn; omega
      have hl := hexT_len k (n / 16) hq
      rw [hexT_more (by omega), wrD_app, ih (n / 16) h hq (by omega) (by omega)]
      have hs : stepS { s with sz := n / 16, len := (hexT (n / 16)).length } (hxD (n % 16)) = (0, { s with sz := n, len := (hexT (n / 16)).length + 1 }) := by
        rw [step_digit (s := { s with sz := n / 16, len := (hexT (n / 16)).length }) h.pl (Nat.mod_lt n (by decide))]
        unfold digS
        simp only
        rw [if_neg (by omega), if_neg (by omega)]
        rw [show n / 16 * 16 + n % 16 = n by omega]
      have := wrD_one (s := { s with sz := n / 16, len := (hexT (n / 16)).length }) h.er (by simp only; rw [h.pl]; decide) (by simp only; rw [h.pl]; decide) hs
      simp only at this ⊢
      rw [this]
      simp
/-- A number that is too large. -/
theorem wrD_hex_large : ∀ (k n : Nat) {s : Dc}, AtSize s → n < 16 ^ (k + 1) → k < 8 → s.tot ≤ 65536 → 65536 < s.tot + n → ∀ r, (wrD s (hexT n ++ r)).1.er = 5 ∧ (wrD s (hexT n ++ r)).2.1 = [] ∧ (wrD s (hexT n ++ r)).1.pl = 0 := by
  intro k
  induction k with
  | zero =>
    intro n s h hn _ _ ht r
    have hs : stepS s (hxD n) = (5, s) := by
      rw [step_digit h.pl (by omega)]
      unfold digS
      rw [h.len, h.sz, if_neg (by decide), if_pos (by omega)]
    rw [hexT_small (by omega), List.singleton_append, wrD_bad h.er (by rw [h.pl]; decide) (by rw [h.pl]; decide) (by rw [hs]; simp), hs]
    exact ⟨rfl, rfl, h.pl⟩
  | succ k ih =>
    intro n s h hn hk h0 ht r
    by_cases h16 : n < 16
    · have hs : stepS s (hxD n) = (5, s) := by
        rw [step_digit h.pl (by omega)]
        unfold digS
        rw [h.len, h.sz, if_neg (by decide), if_pos (by omega)]
      rw [hexT_small (by omega), List.singleton_append, wrD_bad h.er (by rw [h.pl]; decide) (by rw [h.pl]; decide) (by rw [hs]; simp), hs]
      exact ⟨rfl, rfl, h.pl⟩
    · have hq : n / 16 < 16 ^ (k + 1) := by rw [Nat.pow_succ] at hn; omega
      have hl := hexT_len k (n / 16) hq
      rw [hexT_more (by omega), List.append_assoc]
      by_cases h1 : 65536 < s.tot + n / 16
      · exact ih (n / 16) h hq (by omega) h0 h1 _
      · rw [wrD_app, wrD_hex k (n / 16) h hq (by omega) (by omega)]
        have hs : stepS { s with sz := n / 16, len := (hexT (n / 16)).length } (hxD (n % 16)) = (5, { s with sz := n / 16, len := (hexT (n / 16)).length }) := by
          rw [step_digit (s := { s with sz := n / 16, len := (hexT (n / 16)).length }) h.pl (Nat.mod_lt n (by decide))]
          unfold digS
          simp only
          rw [if_neg (by omega), if_pos (by omega)]
        simp only [List.singleton_append]
        rw [wrD_bad (s := { s with sz := n / 16, len := (hexT (n / 16)).length }) h.er (by simp only; rw [h.pl]; decide) (by simp only; rw [h.pl]; decide) (by rw [hs]; simp), hs]
        exact ⟨rfl, rfl, h.pl⟩
/-- A chunk as it is written. -/
def chunkL (b : List UInt8) : List UInt8 := if b = [] then [] else hexT b.length ++ 13 :: 10 :: (b ++ [13, 10])
theorem wrD_sizeEnd {s : Dc} (h : AtSize s) {n : Nat} (hn : 0 < n) (hk : n < 16 ^ 8) (ht : s.tot + n ≤ 65536) :
    wrD s (hexT n ++ [13, 10]) = ({ s with sz := n, len := 0, pl := 3 }, [], (hexT n).length + 2) := by
  have hl := hexT_len 7 n hk
  have hL : (hexT n).length ≠ 0 := by omega
  rw [wrD_app, wrD_hex 7 n h hk (by decide) ht]
  have s1 : stepS { s with sz := n, len := (hexT n).length } 13 = (0, { s with sz := n, len := (hexT n).length, pl := 2 }) := by
    unfold stepS; rw [if_pos h.pl]
    unfold sizeS
    rw [show hexV 13 = none by decide]
    simp only
    rw [if_neg hL, if_neg (by decide)]; rfl
  have s2 : stepS { s with sz := n, len := (hexT n).length, pl := 2 } 10 = (0, { s with sz := n, len := 0, pl := 3 }) := by
    unfold stepS
    rw [if_neg (by simp), if_neg (by simp), if_pos rfl]
    unfold endS
    simp only
    rw [if_neg (by omega)]; rfl
  simp only
  rw [wrD_step (s := { s with sz := n, len := (hexT n).length }) h.er (by simp only; rw [h.pl]; decide) (by simp only; rw [h.pl]; decide) (by rw [s1]), s1]
  simp only
  rw [wrD_step (s := { s with sz := n, len := (hexT n).length, pl := 2 }) h.er (by simp) (by simp) (by rw [s2]), s2]
  simp [wrD]
/-- A decoder at the beginning of a chunk takes it whole. -/
theorem wrD_chunk {s : Dc} (h : AtSize s) {b : List UInt8} (hk : b.length < 16 ^ 8) (ht : s.tot + b.length ≤ 65536) :
    wrD s (chunkL b) = ({ s with tot := s.tot + b.length }, b, (chunkL b).length) ∧ AtSize { s with tot := s.tot + b.length } := by
  refine ⟨?_, ⟨h.pl, h.er, h.len, h.sz⟩⟩
  by_cases hb : b = []
  · subst hb; unfold chunkL; rw [if_pos rfl]; rfl
  · have hpos : 0 < b.length := List.length_pos_iff.2 hb
    unfold chunkL; rw [if_neg hb]
    rw [show hexT b.length ++ 13 :: 10 :: (b ++ [13, 10]) = (hexT b.length ++ [13, 10]) ++ (b ++ [13, 10]) by simp, wrD_app, wrD_sizeEnd h hpos hk ht]
    simp only
    rw [wrD_data (n := b.length) (s := { s with sz := b.length, len := 0, pl := 3 }) h.er rfl hpos (Nat.le_refl _) (by simp)]
    rw [List.drop_left, List.take_left]
    have d1 : dataS { s with sz := b.length, len := 0, pl := 3 } b.length = { s with sz := 0, len := 0, pl := 4, tot := s.tot + b.length } := by
      unfold dataS; simp
    rw [d1]
    have s1 : stepS { s with sz := 0, len := 0, pl := 4, tot := s.tot + b.length } 13 = (0, { s with sz := 0, len := 0, pl := 5, tot := s.tot + b.length }) := rfl
    have s2 : stepS { s with sz := 0, len := 0, pl := 5, tot := s.tot + b.length } 10 = (0, { s with sz := 0, len := 0, pl := 0, tot := s.tot + b.length }) := rfl
    rw [wrD_step (s := { s with sz := 0, len := 0, pl := 4, tot := s.tot + b.length }) h.er (by simp) (by simp) (by rw [s1]), s1]
    simp only
    rw [wrD_step (s := { s with sz := 0, len := 0, pl := 5, tot := s.tot + b.length }) h.er (by simp) (by simp) (by rw [s2]), s2]
    have e : ({ s with sz := 0, len := 0, pl := 0, tot := s.tot + b.length } : Dc) = { s with tot := s.tot + b.length } := by
      cases s; simp at *; exact ⟨h.pl.symm, h.sz.symm, h.len.symm⟩
    simp only [wrD, e]
    simp; omega
end Go.Proofs.YthlfhbhjiofneaaDoor

/- Heads of messages as lists of bytes: where a head ends, its lines, bare bytes; a head that is accepted is the text of its lines. -/
namespace Go.Proofs.YthlfhbhjiofneaaDoor

/-- The end of the first CR LF CR LF. -/
def end4 : List UInt8 → Option Nat
  | [] => none
  | c :: r => if c = 13 ∧ r.take 3 = [10, 13, 10] then some 4 else (end4 r).map (· + 1)
/-- The end of a head. -/
def endO (l : List UInt8) : Option Nat := if l.take 2 = [13, 10] then some 2 else end4 l
/-- Is there a CR without LF, an LF without CR, or a byte 0? p is the byte before. -/
def bareF (p : UInt8) : List UInt8 → Bool
  | [] => false
  | c :: r => decide (c = 0) || (decide (c = 13) && decide (r.head? ≠ some 10)) || (decide (c = 10) && decide (p ≠ 13)) || bareF c r
/-- The lines that end with CR LF; cur is what stands before. -/
def linesF (cur : List UInt8) : List UInt8 → List (List UInt8)
  | [] => []
  | c :: r => if c = 13 ∧ r.head? = some 10 then cur :: linesF [] r.tail else linesF (cur ++ [c]) r
termination_by l => l.length
decreasing_by all_goals simp_wf; all_goals (try have := List.length_tail (l := r)); all_goals (try omega)
/-- No CR, no LF, no byte 0. -/
def Clean (l : List UInt8) : Prop := ∀ c ∈ l, c ≠ 0 ∧ c ≠ 13 ∧ c ≠ 10
/-- Lines and what ends them. -/
def flat (ls : List (List UInt8)) : List UInt8 := ls.flatMap (· ++ [13, 10])
/-- The head that has these lines. -/
def enc (ls : List (List UInt8)) : List UInt8 := flat ls ++ [13, 10]
theorem flat_cons (x : List UInt8) (ls : List (List UInt8)) : flat (x :: ls) = x ++ 13 :: 10 :: flat ls := by simp [flat]
theorem enc_cons (x : List UInt8) (ls : List (List UInt8)) : enc (x :: ls) = x ++ 13 :: 10 :: enc ls := by simp [enc, flat_cons]
theorem clean_nil : Clean [] := by intro c h; cases h
theorem clean_cons {c : UInt8} {l : List UInt8} : Clean (c :: l) ↔ (c ≠ 0 ∧ c ≠ 13 ∧ c ≠ 10) ∧ Clean l := by
  constructor
  · intro h; exact ⟨h c (by simp), fun d hd => h d (by simp [hd])⟩
  · intro h d hd
    rcases List.mem_cons.1 hd with rfl | hd
    · exact h.1
    · exact h.2 d hd
theorem clean_app {a b : List UInt8} : Clean (a ++ b) ↔ Clean a ∧ Clean b := by
  constructor
  · intro h; exact ⟨fun c hc => h c (by simp [hc]), fun c hc => h c (by simp [hc])⟩
  · intro h c hc
    rcases List.mem_append.1 hc with hc | hc
    · exact h.1 c hc
    · exact h.2 c hc
theorem end4_clean {x : List UInt8} (h : Clean x) (r : List UInt8) : end4 (x ++ r) = (end4 r).map (· + x.length) := by
  induction x with
  | nil => simp
  | cons c t ih =>
    rw [clean_cons] at h
    rw [List.cons_append, end4, if_neg (by intro e; exact h.1.2.1 e.1), ih h.2]
    cases end4 r <;> simp; omega
theorem end4_hit (r : List UInt8) : end4 (13 :: 10 :: 13 :: 10 :: r) = some 4 := by rw [end4, if_pos ⟨rfl, rfl⟩]
theorem end4_crlf {r : List UInt8} (h : r.take 2 ≠ [13, 10]) : end4 (13 :: 10 :: r) = (end4 r).map (· + 2) := by
  rw [end4, if_neg (by rintro ⟨_, e⟩; apply h; rw [List.take_succ_cons] at e; injection e), end4, if_neg (by rintro ⟨e, _⟩; exact absurd e (by decide))]
  cases end4 r <;> simp
theorem take2_line {y : List UInt8} (h : Clean y) (hne : y ≠ []) (r : List UInt8) : (y ++ r).take 2 ≠ [13, 10] := by
  cases y with
  | nil => exact absurd rfl hne
  | cons c t =>
    rw [clean_cons] at h
    intro e
    rw [List.cons_append, List.take_succ_cons] at e
    injection e with e1 _
    exact h.1.2.1 e1
/-- The head of clean lines, none of them empty, ends where its text ends. -/
theorem end4_enc : ∀ (ls : List (List UInt8)), ls ≠ [] → (∀ x ∈ ls, Clean x ∧ x ≠ []) → ∀ r, end4 (enc ls ++ r) = some (enc ls).length := by
  intro ls
  induction ls with
  | nil => intro h; exact absurd rfl h
  | cons x xs ih =>
    intro _ hc r
    obtain ⟨hx, hxn⟩ := hc x (by simp)
    rw [enc_cons, List.append_assoc, end4_clean hx]
    cases xs with
    | nil =>
      show Option.map _ (end4 (13 :: 10 :: 13 :: 10 :: r)) = _
      rw [end4_hit]; simp [enc, flat]; omega
    | cons y ys =>
      obtain ⟨hy, hyn⟩ := hc y (by simp)
      have e : (13 :: 10 :: enc (y :: ys)) ++ r = 13 :: 10 :: (enc (y :: ys) ++ r) := rfl
      rw [e, end4_crlf (by rw [enc_cons, List.append_assoc]; exact take2_line hy hyn _), ih (by simp) (fun z hz => hc z (by simp [hz])) r]
      simp; omega
theorem endO_enc {ls : List (List UInt8)} (h : ls ≠ []) (hc : ∀ x ∈ ls, Clean x ∧ x ≠ []) (r : List UInt8) : endO (enc ls ++ r) = some (enc ls).length := by
  unfold endO
  rw [if_neg, end4_enc ls h hc]
  cases ls with
  | nil => exact absurd rfl h
  | cons x xs =>
    obtain ⟨hx, hxn⟩ := hc x (by simp)
    rw [enc_cons, List.append_assoc]; exact take2_line hx hxn _
/-- A text without bare bytes is divided into clean lines and a clean rest. -/
theorem bare_flat : ∀ (k : Nat) (l : List UInt8) (p : UInt8), l.length ≤ k → p ≠ 13 → bareF p l = false → ∃ ls t, (∀ x ∈ ls, Clean x) ∧ Clean t ∧ l = flat ls ++ t := by
  intro k
  induction k with
  | zero =>
    intro l p hk _ _
    obtain rfl : l = [] := List.eq_nil_of_length_eq_zero (by omega)
    exact ⟨[], [], by simp, clean_nil, rfl⟩
  | succ k ih =>
    intro l p hk hp hb
    cases l with
    | nil => exact ⟨[], [], by simp, clean_nil, rfl⟩
    | cons c r =>
      rw [bareF] at hb
      simp only [Bool.or_eq_false_iff, Bool.and_eq_false_iff, decide_eq_false_iff_not, Decidable.not_not] at hb
      obtain ⟨⟨⟨h0, h13⟩, h10⟩, hr⟩ := hb
      have h10' : c ≠ 10 := by
        rcases h10 with h | h
        · exact h
        · exact absurd h hp
      by_cases e : c = 13
      · subst e
        have hh : r.head? = some 10 := by
          rcases h13 with h | h
          · exact absurd rfl h
          · exact h
        cases r with
        | nil => cases hh
        | cons d r2 =>
          have : d = 10 := Option.some.inj hh
          subst this
          rw [bareF] at hr
          simp only [Bool.or_eq_false_iff] at hr
          obtain ⟨ls, t, h1, h2, rfl⟩ := ih r2 10 (by simp at hk; omega) (by decide) hr.2
          exact ⟨[] :: ls, t, by intro x hx; rcases List.mem_cons.1 hx with rfl | hx; exact clean_nil; exact h1 x hx, h2, by rw [flat_cons]; rfl⟩
      · obtain ⟨ls, t, h1, h2, rfl⟩ := ih r c (by simp at hk; omega) e hr
        cases ls with
        | nil => exact ⟨[], c :: t, by simp, clean_cons.2 ⟨⟨h0, e, h10'⟩, h2⟩, rfl⟩
        | cons y ys =>
          refine ⟨(c :: y) :: ys, t, ?_, h2, by rw [flat_cons, flat_cons]; rfl⟩
          intro x hx
          rcases List.mem_cons.1 hx with rfl | hx
          · exact clean_cons.2 ⟨⟨h0, e, h10'⟩, h1 y (by simp)⟩
          · exact h1 x (by simp [hx])
/-- A text in clean lines that ends where its first empty line ends is the head of lines that are not empty. -/
theorem enc_of : ∀ (ls : List (List UInt8)) (t : List UInt8), (∀ x ∈ ls, Clean x) → Clean t → (∀ x xs, ls = x :: xs → x ≠ []) → end4 (flat ls ++ t) = some (flat ls ++ t).length →
    ∃ ks, ks ≠ [] ∧ (∀ x ∈ ks, Clean x ∧ x ≠ []) ∧ flat ls ++ t = enc ks := by
  intro ls
  induction ls with
  | nil =>
    intro t _ ht _ he
    have := end4_clean ht []
    rw [List.append_nil] at this
    rw [show flat [] ++ t = t from rfl, this] at he
    cases he
  | cons x xs ih =>
    intro t hc ht hne he
    have hx := hc x (by simp)
    have hxn := hne x xs rfl
    rw [flat_cons, List.append_assoc, end4_clean hx] at he
    cases xs with
    | nil =>
      exfalso
      rw [show (13 :: 10 :: flat []) ++ t = 13 :: 10 :: t from rfl, end4_crlf (by
        cases t with
        | nil => simp
        | cons c t' => rw [clean_cons] at ht; intro e; injection e with e1 _; exact ht.1.2.1 e1)] at he
      have h2 := end4_clean ht []
      rw [List.append_nil] at h2
      rw [h2] at he
      cases he
    | cons y ys =>
      by_cases hy : y = []
      · subst hy
        have e : (13 :: 10 :: flat ([] :: ys)) ++ t = 13 :: 10 :: 13 :: 10 :: (flat ys ++ t) := by rw [flat_cons]; rfl
        rw [e, end4_hit] at he
        simp only [Option.map_some, Option.some.injEq, List.length_append, List.length_cons] at he
        have hz : flat ys ++ t = [] := List.eq_nil_of_length_eq_zero (by rw [List.length_append]; omega)
        refine ⟨[x], by simp, by intro z hz; rw [List.mem_singleton] at hz; rw [hz]; exact ⟨hx, hxn⟩, ?_⟩
        rw [flat_cons, List.append_assoc, e, hz]; simp [enc, flat]
      · have hyc := hc y (by simp)
        have e : (13 :: 10 :: flat (y :: ys)) ++ t = 13 :: 10 :: (flat (y :: ys) ++ t) := rfl
        rw [e, end4_crlf (by rw [flat_cons, List.append_assoc]; exact take2_line hyc hy _)] at he
        have he2 : end4 (flat (y :: ys) ++ t) = some (flat (y :: ys) ++ t).length := by
          cases h : end4 (flat (y :: ys) ++ t) with
          | none => rw [h] at he; cases he
          | some n =>
            rw [h] at he
            simp only [Option.map_some, Option.some.injEq, List.length_append, List.length_cons] at he
            rw [List.length_append]; congr 1; omega
        obtain ⟨ks, k1, k2, k3⟩ := ih t (fun z hz => hc z (by simp [hz])) ht (fun a az hh => by injection hh with h1 _; rw [← h1]; exact hy) he2
        refine ⟨x :: ks, by simp, ?_, ?_⟩
        · intro z hz
          rcases List.mem_cons.1 hz with rfl | hz
          · exact ⟨hx, hxn⟩
          · exact k2 z hz
        · rw [enc_cons, ← k3, flat_cons, List.append_assoc]; rfl
theorem linesF_line {x : List UInt8} (h : Clean x) : ∀ (cur r : List UInt8), linesF cur (x ++ 13 :: 10 :: r) = (cur ++ x) :: linesF [] r := by
  induction x with
  | nil => intro cur r; rw [List.nil_append, linesF, if_pos ⟨rfl, rfl⟩]; simp
  | cons c t ih =>
    rw [clean_cons] at h
    intro cur r
    rw [List.cons_append, linesF, if_neg (by rintro ⟨e, _⟩; exact h.1.2.1 e), ih h.2]; simp
theorem linesF_enc : ∀ (ls : List (List UInt8)), (∀ x ∈ ls, Clean x) → linesF [] (enc ls) = ls ++ [[]] := by
  intro ls
  induction ls with
  | nil =>
    intro _
    show linesF [] (13 :: 10 :: []) = _
    rw [linesF, if_pos ⟨rfl, rfl⟩]; simp [linesF]
  | cons x xs ih =>
    intro h
    rw [enc_cons, linesF_line (h x (by simp)), ih (fun z hz => h z (by simp [hz]))]; rfl
theorem bareF_clean {x : List UInt8} (h : Clean x) : ∀ (p : UInt8) (r : List UInt8), bareF p (x ++ r) = bareF ((x.getLast?).getD p) r ∨ x = [] := by
  induction x with
  | nil => intro p r; exact .inr rfl
  | cons c t ih =>
    rw [clean_cons] at h
    intro p r
    left
    rw [List.cons_append, bareF]
    have e : (decide (c = 0) || decide (c = 13) && decide ((t ++ r).head? ≠ some 10) || decide (c = 10) && decide (p ≠ 13)) = false := by
      simp [h.1.1, h.1.2.1, h.1.2.2]
    rw [e, Bool.false_or]
    rcases ih h.2 c r with h2 | h2
    · rw [h2]
      cases t with
      | nil => rfl
      | cons d t' => rw [List.getLast?_cons_cons]; simp [List.getLast?_cons]
    · subst h2; rfl
theorem bareF_crlf (p : UInt8) (r : List UInt8) : bareF p (13 :: 10 :: r) = bareF 10 r := by
  rw [bareF, bareF]
  simp
theorem bareF_line {x : List UInt8} (h : Clean x) (p : UInt8) (r : List UInt8) : bareF p (x ++ 13 :: 10 :: r) = bareF 10 r := by
  rcases bareF_clean h p (13 :: 10 :: r) with e | e
  · rw [e, bareF_crlf]
  · subst e; exact bareF_crlf p r
theorem bare_enc : ∀ (ls : List (List UInt8)), (∀ x ∈ ls, Clean x) → ∀ p, bareF p (enc ls) = false := by
  intro ls
  induction ls with
  | nil => intro _ p; show bareF p (13 :: 10 :: []) = false; rw [bareF_crlf]; rfl
  | cons x xs ih =>
    intro h p
    rw [enc_cons, bareF_line (h x (by simp)), ih (fun z hz => h z (by simp [hz]))]
end Go.Proofs.YthlfhbhjiofneaaDoor

/- Heads of messages as lists of bytes: prefixes, and a byte inserted. -/
namespace Go.Proofs.YthlfhbhjiofneaaDoor

theorem end4_some : ∀ {l : List UInt8} {n : Nat}, end4 l = some n → 4 ≤ n ∧ n ≤ l.length := by
  intro l
  induction l with
  | nil => intro n h; cases h
  | cons c r ih =>
    intro n h
    rw [end4] at h
    by_cases hc : c = 13 ∧ r.take 3 = [10, 13, 10]
    · rw [if_pos hc] at h
      obtain rfl := Option.some.inj h
      have := congrArg List.length hc.2
      simp at this ⊢
      omega
    · rw [if_neg hc] at h
      cases h2 : end4 r with
      | none => rw [h2] at h; cases h
      | some m =>
        rw [h2] at h
        obtain rfl := Option.some.inj h
        have := ih h2
        simp; omega
theorem end4_small {l : List UInt8} (h : l.length < 4) : end4 l = none := by
  cases h2 : end4 l with
  | none => rfl
  | some n => have := end4_some h2; omega
theorem end4_pre : ∀ {l : List UInt8} {n : Nat}, end4 l = some n → ∀ r, end4 (l.take n ++ r) = some n := by
  intro l
  induction l with
  | nil => intro n h; cases h
  | cons c t ih =>
    intro n h r
    rw [end4] at h
    by_cases hc : c = 13 ∧ t.take 3 = [10, 13, 10]
    · rw [if_pos hc] at h
      obtain rfl := Option.some.inj h
      obtain ⟨rfl, h3⟩ := hc
      rw [List.take_succ_cons, h3]
      exact end4_hit r
    · rw [if_neg hc] at h
      cases h2 : end4 t with
      | none => rw [h2] at h; cases h
      | some m =>
        rw [h2] at h
        obtain rfl := Option.some.inj h
        have hm := end4_some h2
        have e : (t.take m ++ r).take 3 = t.take 3 := by
          rw [List.take_append_of_le_length (by rw [List.length_take]; omega), List.take_take, Nat.min_eq_left (by omega)]
        show end4 ((c :: t).take (m + 1) ++ r) = _
        rw [List.take_succ_cons, List.cons_append, end4, if_neg (by rw [e]; exact hc), ih h2]; rfl
theorem end4_short : ∀ {l : List UInt8} {n i : Nat}, end4 l = some n → i < n → end4 (l.take i) = none := by
  intro l
  induction l with
  | nil => intro n i h; cases h
  | cons c t ih =>
    intro n i h hi
    rw [end4] at h
    cases i with
    | zero => rfl
    | succ i =>
      by_cases hc : c = 13 ∧ t.take 3 = [10, 13, 10]
      · rw [if_pos hc] at h
        obtain rfl := Option.some.inj h
        exact end4_small (by rw [List.length_take]; omega)
      · rw [if_neg hc] at h
        cases h2 : end4 t with
        | none => rw [h2] at h; cases h
        | some m =>
          rw [h2] at h
          obtain rfl := Option.some.inj h
          rw [List.take_succ_cons, end4, if_neg, ih h2 (by simp at hi; omega)]
          · rfl
          · rintro ⟨h13, h3⟩
            apply hc
            refine ⟨h13, ?_⟩
            rw [List.take_take] at h3
            by_cases hi3 : 3 ≤ i
            · rwa [Nat.min_eq_left hi3] at h3
            · have := congrArg List.length h3
              rw [List.length_take] at this
              simp at this; omega
/-- No bare byte, position by position. -/
theorem bareF_iff : ∀ (l : List UInt8) (p : UInt8), bareF p l = false ↔ ((∀ i : Nat, l[i]? ≠ some 0) ∧ (∀ i : Nat, l[i]? = some 13 → l[i + 1]? = some 10) ∧ (∀ i : Nat, l[i + 1]? = some 10 → l[i]? = some 13) ∧ (l[0]? = some 10 → p = 13)) := by
  intro l
  induction l with
  | nil => intro p; simp [bareF]
  | cons c r ih =>
    intro p
    rw [bareF]
    simp only [Bool.or_eq_false_iff, Bool.and_eq_false_iff, decide_eq_false_iff_not, Decidable.not_not, ih c]
    have hd : r.head? = r[0]? := List.head?_eq_getElem?
    constructor
    · rintro ⟨⟨⟨h0, h13⟩, h10⟩, a, b, d, e⟩
      refine ⟨?_, ?_, ?_, ?_⟩
      · intro i; cases i with
        | zero => simp only [List.getElem?_cons_zero]; intro h; exact h0 (Option.some.inj h)
        | succ i => simp only [List.getElem?_cons_succ]; exact a i
      · intro i; cases i with
        | zero =>
          simp only [List.getElem?_cons_zero, List.getElem?_cons_succ]
          intro h
          rcases h13 with h2 | h2
          · exact absurd (Option.some.inj h) h2
          · rw [← hd]; exact h2
        | succ i => simp only [List.getElem?_cons_succ]; exact b i
      · intro i; cases i with
        | zero => simp only [List.getElem?_cons_zero, List.getElem?_cons_succ]; intro h; rw [e h]
        | succ i => simp only [List.getElem?_cons_succ]; exact d i
      · simp only [List.getElem?_cons_zero]
        intro h
        rcases h10 with h2 | h2
        · exact absurd (Option.some.inj h) h2
        · exact h2
    · rintro ⟨a, b, d, e⟩
      refine ⟨⟨⟨?_, ?_⟩, ?_⟩, ?_, ?_, ?_, ?_⟩
      · intro h; exact a 0 (by simp [h])
      · by_cases h : c = 13
        · right; rw [hd]; have := b 0 (by simp [h]); simpa using this
        · exact .inl h
      · by_cases h : c = 10
        · right; exact e (by simp [h])
        · exact .inl h
      · intro i; have := a (i + 1); simpa using this
      · intro i h; have := b (i + 1) (by simpa using h); simpa using this
      · intro i h; have := d (i + 1) (by simpa using h); simpa using this
      · intro h; have := d 0 (by simpa using h); simpa using this
theorem endO_ne {h : List UInt8} (h2 : h.take 2 ≠ [13, 10]) (r : List UInt8) (hl : 2 ≤ h.length) : endO (h ++ r) = end4 (h ++ r) := by
  unfold endO; rw [if_neg]; rw [List.take_append_of_le_length hl]; exact h2
/-- Where the head of h ends, with a byte inserted: not before it; and then it is bare, unless it is the last LF again. -/
theorem insert_bare {h : List UInt8} {i n' : Nat} {c : UInt8} (he : end4 h = some h.length) (hb : bareF 0 h = false) (hi : i < h.length) (hc : c = 0 ∨ c = 13 ∨ c = 10) (hx : ¬ (c = 10 ∧ i + 1 = h.length))
    (hn : end4 (h.take i ++ c :: h.drop i) = some n') : bareF 0 ((h.take i ++ c :: h.drop i).take n') = true := by
  have hs := end4_some he
  have hti : (h.take i).length = i := by rw [List.length_take]; omega
  have hn' := end4_some hn
  have hin : i < n' := by
    apply Classical.byContradiction
    intro hh
    have e1 := end4_pre hn []
    rw [List.append_nil, List.take_append_of_le_length (by omega), List.take_take, Nat.min_eq_left (by omega)] at e1
    rw [end4_short he (show n' < h.length by omega)] at e1
    cases e1
  obtain ⟨z0, z13, z10, zf⟩ := (bareF_iff h 0).1 hb
  obtain ⟨s', hs'⟩ : ∃ s', s' = h.take i ++ c :: h.drop i := ⟨_, rfl⟩
  have gl : ∀ j, j < i → s'[j]? = h[j]? := fun j hj => by
    rw [hs', List.getElem?_append_left (by omega), List.getElem?_take_of_lt hj]
  have gi : s'[i]? = some c := by rw [hs', List.getElem?_append_right (by omega), hti, Nat.sub_self]; rfl
  have gr : ∀ j, s'[i + 1 + j]? = h[i + j]? := fun j => by
    rw [hs', List.getElem?_append_right (by omega), hti, show i + 1 + j - i = j + 1 by omega, List.getElem?_cons_succ, List.getElem?_drop]
  rw [← hs'] at hn ⊢
  rw [← hs'] at hn'
  have gt : ∀ j, j < n' → (s'.take n')[j]? = s'[j]? := fun j hj => List.getElem?_take_of_lt hj
  apply Classical.byContradiction
  intro hh
  have hf : bareF 0 (s'.take n') = false := by simpa using hh
  obtain ⟨y0, y13, y10, yf⟩ := (bareF_iff _ 0).1 hf
  have hci : (s'.take n')[i]? = some c := (gt i hin).trans gi
  rcases hc with rfl | rfl | rfl
  · exact y0 i hci
  · have e1 := y13 i hci
    have hlt : i + 1 < n' := by
      apply Classical.byContradiction
      intro hk
      rw [List.getElem?_eq_none (by rw [List.length_take]; omega)] at e1
      cases e1
    rw [gt _ hlt] at e1
    have e2 := gr 0
    rw [Nat.add_zero, Nat.add_zero] at e2
    rw [e2] at e1
    cases i with
    | zero => have := zf e1; exact absurd this (by decide)
    | succ i =>
      have e3 := z10 i e1
      have e4 := y13 i (by rw [gt i (by omega), gl i (by omega)]; exact e3)
      rw [hci] at e4
      exact absurd (Option.some.inj e4) (by decide)
  · cases i with
    | zero => have := yf hci; exact absurd this (by decide)
    | succ i =>
      have e1 := y10 i hci
      rw [gt i (by omega), gl i (by omega)] at e1
      have e2 := z13 i e1
      have e3 := gr 0
      rw [Nat.add_zero, Nat.add_zero, e2] at e3
      by_cases hlt : i + 1 + 1 < n'
      · have e4 := y10 (i + 1) (by rw [gt _ hlt]; exact e3)
        rw [hci] at e4
        exact absurd (Option.some.inj e4) (by decide)
      · have hne : n' = i + 2 := by omega
        subst hne
        have e5 : s'.take (i + 2) = h.take (i + 2) := by
          apply List.ext_getElem?
          intro j
          by_cases hj : j < i + 1
          · rw [gt j (by omega), gl j hj, List.getElem?_take_of_lt (by omega)]
          · by_cases hj2 : j = i + 1
            · subst hj2; rw [hci, List.getElem?_take_of_lt (by omega)]; exact e2.symm
            · rw [List.getElem?_eq_none (by rw [List.length_take]; omega), List.getElem?_eq_none (by rw [List.length_take]; omega)]
        have e6 := end4_pre hn []
        rw [List.append_nil, e5] at e6
        by_cases hl : i + 2 < h.length
        · rw [end4_short he hl] at e6; cases e6
        · exact hx ⟨rfl, by omega⟩
end Go.Proofs.YthlfhbhjiofneaaDoor

/- Reading and writing heads, in lists of bytes: requests. nm, vl, hs: what names, values and hosts are read as; lw: lower case. -/
namespace Go.Proofs.YthlfhbhjiofneaaDoor

structure Flk (nm vl hs : List UInt8 → Option (List UInt8)) (lw : List UInt8 → List UInt8) : Prop where
  nm_lw : ∀ {x y}, nm x = some y → y = lw x
  nm_id : ∀ {x y}, nm x = some y → nm y = some y
  nm_ok : ∀ {x y}, nm x = some y → x ≠ [] ∧ ∀ c ∈ x, c ≠ 0 ∧ c ≠ 13 ∧ c ≠ 10 ∧ c ≠ 58 ∧ c ≠ 32 ∧ c ≠ 9
  vl_ok : ∀ {x y}, vl x = some y → Clean x
  vl_id : ∀ {x y}, vl x = some y → vl y = some y ∧ y.length ≤ x.length
  vl_sp : ∀ {y}, vl y = some y → vl (32 :: y) = some y
  hs_lw : ∀ {x y}, hs x = some y → y = lw x
  hs_id : ∀ {x y}, hs x = some y → hs y = some y
  hs_vl : ∀ {x y}, hs x = some y → vl y = some y
  lw_len : ∀ x, (lw x).length = x.length
  lw_id : ∀ x, lw (lw x) = lw x
/-- What stands before the first c, and behind it. -/
def cut1 (c : UInt8) : List UInt8 → Option (List UInt8 × List UInt8)
  | [] => none
  | x :: t => if x = c then some ([], t) else (cut1 c t).map fun p => (x :: p.1, p.2)
def cutG (c : UInt8) (l : List UInt8) : List UInt8 × List UInt8 := (cut1 c l).getD (l, [])
theorem cut1_at {c : UInt8} {a : List UInt8} (h : c ∉ a) (b : List UInt8) : cut1 c (a ++ c :: b) = some (a, b) := by
  induction a with
  | nil => rw [List.nil_append, cut1, if_pos rfl]
  | cons x t ih =>
    simp only [List.mem_cons, not_or] at h
    rw [List.cons_append, cut1, if_neg (fun e => h.1 e.symm), ih h.2]; rfl
theorem cut1_some {c : UInt8} : ∀ {l a b : List UInt8}, cut1 c l = some (a, b) → l = a ++ c :: b ∧ c ∉ a := by
  intro l
  induction l with
  | nil => intro a b h; cases h
  | cons x t ih =>
    intro a b h
    rw [cut1] at h
    by_cases hx : x = c
    · rw [if_pos hx] at h
      obtain ⟨rfl, rfl⟩ := Prod.mk.inj (Option.some.inj h)
      exact ⟨by rw [hx]; rfl, by simp⟩
    · rw [if_neg hx] at h
      cases h2 : cut1 c t with
      | none => rw [h2] at h; cases h
      | some p =>
        rw [h2] at h
        obtain ⟨rfl, rfl⟩ := Prod.mk.inj (Option.some.inj h)
        obtain ⟨e1, e2⟩ := ih h2
        exact ⟨by rw [e1]; rfl, by simp only [List.mem_cons, not_or]; exact ⟨fun e => hx e.symm, e2⟩⟩
def wsB (c : UInt8) : Bool := decide (c = 32) || decide (c = 9)
abbrev Fs := List (List UInt8 × List UInt8)
section
variable (nm vl hs : List UInt8 → Option (List UInt8)) (lw : List UInt8 → List UInt8)
/-- A header line, read: the error's number, or the field. -/
def readF (l : List UInt8) : Nat × (List UInt8 × List UInt8) :=
  if l.head?.any wsB = true then (23, [], [])
  else match cut1 58 l with
    | none => (25, [], [])
    | some (b, a) =>
      if b = [] then (25, [], [])
      else if b.any wsB = true then (24, [], [])
      else match nm b, vl a with
        | some y, some v => (0, y, v)
        | _, _ => (25, [], [])
def readFs : List (List UInt8) → Nat × Fs
  | [] => (0, [])
  | l :: r => if (readF nm vl l).1 ≠ 0 then ((readF nm vl l).1, []) else if (readFs r).1 ≠ 0 then ((readFs r).1, []) else (0, (readF nm vl l).2 :: (readFs r).2)
def hostN : List UInt8 := [104, 111, 115, 116]
/-- The fields with their hosts, and how many there are. -/
def hostF : Fs → Option (Fs × Nat)
  | [] => some ([], 0)
  | f :: r => if lw f.1 = hostN then (hs f.2).bind fun h => (hostF r).map fun p => ((f.1, h) :: p.1, p.2 + 1) else (hostF r).map fun p => (f :: p.1, p.2)
def hosted (fs : Fs) : Option Fs := (hostF hs lw fs).bind fun p => if p.2 = 1 then some p.1 else none
def verL : List UInt8 := [72, 84, 84, 80, 47, 49, 46, 49]
def methodB (m : List UInt8) : Bool := m.all (fun c => decide (65 ≤ c.toNat) && decide (c.toNat ≤ 90)) && decide (1 ≤ m.length) && decide (m.length ≤ 16)
def targetB (m t : List UInt8) : Bool := t.all (fun c => decide (33 ≤ c.toNat) && decide (c.toNat ≤ 126)) && decide (1 ≤ t.length) && decide (t.length ≤ 2048) && (decide (t.head? = some 47) || (decide (t = [42]) && decide (m = [79, 80, 84, 73, 79, 78, 83])))
/-- The lines of a head without the empty one, its length, and the error's number. -/
def splitG (s : List UInt8) : Nat × List (List UInt8) × Nat :=
  match endO s with
  | none => (if s.length < 8192 then 21 else 5, [], 0)
  | some n =>
    if 8192 < n ∨ 66 < (linesF [] (s.take n)).length then (5, [], 0)
    else if n = 2 ∨ bareF 0 (s.take n) = true then (22, [], 0)
    else (0, (linesF [] (s.take n)).dropLast, n)
abbrev Rq := List UInt8 × List UInt8 × Fs
/-- A request, read from its lines. -/
def reqL (l : List (List UInt8)) : Nat × Rq :=
  let m := (cutG 32 (l.headD [])).1
  let r := (cutG 32 (l.headD [])).2
  if methodB m = false then (26, [], [], [])
  else if targetB m (cutG 32 r).1 = false then (27, [], [], [])
  else if (cutG 32 r).2 ≠ verL then (28, [], [], [])
  else if (readFs nm vl l.tail).1 ≠ 0 then ((readFs nm vl l.tail).1, [], [], [])
  else match hosted hs lw (readFs nm vl l.tail).2 with
    | none => (29, [], [], [])
    | some fs => (0, m, (cutG 32 r).1, fs)
def readQ (s : List UInt8) : Nat × Rq × Nat :=
  if (splitG s).1 ≠ 0 then ((splitG s).1, ([], [], []), 0)
  else if (reqL nm vl hs lw (splitG s).2.1).1 ≠ 0 then ((reqL nm vl hs lw (splitG s).2.1).1, ([], [], []), 0)
  else (0, (reqL nm vl hs lw (splitG s).2.1).2, (splitG s).2.2)
def startQ (m t : List UInt8) : List UInt8 := m ++ 32 :: (t ++ 32 :: verL)
/-- A field's line as it is written. -/
def lineW (f : List UInt8 × List UInt8) : List UInt8 := (nm f.1).getD f.1 ++ 58 :: 32 :: f.2
def goodB (fs : Fs) : Bool := fs.all fun f => (nm f.1).isSome && decide (vl f.2 = some f.2)
def writeQ (q : Rq) : Nat × List UInt8 :=
  if 64 < q.2.2.length ∨ 8192 < (enc (startQ q.1 q.2.1 :: q.2.2.map (lineW nm))).length then (5, [])
  else if methodB q.1 = false then (26, [])
  else if targetB q.1 q.2.1 = false then (27, [])
  else if goodB nm vl q.2.2 = false then (25, [])
  else match hosted hs lw q.2.2 with
    | none => (29, [])
    | some fs => (0, enc (startQ q.1 q.2.1 :: fs.map (lineW nm)))
end
/-- A head that is divided without an error is that of lines. -/
theorem splitG_some {s : List UInt8} {l : List (List UInt8)} {n : Nat} (h : splitG s = (0, l, n)) : l ≠ [] ∧ (∀ x ∈ l, Clean x ∧ x ≠ []) ∧ s.take n = enc l ∧ n = (enc l).length ∧ n ≤ s.length ∧ n ≤ 8192 ∧ l.length ≤ 65 := by
  unfold splitG at h
  cases he : endO s with
  | none => rw [he] at h; simp only at h; split at h <;> exact absurd (congrArg Prod.fst h) (by simp)
  | some k =>
    rw [he] at h
    simp only at h
    by_cases h1 : 8192 < k ∨ 66 < (linesF [] (s.take k)).length
    · rw [if_pos h1] at h; exact absurd (congrArg Prod.fst h) (by simp)
    · rw [if_neg h1] at h
      by_cases h2 : k = 2 ∨ bareF 0 (s.take k) = true
      · rw [if_pos h2] at h; exact absurd (congrArg Prod.fst h) (by simp)
      · rw [if_neg h2] at h
        have e := congrArg Prod.snd h
        obtain ⟨e1, e2⟩ := Prod.mk.inj e
        subst e2
        simp only [not_or, Bool.not_eq_true] at h1 h2
        have hk : end4 s = some k ∧ s.take 2 ≠ [13, 10] := by
          unfold endO at he
          by_cases h3 : s.take 2 = [13, 10]
          · rw [if_pos h3] at he; exact absurd (Option.some.inj he).symm h2.1
          · rw [if_neg h3] at he; exact ⟨he, h3⟩
        have hk2 := end4_some hk.1
        have hke := end4_pre hk.1 []
        rw [List.append_nil] at hke
        have hlen : (s.take k).length = k := by rw [List.length_take]; omega
        obtain ⟨ls, t, c1, c2, c3⟩ := bare_flat _ (s.take k) 0 (Nat.le_refl _) (by decide) h2.2
        have hne : ∀ x xs, ls = x :: xs → x ≠ [] := by
          rintro x xs rfl rfl
          rw [flat_cons] at c3
          apply hk.2
          have := congrArg (List.take 2) c3
          rw [List.take_take, Nat.min_eq_left (by omega)] at this
          rw [this]; rfl
        obtain ⟨ks, k1, k2, k3⟩ := enc_of ls t c1 c2 hne (by rw [← c3, hke, hlen])
        have c4 : s.take k = enc ks := c3.trans k3
        have hl : linesF [] (s.take k) = ks ++ [[]] := by rw [c4]; exact linesF_enc ks fun x hx => (k2 x hx).1
        rw [hl, List.dropLast_concat] at e1
        subst e1
        rw [hl, List.length_append] at h1
        exact ⟨k1, k2, c4, by rw [← c4, hlen], hk2.2, by omega, by simp at h1; omega⟩
theorem splitG_enc {l : List (List UInt8)} (h : l ≠ []) (hc : ∀ x ∈ l, Clean x ∧ x ≠ []) (hn : (enc l).length ≤ 8192) (hl : l.length ≤ 65) (r : List UInt8) : splitG (enc l ++ r) = (0, l, (enc l).length) := by
  have e : (enc l ++ r).take (enc l).length = enc l := by rw [List.take_append_of_le_length (Nat.le_refl _), List.take_length]
  have hl2 : linesF [] (enc l) = l ++ [[]] := linesF_enc l fun x hx => (hc x hx).1
  have hn2 : (enc l).length ≠ 2 := by
    cases l with
    | nil => exact absurd rfl h
    | cons x xs =>
      have := (hc x (by simp)).2
      have hp : 0 < x.length := List.length_pos_iff.2 this
      rw [enc_cons]; simp; omega
  unfold splitG
  rw [endO_enc h hc]
  simp only
  rw [e, hl2, if_neg (by simp; omega), if_neg (by rw [bare_enc l fun x hx => (hc x hx).1]; simp [hn2]), List.dropLast_concat]
end Go.Proofs.YthlfhbhjiofneaaDoor

/- Requests: what is written is read again, what is read can be written; prefixes and inserted bytes. -/
namespace Go.Proofs.YthlfhbhjiofneaaDoor

section
variable {nm vl hs : List UInt8 → Option (List UInt8)} {lw : List UInt8 → List UInt8}
theorem method_chars {m : List UInt8} (h : methodB m = true) : m ≠ [] ∧ Clean m ∧ 32 ∉ m := by
  unfold methodB at h
  simp only [Bool.and_eq_true, decide_eq_true_eq, List.all_eq_true] at h
  obtain ⟨⟨h1, h2⟩, _⟩ := h
  refine ⟨by rintro rfl; simp at h2, fun c hc => ?_, fun hc => ?_⟩
  · have := h1 c hc
    refine ⟨?_, ?_, ?_⟩ <;> (rintro rfl; simp at this)
  · have := h1 32 hc; simp at this
theorem target_chars {m t : List UInt8} (h : targetB m t = true) : Clean t ∧ 32 ∉ t ∧ t ≠ [] := by
  unfold targetB at h
  simp only [Bool.and_eq_true, decide_eq_true_eq, List.all_eq_true] at h
  obtain ⟨⟨⟨h1, h2⟩, _⟩, _⟩ := h
  refine ⟨fun c hc => ?_, fun hc => ?_, by rintro rfl; simp at h2⟩
  · have := h1 c hc
    refine ⟨?_, ?_, ?_⟩ <;> (rintro rfl; simp at this)
  · have := h1 32 hc; simp at this
theorem ver_clean : Clean verL := by intro c hc; simp [verL] at hc; rcases hc with rfl | rfl | rfl | rfl | rfl | rfl | rfl <;> decide
theorem start_clean {m t : List UInt8} (hm : methodB m = true) (ht : targetB m t = true) : Clean (startQ m t) ∧ startQ m t ≠ [] := by
  unfold startQ
  refine ⟨clean_app.2 ⟨(method_chars hm).2.1, clean_cons.2 ⟨by decide, clean_app.2 ⟨(target_chars ht).1, clean_cons.2 ⟨by decide, ver_clean⟩⟩⟩⟩, by simp⟩
theorem cutG_at {c : UInt8} {a : List UInt8} (h : c ∉ a) (b : List UInt8) : cutG c (a ++ c :: b) = (a, b) := by unfold cutG; rw [cut1_at h]; rfl
theorem cutG_or (c : UInt8) (l : List UInt8) : (l = (cutG c l).1 ++ c :: (cutG c l).2) ∨ ((cutG c l).2 = [] ∧ (cutG c l).1 = l) := by
  unfold cutG
  cases h : cut1 c l with
  | none => exact .inr ⟨rfl, rfl⟩
  | some p => obtain ⟨a, b⟩ := p; exact .inl (cut1_some h).1
/-- The lines of a request, read. -/
theorem reqL_of {m t : List UInt8} {ls : List (List UInt8)} {fs0 fs : Fs} (hm : methodB m = true) (ht : targetB m t = true) (hf : readFs nm vl ls = (0, fs0)) (hh : hosted hs lw fs0 = some fs) : reqL nm vl hs lw (startQ m t :: ls) = (0, m, t, fs) := by
  have e1 : cutG 32 (startQ m t) = (m, t ++ 32 :: verL) := cutG_at (method_chars hm).2.2 _
  have e2 : cutG 32 (t ++ 32 :: verL) = (t, verL) := cutG_at (target_chars ht).2.1 _
  unfold reqL
  simp only [List.headD_cons, List.tail_cons, e1, e2, hm, ht, hf, hh]
  simp
theorem reqL_some {l : List (List UInt8)} {m t : List UInt8} {fs : Fs} (h : reqL nm vl hs lw l = (0, m, t, fs)) : methodB m = true ∧ targetB m t = true ∧ l.headD [] = startQ m t ∧ ∃ fs0, readFs nm vl l.tail = (0, fs0) ∧ hosted hs lw fs0 = some fs := by
  unfold reqL at h
  simp only at h
  by_cases h1 : methodB (cutG 32 (l.headD [])).1 = false
  · rw [if_pos h1] at h; exact absurd (congrArg Prod.fst h) (by simp)
  rw [if_neg h1] at h
  by_cases h2 : targetB (cutG 32 (l.headD [])).1 (cutG 32 (cutG 32 (l.headD [])).2).1 = false
  · rw [if_pos h2] at h; exact absurd (congrArg Prod.fst h) (by simp)
  rw [if_neg h2] at h
  by_cases h3 : (cutG 32 (cutG 32 (l.headD [])).2).2 ≠ verL
  · rw [if_pos h3] at h; exact absurd (congrArg Prod.fst h) (by simp)
  rw [if_neg h3] at h
  by_cases h4 : (readFs nm vl l.tail).1 ≠ 0
  · rw [if_pos h4] at h; exact absurd (congrArg Prod.fst h) h4
  rw [if_neg h4] at h
  cases h5 : hosted hs lw (readFs nm vl l.tail).2 with
  | none => rw [h5] at h; exact absurd (congrArg Prod.fst h) (by simp)
  | some f =>
    rw [h5] at h
    simp only [Prod.mk.injEq, true_and] at h
    obtain ⟨e1, e2, e3⟩ := h
    simp only [ne_eq, Decidable.not_not, Bool.not_eq_false] at h1 h2 h3 h4
    rw [e1] at h1 h2
    rw [e2] at h2
    refine ⟨h1, h2, ?_, (readFs nm vl l.tail).2, Prod.ext h4 rfl, by rw [h5, e3]⟩
    have hv : (cutG 32 (l.headD [])).2 = t ++ 32 :: verL := by
      rcases cutG_or 32 (cutG 32 (l.headD [])).2 with h | ⟨h, _⟩
      · rw [h, e2, h3]
      · rw [h3] at h; exact absurd h (by decide)
    rcases cutG_or 32 (l.headD []) with h | ⟨h, _⟩
    · rw [h, e1, hv]; rfl
    · rw [hv] at h; exact absurd h (by simp)
theorem readQ_of {m t : List UInt8} {ls : List (List UInt8)} {fs0 fs : Fs} (hm : methodB m = true) (ht : targetB m t = true) (hf : readFs nm vl ls = (0, fs0)) (hh : hosted hs lw fs0 = some fs) (hc : ∀ x ∈ ls, Clean x ∧ x ≠ [])
    (hn : (enc (startQ m t :: ls)).length ≤ 8192) (hl : ls.length ≤ 64) (r : List UInt8) : readQ nm vl hs lw (enc (startQ m t :: ls) ++ r) = (0, (m, t, fs), (enc (startQ m t :: ls)).length) := by
  have hs' : splitG (enc (startQ m t :: ls) ++ r) = (0, startQ m t :: ls, (enc (startQ m t :: ls)).length) :=
    splitG_enc (by simp) (fun x hx => by rcases List.mem_cons.1 hx with rfl | hx; exact start_clean hm ht; exact hc x hx) hn (by simp; omega) r
  unfold readQ
  rw [hs']
  simp only [reqL_of hm ht hf hh]
  simp
theorem readQ_some {s m t : List UInt8} {fs : Fs} {n : Nat} (h : readQ nm vl hs lw s = (0, (m, t, fs), n)) :
    methodB m = true ∧ targetB m t = true ∧ ∃ ls fs0, readFs nm vl ls = (0, fs0) ∧ hosted hs lw fs0 = some fs ∧ (∀ x ∈ ls, Clean x ∧ x ≠ []) ∧ s.take n = enc (startQ m t :: ls) ∧ n = (enc (startQ m t :: ls)).length ∧ n ≤ s.length ∧ n ≤ 8192 ∧ ls.length ≤ 64 := by
  unfold readQ at h
  by_cases h1 : (splitG s).1 ≠ 0
  · rw [if_pos h1] at h; exact absurd (congrArg Prod.fst h) h1
  rw [if_neg h1] at h
  by_cases h2 : (reqL nm vl hs lw (splitG s).2.1).1 ≠ 0
  · rw [if_pos h2] at h; exact absurd (congrArg Prod.fst h) h2
  rw [if_neg h2] at h
  simp only [ne_eq, Decidable.not_not] at h1 h2
  simp only [Prod.mk.injEq, true_and] at h
  obtain ⟨e1, e2⟩ := h
  obtain ⟨g1, g2, g3, g4, g5, g6, g7⟩ := splitG_some (s := s) (l := (splitG s).2.1) (n := (splitG s).2.2) (Prod.ext h1 rfl)
  obtain ⟨r1, r2, r3, fs0, r4, r5⟩ := reqL_some (l := (splitG s).2.1) (m := m) (t := t) (fs := fs) (Prod.ext h2 e1)
  have hl : (splitG s).2.1 = startQ m t :: (splitG s).2.1.tail := by
    rw [← r3]
    cases hh : (splitG s).2.1 with
    | nil => exact absurd hh g1
    | cons a b => rfl
  rw [e2] at g3 g4 g5 g6
  rw [hl] at g3 g4 g7
  refine ⟨r1, r2, _, fs0, r4, r5, fun x hx => g2 x (by rw [hl]; simp [hx]), g3, g4, g5, g6, by rw [List.length_cons] at g7; omega⟩
/-- An error leaves nothing. -/
theorem readQ_err {s : List UInt8} (h : (readQ nm vl hs lw s).1 ≠ 0) : (readQ nm vl hs lw s).2 = (([], [], []), 0) := by
  unfold readQ at h ⊢
  by_cases h1 : (splitG s).1 ≠ 0
  · rw [if_pos h1]
  · rw [if_neg h1] at h ⊢
    by_cases h2 : (reqL nm vl hs lw (splitG s).2.1).1 ≠ 0
    · rw [if_pos h2]
    · rw [if_neg h2] at h; exact absurd rfl h
/-- A request does not depend on what follows it. -/
theorem readQ_again {s m t : List UInt8} {fs : Fs} {n : Nat} (h : readQ nm vl hs lw s = (0, (m, t, fs), n)) (r : List UInt8) : readQ nm vl hs lw (s.take n ++ r) = (0, (m, t, fs), n) := by
  obtain ⟨h1, h2, ls, fs0, h3, h4, h5, h6, h7, _, h9, h10⟩ := readQ_some h
  rw [h6, readQ_of h1 h2 h3 h4 h5 (by rw [← h7]; exact h9) h10 r, ← h7]
/-- Each proper prefix of a request ends too early. -/
theorem readQ_prefix {s m t : List UInt8} {fs : Fs} {n i : Nat} (h : readQ nm vl hs lw s = (0, (m, t, fs), n)) (hi : i < n) : readQ nm vl hs lw (s.take i) = (21, ([], [], []), 0) := by
  obtain ⟨h1, h2, ls, fs0, h3, h4, h5, h6, h7, h8, h9, h10⟩ := readQ_some h
  have hc : ∀ x ∈ startQ m t :: ls, Clean x ∧ x ≠ [] := fun x hx => by rcases List.mem_cons.1 hx with rfl | hx; exact start_clean h1 h2; exact h5 x hx
  have e4 := end4_enc (startQ m t :: ls) (by simp) hc []
  rw [List.append_nil, ← h6] at e4
  have e5 : s.take i = (s.take n).take i := by rw [List.take_take, Nat.min_eq_left (by omega)]
  have e6 : end4 (s.take i) = none := by rw [e5]; exact end4_short e4 (by rw [h6, ← h7]; exact hi)
  have e7 : endO (s.take i) = none := by
    unfold endO
    rw [if_neg, e6]
    intro e
    have h2 := take2_line (hc _ (List.mem_cons_self ..)).1 (hc _ (List.mem_cons_self ..)).2 (13 :: 10 :: enc ls)
    apply h2
    rw [← enc_cons, ← h6]
    have : (s.take i).take 2 = [13, 10] := e
    have hl := congrArg List.length this
    simp [List.length_take] at hl
    rw [List.take_take] at this ⊢
    rw [Nat.min_eq_left (by omega)] at this ⊢
    exact this
  unfold readQ splitG
  rw [e7]
  simp only [List.length_take]
  rw [if_pos (show min i s.length < 8192 by omega)]
  simp
/-- With a CR, an LF (but directly before its last byte) or a byte 0 inserted a request is refused. -/
theorem readQ_insert {s m t : List UInt8} {fs : Fs} {n i : Nat} {c : UInt8} (h : readQ nm vl hs lw s = (0, (m, t, fs), n)) (hi : i < n) (hc : c = 0 ∨ c = 13 ∨ c = 10) (hx : ¬ (c = 10 ∧ i + 1 = n)) :
    (readQ nm vl hs lw (s.take i ++ c :: (s.take n).drop i)).1 ≠ 0 := by
  obtain ⟨h1, h2, ls, fs0, h3, h4, h5, h6, h7, h8, h9, h10⟩ := readQ_some h
  have hcl : ∀ x ∈ startQ m t :: ls, Clean x ∧ x ≠ [] := fun x hx => by rcases List.mem_cons.1 hx with rfl | hx; exact start_clean h1 h2; exact h5 x hx
  have e4 := end4_enc (startQ m t :: ls) (by simp) hcl []
  rw [List.append_nil] at e4
  have eb := bare_enc (startQ m t :: ls) (fun x hx => (hcl x hx).1) 0
  rw [← h6] at e4 eb
  have hlen : (s.take n).length = n := by rw [h6, ← h7]
  have e5 : s.take i = (s.take n).take i := by rw [List.take_take, Nat.min_eq_left (by omega)]
  rw [e5]
  intro h0
  obtain ⟨m', t', fs', n', hr⟩ : ∃ m' t' fs' n', readQ nm vl hs lw ((s.take n).take i ++ c :: (s.take n).drop i) = (0, (m', t', fs'), n') := ⟨_, _, _, _, Prod.ext h0 rfl⟩
  obtain ⟨g1, g2, ks, _, _, _, g5, g6, g7, g8, _, _⟩ := readQ_some hr
  have gcl : ∀ x ∈ startQ m' t' :: ks, Clean x ∧ x ≠ [] := fun x hx => by rcases List.mem_cons.1 hx with rfl | hx; exact start_clean g1 g2; exact g5 x hx
  have q4 := end4_enc (startQ m' t' :: ks) (by simp) gcl (((s.take n).take i ++ c :: (s.take n).drop i).drop n')
  rw [← g7, ← g6, List.take_append_drop] at q4
  have qb := bare_enc (startQ m' t' :: ks) (fun x hx => (gcl x hx).1) 0
  rw [← g6] at qb
  have := insert_bare e4 eb (by rw [hlen]; exact hi) hc (by rw [hlen]; exact hx) q4
  rw [qb] at this
  cases this
end
end Go.Proofs.YthlfhbhjiofneaaDoor

/- Requests, written and read again. -/
namespace Go.Proofs.YthlfhbhjiofneaaDoor

section
variable {nm vl hs : List UInt8 → Option (List UInt8)} {lw : List UInt8 → List UInt8}
/-- A field with its host in lower case. -/
def lowH (lw : List UInt8 → List UInt8) (f : List UInt8 × List UInt8) : List UInt8 × List UInt8 := (f.1, if lw f.1 = hostN then lw f.2 else f.2)
theorem hostF_some (F : Flk nm vl hs lw) : ∀ {fs : Fs} {p : Fs × Nat}, hostF hs lw fs = some p → p.1 = fs.map (lowH lw) ∧ p.2 = (fs.filter fun f => decide (lw f.1 = hostN)).length ∧ ∀ f ∈ p.1, lw f.1 = hostN → hs f.2 = some f.2 := by
  intro fs
  induction fs with
  | nil => intro p h; obtain rfl := Option.some.inj h; exact ⟨rfl, rfl, by simp⟩
  | cons f r ih =>
    intro p h
    rw [hostF] at h
    by_cases hf : lw f.1 = hostN
    · rw [if_pos hf] at h
      cases h1 : hs f.2 with
      | none => rw [h1] at h; cases h
      | some y =>
        rw [h1] at h
        cases h2 : hostF hs lw r with
        | none => rw [h2] at h; cases h
        | some p' =>
          rw [h2] at h
          obtain rfl := Option.some.inj h
          obtain ⟨e1, e2, e3⟩ := ih h2
          refine ⟨?_, ?_, ?_⟩
          · rw [List.map_cons, ← e1]; unfold lowH; rw [if_pos hf, F.hs_lw h1]
          · rw [List.filter_cons_of_pos (by simpa using hf), List.length_cons, ← e2]
          · intro g hg hgn
            rcases List.mem_cons.1 hg with rfl | hg
            · exact F.hs_id h1
            · exact e3 g hg hgn
    · rw [if_neg hf] at h
      cases h2 : hostF hs lw r with
      | none => rw [h2] at h; cases h
      | some p' =>
        rw [h2] at h
        obtain rfl := Option.some.inj h
        obtain ⟨e1, e2, e3⟩ := ih h2
        refine ⟨?_, ?_, ?_⟩
        · rw [List.map_cons, ← e1]; unfold lowH; rw [if_neg hf]
        · rw [List.filter_cons_of_neg (by simpa using hf), ← e2]
        · intro g hg hgn
          rcases List.mem_cons.1 hg with rfl | hg
          · exact absurd hgn hf
          · exact e3 g hg hgn
/-- Fields whose hosts are canonical stay as they are. -/
theorem hostF_of : ∀ {fs : Fs}, (∀ f ∈ fs, lw f.1 = hostN → hs f.2 = some f.2) → hostF hs lw fs = some (fs, (fs.filter fun f => decide (lw f.1 = hostN)).length) := by
  intro fs
  induction fs with
  | nil => intro _; rfl
  | cons f r ih =>
    intro h
    rw [hostF, ih fun g hg => h g (by simp [hg])]
    by_cases hf : lw f.1 = hostN
    · rw [if_pos hf, h f (by simp) hf, List.filter_cons_of_pos (by simpa using hf)]; rfl
    · rw [if_neg hf, List.filter_cons_of_neg (by simpa using hf)]; rfl
theorem hosted_some (F : Flk nm vl hs lw) {fs fs' : Fs} (h : hosted hs lw fs = some fs') : fs' = fs.map (lowH lw) ∧ (fs.filter fun f => decide (lw f.1 = hostN)).length = 1 ∧ ∀ f ∈ fs', lw f.1 = hostN → hs f.2 = some f.2 := by
  unfold hosted at h
  cases h1 : hostF hs lw fs with
  | none => rw [h1] at h; cases h
  | some p =>
    rw [h1] at h
    obtain ⟨e1, e2, e3⟩ := hostF_some F h1
    by_cases h2 : p.2 = 1
    · simp only [Option.bind_some, if_pos h2] at h
      obtain rfl := Option.some.inj h
      exact ⟨e1, by rw [← e2]; exact h2, e3⟩
    · simp only [Option.bind_some, if_neg h2] at h; cases h
theorem hosted_of {fs : Fs} (h : ∀ f ∈ fs, lw f.1 = hostN → hs f.2 = some f.2) (hn : (fs.filter fun f => decide (lw f.1 = hostN)).length = 1) : hosted hs lw fs = some fs := by
  unfold hosted
  rw [hostF_of h]
  simp [hn]
/-- A field that can be written: its name and its value are right. -/
def GoodF (nm vl : List UInt8 → Option (List UInt8)) (lw : List UInt8 → List UInt8) (f : List UInt8 × List UInt8) : Prop := nm f.1 = some (lw f.1) ∧ vl f.2 = some f.2
theorem good_mem (F : Flk nm vl hs lw) {fs : Fs} (h : goodB nm vl fs = true) : ∀ f ∈ fs, GoodF nm vl lw f := by
  intro f hf
  unfold goodB at h
  rw [List.all_eq_true] at h
  have := h f hf
  simp only [Bool.and_eq_true, decide_eq_true_eq] at this
  obtain ⟨h1, h2⟩ := this
  cases h3 : nm f.1 with
  | none => rw [h3] at h1; cases h1
  | some y => exact ⟨by rw [h3, F.nm_lw h3], h2⟩
theorem mem_good {fs : Fs} (h : ∀ f ∈ fs, GoodF nm vl lw f) : goodB nm vl fs = true := by
  unfold goodB
  rw [List.all_eq_true]
  intro f hf
  rw [(h f hf).1, (h f hf).2]; simp
theorem good_lowH (F : Flk nm vl hs lw) {fs fs' : Fs} (h : ∀ f ∈ fs, GoodF nm vl lw f) (hh : hosted hs lw fs = some fs') : ∀ f ∈ fs', GoodF nm vl lw f := by
  obtain ⟨e1, _, e3⟩ := hosted_some F hh
  intro f hf
  by_cases hn : lw f.1 = hostN
  · have := e3 f hf hn
    rw [e1] at hf
    obtain ⟨g, hg, rfl⟩ := List.mem_map.1 hf
    exact ⟨(h g hg).1, F.hs_vl this⟩
  · rw [e1] at hf
    obtain ⟨g, hg, rfl⟩ := List.mem_map.1 hf
    have hn' : ¬ lw g.1 = hostN := hn
    have : lowH lw g = g := by unfold lowH; rw [if_neg hn']
    rw [this]; exact h g hg
theorem lineW_eq {f : List UInt8 × List UInt8} (h : GoodF nm vl lw f) : lineW nm f = lw f.1 ++ 58 :: 32 :: f.2 := by unfold lineW; rw [h.1]; rfl
theorem readF_line (F : Flk nm vl hs lw) {f : List UInt8 × List UInt8} (h : GoodF nm vl lw f) : readF nm vl (lineW nm f) = (0, lw f.1, f.2) := by
  have hy := F.nm_id h.1
  obtain ⟨hne, hc⟩ := F.nm_ok hy
  have h58 : 58 ∉ lw f.1 := fun hm => (hc 58 hm).2.2.2.1 rfl
  have hws : (lw f.1).any wsB = false := by
    rw [List.any_eq_false]
    intro c hm
    have := hc c hm
    simp [wsB, this.2.2.2.2.1, this.2.2.2.2.2]
  have hhd : (lw f.1 ++ 58 :: 32 :: f.2).head?.any wsB = false := by
    cases hl : lw f.1 with
    | nil => exact absurd hl hne
    | cons c t =>
      rw [hl, List.any_cons, Bool.or_eq_false_iff] at hws
      exact hws.1
  rw [lineW_eq h]
  unfold readF
  rw [hhd, cut1_at h58]
  simp only [Bool.false_eq_true, if_false, if_neg hne, hws, hy, F.vl_sp h.2]
theorem line_clean (F : Flk nm vl hs lw) {f : List UInt8 × List UInt8} (h : GoodF nm vl lw f) : Clean (lineW nm f) ∧ lineW nm f ≠ [] := by
  obtain ⟨_, hc⟩ := F.nm_ok (F.nm_id h.1)
  rw [lineW_eq h]
  refine ⟨clean_app.2 ⟨fun c hm => ⟨(hc c hm).1, (hc c hm).2.1, (hc c hm).2.2.1⟩, clean_cons.2 ⟨by decide, clean_cons.2 ⟨by decide, F.vl_ok h.2⟩⟩⟩, by simp⟩
theorem readFs_lines (F : Flk nm vl hs lw) : ∀ {fs : Fs}, (∀ f ∈ fs, GoodF nm vl lw f) → readFs nm vl (fs.map (lineW nm)) = (0, fs.map fun f => (lw f.1, f.2)) := by
  intro fs
  induction fs with
  | nil => intro _; rfl
  | cons f r ih =>
    intro h
    rw [List.map_cons, readFs, readF_line F (h f (by simp)), ih fun g hg => h g (by simp [hg])]
    simp
theorem lines_len : ∀ {fs fs' : Fs}, fs' = fs.map (lowH lw) → (∀ x, (lw x).length = x.length) → (flat (fs'.map (lineW nm))).length = (flat (fs.map (lineW nm))).length := by
  intro fs
  induction fs with
  | nil => intro fs' h _; rw [h]; rfl
  | cons f r ih =>
    intro fs' h hl
    have := ih (fs' := r.map (lowH lw)) rfl hl
    rw [h, List.map_cons, List.map_cons, List.map_cons, flat_cons, flat_cons, List.length_append, List.length_append, List.length_cons, List.length_cons, List.length_cons, List.length_cons, this]
    have e : (lineW nm (lowH lw f)).length = (lineW nm f).length := by
      unfold lineW lowH
      simp only [List.length_append, List.length_cons]
      split <;> simp [hl]
    rw [e]
theorem encH_len (x : List UInt8) (ls : List (List UInt8)) : (enc (x :: ls)).length = x.length + 4 + (flat ls).length := by rw [enc_cons]; simp [enc]; omega
/-- What is written is read again: names and the host are in lower case. -/
theorem writeQ_read (F : Flk nm vl hs lw) {m t b : List UInt8} {fs : Fs} (h : writeQ nm vl hs lw (m, t, fs) = (0, b)) (r : List UInt8) :
    readQ nm vl hs lw (b ++ r) = (0, (m, t, fs.map fun f => (lw f.1, (lowH lw f).2)), b.length) := by
  unfold writeQ at h
  simp only at h
  by_cases h1 : 64 < fs.length ∨ 8192 < (enc (startQ m t :: fs.map (lineW nm))).length
  · rw [if_pos h1] at h; exact absurd (congrArg Prod.fst h) (by simp)
  rw [if_neg h1] at h
  by_cases h2 : methodB m = false
  · rw [if_pos h2] at h; exact absurd (congrArg Prod.fst h) (by simp)
  rw [if_neg h2] at h
  by_cases h3 : targetB m t = false
  · rw [if_pos h3] at h; exact absurd (congrArg Prod.fst h) (by simp)
  rw [if_neg h3] at h
  by_cases h4 : goodB nm vl fs = false
  · rw [if_pos h4] at h; exact absurd (congrArg Prod.fst h) (by simp)
  rw [if_neg h4] at h
  cases h5 : hosted hs lw fs with
  | none => rw [h5] at h; exact absurd (congrArg Prod.fst h) (by simp)
  | some fs' =>
    rw [h5] at h
    simp only [Prod.mk.injEq, true_and] at h
    subst h
    simp only [not_or, Bool.not_eq_false] at h1 h2 h3 h4
    obtain ⟨e1, e2, e3⟩ := hosted_some F h5
    have hg := good_lowH F (good_mem F h4) h5
    have hlen : fs'.length = fs.length := by rw [e1, List.length_map]
    have hfl : (fs'.map fun f => (lw f.1, f.2)) = fs.map fun f => (lw f.1, (lowH lw f).2) := by rw [e1, List.map_map]; rfl
    have hh : hosted hs lw (fs'.map fun f => (lw f.1, f.2)) = some (fs'.map fun f => (lw f.1, f.2)) := by
      apply hosted_of
      · intro f hf hn
        obtain ⟨g, hg2, rfl⟩ := List.mem_map.1 hf
        simp only [F.lw_id] at hn
        exact e3 g hg2 hn
      · rw [hfl, List.filter_map, List.length_map]
        have : ((fun f : List UInt8 × List UInt8 => decide (lw f.1 = hostN)) ∘ fun f => (lw f.1, (lowH lw f).2)) = fun f => decide (lw f.1 = hostN) := by funext f; simp [F.lw_id]
        rw [this]; exact e2
    rw [← hfl]
    refine readQ_of h2 h3 (readFs_lines F hg) hh (fun x hx => ?_) ?_ (by rw [List.length_map]; omega) r
    · obtain ⟨f, hf, rfl⟩ := List.mem_map.1 hx
      exact line_clean F (hg f hf)
    · rw [encH_len, lines_len e1 F.lw_len, ← encH_len]; omega
/-- A line that is read as a field: the field's own line is at most a byte longer. -/
theorem readF_some (F : Flk nm vl hs lw) {l : List UInt8} {f : List UInt8 × List UInt8} (h : readF nm vl l = (0, f)) : nm f.1 = some f.1 ∧ lw f.1 = f.1 ∧ vl f.2 = some f.2 ∧ f.1.length + f.2.length + 1 ≤ l.length := by
  unfold readF at h
  by_cases h1 : l.head?.any wsB = true
  · rw [if_pos h1] at h; exact absurd (congrArg Prod.fst h) (by simp)
  rw [if_neg h1] at h
  cases h2 : cut1 58 l with
  | none => rw [h2] at h; exact absurd (congrArg Prod.fst h) (by simp)
  | some p =>
    obtain ⟨b, a⟩ := p
    rw [h2] at h
    simp only at h
    by_cases h3 : b = []
    · rw [if_pos h3] at h; exact absurd (congrArg Prod.fst h) (by simp)
    rw [if_neg h3] at h
    by_cases h4 : b.any wsB = true
    · rw [if_pos h4] at h; exact absurd (congrArg Prod.fst h) (by simp)
    rw [if_neg h4] at h
    cases h5 : nm b with
    | none => rw [h5] at h; exact absurd (congrArg Prod.fst h) (by simp)
    | some y =>
      rw [h5] at h
      cases h6 : vl a with
      | none => rw [h6] at h; exact absurd (congrArg Prod.fst h) (by simp)
      | some v =>
        rw [h6] at h
        simp only [Prod.mk.injEq, true_and] at h
        subst h
        have e := F.nm_lw h5
        obtain ⟨e1, _⟩ := cut1_some h2
        refine ⟨F.nm_id h5, by rw [e, F.lw_id], (F.vl_id h6).1, ?_⟩
        have := (F.vl_id h6).2
        show y.length + v.length + 1 ≤ l.length
        rw [e1, e, F.lw_len, List.length_append, List.length_cons]
        omega
theorem readFs_some (F : Flk nm vl hs lw) : ∀ {ls : List (List UInt8)} {fs : Fs}, readFs nm vl ls = (0, fs) → fs.length = ls.length ∧ (∀ f ∈ fs, nm f.1 = some f.1 ∧ lw f.1 = f.1 ∧ vl f.2 = some f.2) ∧ (flat (fs.map (lineW nm))).length ≤ (flat ls).length + ls.length := by
  intro ls
  induction ls with
  | nil => intro fs h; simp only [readFs, Prod.mk.injEq, true_and] at h; subst h; exact ⟨rfl, by simp, by simp [flat]⟩
  | cons l r ih =>
    intro fs h
    rw [readFs] at h
    by_cases h1 : (readF nm vl l).1 ≠ 0
    · rw [if_pos h1] at h; exact absurd (congrArg Prod.fst h) h1
    rw [if_neg h1] at h
    by_cases h2 : (readFs nm vl r).1 ≠ 0
    · rw [if_pos h2] at h; exact absurd (congrArg Prod.fst h) h2
    rw [if_neg h2] at h
    simp only [Prod.mk.injEq, true_and] at h
    subst h
    simp only [ne_eq, Decidable.not_not] at h1 h2
    obtain ⟨a1, a2, a3, a4⟩ := readF_some F (l := l) (f := (readF nm vl l).2) (Prod.ext h1 rfl)
    obtain ⟨b1, b2, b3⟩ := ih (fs := (readFs nm vl r).2) (Prod.ext h2 rfl)
    refine ⟨by simp [b1], ?_, ?_⟩
    · intro f hf
      rcases List.mem_cons.1 hf with rfl | hf
      · exact ⟨a1, a2, a3⟩
      · exact b2 f hf
    · rw [List.map_cons, flat_cons, flat_cons]
      have e : (lineW nm (readF nm vl l).2).length = (readF nm vl l).2.1.length + (readF nm vl l).2.2.length + 2 := by
        unfold lineW; rw [a1]; simp; omega
      simp only [List.length_append, List.length_cons, e]
      omega
/-- What is read can be written (unless the canonical head is too long), and is read again as the same request. -/
theorem readQ_write (F : Flk nm vl hs lw) {s m t : List UInt8} {fs : Fs} {n : Nat} (h : readQ nm vl hs lw s = (0, (m, t, fs), n)) :
    (writeQ nm vl hs lw (m, t, fs) = (5, []) ∧ 8192 < n + 64) ∨ ∃ b, writeQ nm vl hs lw (m, t, fs) = (0, b) ∧ readQ nm vl hs lw b = (0, (m, t, fs), b.length) := by
  obtain ⟨h1, h2, ls, fs0, h3, h4, h5, h6, h7, h8, h9, h10⟩ := readQ_some h
  obtain ⟨a1, a2, a3⟩ := readFs_some F h3
  obtain ⟨e1, e2, e3⟩ := hosted_some F h4
  have hg0 : ∀ f ∈ fs0, GoodF nm vl lw f := fun f hf => ⟨by rw [(a2 f hf).2.1]; exact (a2 f hf).1, (a2 f hf).2.2⟩
  have hg := good_lowH F hg0 h4
  have hlen : fs.length = fs0.length := by rw [e1, List.length_map]
  have hself : ∀ f ∈ fs, lw f.1 = f.1 := fun f hf => by
    rw [e1] at hf
    obtain ⟨g, hg2, rfl⟩ := List.mem_map.1 hf
    exact (a2 g hg2).2.1
  have hcount : (fs.filter fun f => decide (lw f.1 = hostN)).length = 1 := by
    rw [e1, List.filter_map, List.length_map]
    exact e2
  have hh : hosted hs lw fs = some fs := hosted_of e3 hcount
  have hbl : (enc (startQ m t :: fs.map (lineW nm))).length ≤ n + ls.length := by
    rw [h7, encH_len, encH_len, lines_len e1 F.lw_len]; omega
  by_cases hbig : 8192 < (enc (startQ m t :: fs.map (lineW nm))).length
  · left
    refine ⟨?_, by omega⟩
    unfold writeQ
    rw [if_pos (.inr hbig)]
  · right
    have hw : writeQ nm vl hs lw (m, t, fs) = (0, enc (startQ m t :: fs.map (lineW nm))) := by
      unfold writeQ
      rw [if_neg (show ¬ (64 < fs.length ∨ _) by rintro (x | x); omega; exact hbig x)]
      simp only
      rw [if_neg (by rw [h1]; decide), if_neg (by rw [h2]; decide), if_neg (by rw [mem_good hg]; decide), hh]
    refine ⟨_, hw, ?_⟩
    have := writeQ_read F hw []
    rw [List.append_nil] at this
    rw [this]
    have e : (fs.map fun f => (lw f.1, (lowH lw f).2)) = fs := by
      conv => rhs; rw [← List.map_id fs]
      apply List.map_congr_left
      intro f hf
      have e4 := hself f hf
      have e5 : (lowH lw f).2 = f.2 := by
        unfold lowH
        simp only
        by_cases hn : lw f.1 = hostN
        · rw [if_pos hn]; exact (F.hs_lw (e3 f hf hn)).symm
        · rw [if_neg hn]
      rw [e4, e5]; rfl
    rw [e]
end
end Go.Proofs.YthlfhbhjiofneaaDoor

/- Responses: reading and writing heads, in lists of bytes; what is written is read again. -/
namespace Go.Proofs.YthlfhbhjiofneaaDoor

/-- The phrases. -/
def phrases : List (Nat × List UInt8) := [
  (100, [67, 111, 110, 116, 105, 110, 117, 101]),
  (101, [83, 119, 105, 116, 99, 104, 105, 110, 103, 32, 80, 114, 111, 116, 111, 99, 111, 108, 115]),
  (200, [79, 75]),
  (201, [67, 114, 101, 97, 116, 101, 100]),
  (202, [65, 99, 99, 101, 112, 116, 101, 100]),
  (203, [78, 111, 110, 45, 65, 117, 116, 104, 111, 114, 105, 116, 97, 116, 105, 118, 101, 32, 73, 110, 102, 111, 114, 109, 97, 116, 105, 111, 110]),
  (204, [78, 111, 32, 67, 111, 110, 116, 101, 110, 116]),
  (206, [80, 97, 114, 116, 105, 97, 108, 32, 67, 111, 110, 116, 101, 110, 116]),
  (300, [77, 117, 108, 116, 105, 112, 108, 101, 32, 67, 104, 111, 105, 99, 101, 115]),
  (301, [77, 111, 118, 101, 100, 32, 80, 101, 114, 109, 97, 110, 101, 110, 116, 108, 121]),
  (302, [70, 111, 117, 110, 100]),
  (303, [83, 101, 101, 32, 79, 116, 104, 101, 114]),
  (304, [78, 111, 116, 32, 77, 111, 100, 105, 102, 105, 101, 100]),
  (307, [84, 101, 109, 112, 111, 114, 97, 114, 121, 32, 82, 101, 100, 105, 114, 101, 99, 116]),
  (308, [80, 101, 114, 109, 97, 110, 101, 110, 116, 32, 82, 101, 100, 105, 114, 101, 99, 116]),
  (400, [66, 97, 100, 32, 82, 101, 113, 117, 101, 115, 116]),
  (401, [85, 110, 97, 117, 116, 104, 111, 114, 105, 122, 101, 100]),
  (403, [70, 111, 114, 98, 105, 100, 100, 101, 110]),
  (404, [78, 111, 116, 32, 70, 111, 117, 110, 100]),
  (405, [77, 101, 116, 104, 111, 100, 32, 78, 111, 116, 32, 65, 108, 108, 111, 119, 101, 100]),
  (408, [82, 101, 113, 117, 101, 115, 116, 32, 84, 105, 109, 101, 111, 117, 116]),
  (410, [71, 111, 110, 101]),
  (411, [76, 101, 110, 103, 116, 104, 32, 82, 101, 113, 117, 105, 114, 101, 100]),
  (412, [80, 114, 101, 99, 111, 110, 100, 105, 116, 105, 111, 110, 32, 70, 97, 105, 108, 101, 100]),
  (413, [67, 111, 110, 116, 101, 110, 116, 32, 84, 111, 111, 32, 76, 97, 114, 103, 101]),
  (414, [85, 82, 73, 32, 84, 111, 111, 32, 76, 111, 110, 103]),
  (416, [82, 97, 110, 103, 101, 32, 78, 111, 116, 32, 83, 97, 116, 105, 115, 102, 105, 97, 98, 108, 101]),
  (429, [84, 111, 111, 32, 77, 97, 110, 121, 32, 82, 101, 113, 117, 101, 115, 116, 115]),
  (431, [82, 101, 113, 117, 101, 115, 116, 32, 72, 101, 97, 100, 101, 114, 32, 70, 105, 101, 108, 100, 115, 32, 84, 111, 111, 32, 76, 97, 114, 103, 101]),
  (500, [73, 110, 116, 101, 114, 110, 97, 108, 32, 83, 101, 114, 118, 101, 114, 32, 69, 114, 114, 111, 114]),
  (501, [78, 111, 116, 32, 73, 109, 112, 108, 101, 109, 101, 110, 116, 101, 100]),
  (502, [66, 97, 100, 32, 71, 97, 116, 101, 119, 97, 121]),
  (503, [83, 101, 114, 118, 105, 99, 101, 32, 85, 110, 97, 118, 97, 105, 108, 97, 98, 108, 101]),
  (504, [71, 97, 116, 101, 119, 97, 121, 32, 84, 105, 109, 101, 111, 117, 116])]
def reasonL (n : Nat) : List UInt8 := ((phrases.find? fun p => decide (p.1 = n)).map (·.2)).getD []
def ctlG (c : UInt8) : Bool := (decide (c.toNat < 32) && decide (c.toNat ≠ 9)) || decide (c.toNat = 127)
def d3 (n : Nat) : List UInt8 := [UInt8.ofNat (48 + n / 100), UInt8.ofNat (48 + n / 10 % 10), UInt8.ofNat (48 + n % 10)]
def dgB (c : UInt8) : Bool := decide (48 ≤ c.toNat) && decide (c.toNat ≤ 57)
/-- The status of what follows the version; 0 if there is none. -/
def statusN : List UInt8 → Nat
  | a :: b :: c :: r =>
    if (r = [] ∨ r.head? = some 32) ∧ dgB a = true ∧ dgB b = true ∧ dgB c = true ∧ r.any ctlG = false then
      let n := 100 * (a.toNat - 48) + 10 * (b.toNat - 48) + (c.toNat - 48)
      if 100 ≤ n ∧ n ≤ 599 then n else 0
    else 0
  | _ => 0
theorem reason_clean_tab : (phrases.all fun p => p.2.all fun c => !ctlG c) = true := by decide +kernel
theorem reason_noctl (n : Nat) : (reasonL n).any ctlG = false := by
  unfold reasonL
  cases h : phrases.find? fun p => decide (p.1 = n) with
  | none => rfl
  | some p =>
    have := List.all_eq_true.1 reason_clean_tab p (List.mem_of_find?_eq_some h)
    show p.2.any ctlG = false
    rw [List.any_eq_false]
    intro c hc
    have := List.all_eq_true.1 this c hc
    simpa using this
theorem noctl_clean {l : List UInt8} (h : l.any ctlG = false) : Clean l := by
  rw [List.any_eq_false] at h
  intro c hc
  have := h c hc
  refine ⟨?_, ?_, ?_⟩ <;> (rintro rfl; exact this (by decide))
section
variable (nm vl hs : List UInt8 → Option (List UInt8)) (lw : List UInt8 → List UInt8)
abbrev Rp := Nat × Fs
/-- A response, read from its lines. -/
def respL (l : List (List UInt8)) : Nat × Rp :=
  if (cutG 32 (l.headD [])).1 ≠ verL then (28, 0, [])
  else if statusN (cutG 32 (l.headD [])).2 = 0 then (2, 0, [])
  else if (readFs nm vl l.tail).1 ≠ 0 then ((readFs nm vl l.tail).1, 0, [])
  else (0, statusN (cutG 32 (l.headD [])).2, (readFs nm vl l.tail).2)
def readP (s : List UInt8) : Nat × Rp × Nat :=
  if (splitG s).1 ≠ 0 then ((splitG s).1, (0, []), 0)
  else if (respL nm vl (splitG s).2.1).1 ≠ 0 then ((respL nm vl (splitG s).2.1).1, (0, []), 0)
  else (0, (respL nm vl (splitG s).2.1).2, (splitG s).2.2)
/-- The status that is written: 0 for one out of range. -/
def stN (st : Int) : Nat := if st < 100 ∨ 599 < st then 0 else st.toNat
def startP (st : Int) : List UInt8 := verL ++ 32 :: (d3 (stN st) ++ 32 :: reasonL (stN st))
def writeP (st : Int) (fs : Fs) : Nat × List UInt8 :=
  if 64 < fs.length ∨ 8192 < (enc (startP st :: fs.map (lineW nm))).length then (5, [])
  else if stN st = 0 then (2, [])
  else if goodB nm vl fs = false then (25, [])
  else (0, enc (startP st :: fs.map (lineW nm)))
end
section
variable {nm vl hs : List UInt8 → Option (List UInt8)} {lw : List UInt8 → List UInt8}
theorem d3_clean (n : Nat) (h : n ≤ 599) : Clean (d3 n) := by
  intro c hc
  simp only [d3, List.mem_cons, List.not_mem_nil, or_false] at hc
  have key : ∀ k, k ≤ 9 → UInt8.ofNat (48 + k) ≠ 0 ∧ UInt8.ofNat (48 + k) ≠ 13 ∧ UInt8.ofNat (48 + k) ≠ 10 := by
    intro k hk
    have : k = 0 ∨ k = 1 ∨ k = 2 ∨ k = 3 ∨ k = 4 ∨ k = 5 ∨ k = 6 ∨ k = 7 ∨ k = 8 ∨ k = 9 := by omega
    rcases this with rfl | rfl | rfl | rfl | rfl | rfl | rfl | rfl | rfl | rfl <;> decide
  rcases hc with rfl | rfl | rfl
  · exact key _ (by omega)
  · exact key _ (by omega)
  · exact key _ (by omega)
theorem d3_toNat (k : Nat) (hk : k ≤ 9) : (UInt8.ofNat (48 + k)).toNat = 48 + k := by rw [UInt8.toNat_ofNat']; omega
theorem statusN_d3 (n : Nat) (h1 : 100 ≤ n) (h2 : n ≤ 599) : statusN (d3 n ++ 32 :: reasonL n) = n := by
  have a1 := d3_toNat (n / 100) (by omega)
  have a2 := d3_toNat (n / 10 % 10) (by omega)
  have a3 := d3_toNat (n % 10) (by omega)
  have hr : (32 :: reasonL n).any ctlG = false := by rw [List.any_cons, reason_noctl]; decide
  show statusN (UInt8.ofNat (48 + n / 100) :: UInt8.ofNat (48 + n / 10 % 10) :: UInt8.ofNat (48 + n % 10) :: 32 :: reasonL n) = n
  simp only [statusN]
  rw [if_pos ⟨.inr rfl, by unfold dgB; rw [a1]; simp; omega, by unfold dgB; rw [a2]; simp; omega, by unfold dgB; rw [a3]; simp; omega, hr⟩, a1, a2, a3]
  have e : 100 * (48 + n / 100 - 48) + 10 * (48 + n / 10 % 10 - 48) + (48 + n % 10 - 48) = n := by omega
  simp only [e]
  rw [if_pos ⟨h1, h2⟩]
theorem startP_clean (st : Int) : Clean (startP st) ∧ startP st ≠ [] := by
  unfold startP
  refine ⟨clean_app.2 ⟨ver_clean, clean_cons.2 ⟨by decide, clean_app.2 ⟨d3_clean _ (by unfold stN; split <;> omega), clean_cons.2 ⟨by decide, noctl_clean (reason_noctl _)⟩⟩⟩⟩, by simp⟩
/-- What is written is read again. -/
theorem writeP_read (F : Flk nm vl hs lw) {st : Int} {fs : Fs} {b : List UInt8} (h : writeP nm vl st fs = (0, b)) (r : List UInt8) :
    (100 ≤ st ∧ st ≤ 599) ∧ readP nm vl (b ++ r) = (0, (st.toNat, fs.map fun f => (lw f.1, f.2)), b.length) := by
  unfold writeP at h
  by_cases h1 : 64 < fs.length ∨ 8192 < (enc (startP st :: fs.map (lineW nm))).length
  · rw [if_pos h1] at h; exact absurd (congrArg Prod.fst h) (by simp)
  rw [if_neg h1] at h
  by_cases h2 : stN st = 0
  · rw [if_pos h2] at h; exact absurd (congrArg Prod.fst h) (by simp)
  rw [if_neg h2] at h
  by_cases h4 : goodB nm vl fs = false
  · rw [if_pos h4] at h; exact absurd (congrArg Prod.fst h) (by simp)
  rw [if_neg h4] at h
  simp only [Prod.mk.injEq, true_and] at h
  subst h
  simp only [not_or, Bool.not_eq_false] at h1 h4
  have hst : 100 ≤ st ∧ st ≤ 599 := by
    unfold stN at h2
    by_cases hh : st < 100 ∨ 599 < st
    · rw [if_pos hh] at h2; exact absurd rfl h2
    · omega
  have hsn : stN st = st.toNat := by unfold stN; rw [if_neg (by omega)]
  have hg := good_mem F h4
  refine ⟨hst, ?_⟩
  have hs' : splitG (enc (startP st :: fs.map (lineW nm)) ++ r) = (0, startP st :: fs.map (lineW nm), (enc (startP st :: fs.map (lineW nm))).length) :=
    splitG_enc (by simp) (fun x hx => by
      rcases List.mem_cons.1 hx with rfl | hx
      · exact startP_clean st
      · obtain ⟨f, hf, rfl⟩ := List.mem_map.1 hx
        exact line_clean F (hg f hf)) (by omega) (by rw [List.length_cons, List.length_map]; omega) r
  have e1 : cutG 32 (startP st) = (verL, d3 (stN st) ++ 32 :: reasonL (stN st)) := cutG_at (by decide) _
  have e2 : statusN (d3 (stN st) ++ 32 :: reasonL (stN st)) = st.toNat := by rw [statusN_d3 _ (by omega) (by omega), hsn]
  have hl : respL nm vl (startP st :: fs.map (lineW nm)) = (0, st.toNat, fs.map fun f => (lw f.1, f.2)) := by
    unfold respL
    simp only [List.headD_cons, List.tail_cons, e1, e2, readFs_lines F hg]
    rw [if_neg (show ¬ verL ≠ verL by simp), if_neg (show ¬ st.toNat = 0 by omega)]
    simp
  unfold readP
  rw [hs']
  simp only [hl]
  simp
end
end Go.Proofs.YthlfhbhjiofneaaDoor

/- Names, values and hosts are as the heads' reading and writing asks. -/
namespace Go.Proofs.YthlfhbhjiofneaaDoor

def nmO (l : List UInt8) : Option (List UInt8) := if nameC l = 0 then some (lowS l) else none
def vlO (l : List UInt8) : Option (List UInt8) := if valueC l = 0 then some (trimB l) else none
theorem tok_fin : ∀ n : Fin 256, tokB (UInt8.ofNat n.val) = true → (UInt8.ofNat n.val ≠ 0 ∧ UInt8.ofNat n.val ≠ 13 ∧ UInt8.ofNat n.val ≠ 10 ∧ UInt8.ofNat n.val ≠ 58 ∧ UInt8.ofNat n.val ≠ 32 ∧ UInt8.ofNat n.val ≠ 9) ∧ tokB (lowB (UInt8.ofNat n.val)) = true := by decide +kernel
theorem tok_facts {c : UInt8} (h : tokB c = true) : (c ≠ 0 ∧ c ≠ 13 ∧ c ≠ 10 ∧ c ≠ 58 ∧ c ≠ 32 ∧ c ≠ 9) ∧ tokB (lowB c) = true := by
  have := tok_fin ⟨c.toNat, UInt8.toNat_lt c⟩ (by rw [UInt8.ofNat_toNat]; exact h)
  simpa only [UInt8.ofNat_toNat] using this
theorem nmO_some {l y : List UInt8} (h : nmO l = some y) : y = lowS l ∧ tokS l = true ∧ l.length ≤ 64 := by
  unfold nmO at h
  by_cases h1 : nameC l = 0
  · rw [if_pos h1] at h
    unfold nameC at h1
    by_cases h2 : tokS l = true
    · rw [if_pos h2] at h1
      exact ⟨(Option.some.inj h).symm, h2, by split at h1 <;> omega⟩
    · rw [if_neg h2] at h1; omega
  · rw [if_neg h1] at h; cases h
theorem nmO_of {l : List UInt8} (h1 : tokS l = true) (h2 : l.length ≤ 64) : nmO l = some (lowS l) := by
  have e : nameC l = 0 := by unfold nameC; rw [if_pos h1, if_neg (by omega)]
  unfold nmO; rw [if_pos e]
theorem tokS_low {l : List UInt8} (h : tokS l = true) : tokS (lowS l) = true := by
  unfold tokS at h ⊢
  rw [Bool.and_eq_true, List.all_eq_true] at h
  rw [Bool.and_eq_true, List.all_eq_true]
  refine ⟨fun c hc => ?_, ?_⟩
  · unfold lowS at hc
    obtain ⟨d, hd, rfl⟩ := List.mem_map.1 hc
    exact (tok_facts (h.1 d hd)).2
  · cases l with
    | nil => simp at h
    | cons c t => rfl
theorem ctl_fin : ∀ n : Fin 256, ctlB (UInt8.ofNat n.val) = false → UInt8.ofNat n.val ≠ 0 ∧ UInt8.ofNat n.val ≠ 13 ∧ UInt8.ofNat n.val ≠ 10 := by decide +kernel
theorem vlO_some {l y : List UInt8} (h : vlO l = some y) : y = trimB l ∧ ctlS l = false ∧ (trimB l).length ≤ 2048 := by
  unfold vlO at h
  by_cases h1 : valueC l = 0
  · rw [if_pos h1] at h
    unfold valueC at h1
    by_cases h2 : ctlS l = true
    · rw [if_pos h2] at h1; omega
    · rw [if_neg h2] at h1
      exact ⟨(Option.some.inj h).symm, by simpa using h2, by split at h1 <;> omega⟩
  · rw [if_neg h1] at h; cases h
theorem vlO_of {l : List UInt8} (h1 : ctlS l = false) (h2 : (trimB l).length ≤ 2048) : vlO l = some (trimB l) := by
  have e : valueC l = 0 := by unfold valueC; rw [h1, if_neg (by decide), if_neg (by omega)]
  unfold vlO; rw [if_pos e]
theorem tL_id (l : List UInt8) : tL (tL l) = tL l := by
  induction l with
  | nil => rfl
  | cons c t ih =>
    rw [tL_cons]
    by_cases h : blank c = true
    · rw [if_pos h]; exact ih
    · rw [if_neg h, tL_cons, if_neg h]
theorem tR_id (l : List UInt8) : tR (tR l) = tR l := by
  induction l with
  | nil => rfl
  | cons c t ih =>
    rw [tR_cons]
    by_cases h : tR t = [] ∧ blank c = true
    · rw [if_pos h]; rfl
    · rw [if_neg h, tR_cons, ih, if_neg h]
theorem trimB_id (l : List UInt8) : trimB (trimB l) = trimB l := by
  rw [trimB_eq, trimB_eq, tR_tL, tR_id, ← tR_tL (tL l), tL_id]
theorem trimB_sub (l : List UInt8) : ∀ c ∈ trimB l, c ∈ l := by
  intro c hc
  rw [trimB_eq] at hc
  unfold tR at hc
  rw [List.mem_reverse] at hc
  have h1 := (List.dropWhile_sublist blank).subset hc
  rw [List.mem_reverse] at h1
  exact (List.dropWhile_sublist blank).subset h1
theorem ctlS_sub {a b : List UInt8} (h : ∀ c ∈ a, c ∈ b) (hb : ctlS b = false) : ctlS a = false := by
  unfold ctlS at *
  rw [List.any_eq_false] at *
  exact fun c hc => hb c (h c hc)
theorem trimB_blank (c : UInt8) (hc : blank c = true) (l : List UInt8) : trimB (c :: l) = trimB l := by
  rw [trimB_eq, trimB_eq, tL_cons, if_pos hc]
/-- A text without blanks is trimmed. -/
theorem trimB_none {l : List UInt8} (h : ∀ c ∈ l, blank c = false) : trimB l = l := by
  have h1 : tL l = l := by
    cases l with
    | nil => rfl
    | cons c t => rw [tL_cons, if_neg (by rw [h c (by simp)]; decide)]
  have h2 : tR l = l := by
    unfold tR
    have : l.reverse.dropWhile blank = l.reverse := by
      cases hr : l.reverse with
      | nil => rfl
      | cons c t =>
        rw [List.dropWhile_cons, if_neg]
        have : c ∈ l.reverse := by rw [hr]; simp
        rw [h c (List.mem_reverse.1 this)]; decide
    rw [this, List.reverse_reverse]
  rw [trimB_eq, h1, h2]
theorem aln_fin : ∀ n : Fin 256, lblC (UInt8.ofNat n.val) = true → ctlB (UInt8.ofNat n.val) = false ∧ blank (UInt8.ofNat n.val) = false := by decide +kernel
theorem lblC_facts {c : UInt8} (h : lblC c = true) : ctlB c = false ∧ blank c = false := by
  have := aln_fin ⟨c.toNat, UInt8.toNat_lt c⟩ (by rw [UInt8.ofNat_toNat]; exact h)
  simpa only [UInt8.ofNat_toNat] using this
theorem host_chars {l h : List UInt8} (e : hostO l = some h) : ∀ c ∈ h, ctlB c = false ∧ blank c = false := by
  have e' := (hostO_some (hostO_idem e)).2.2
  intro c hc
  by_cases hd : c = 46
  · subst hd; decide
  · obtain ⟨s, hs, hxs⟩ := cutL_mem 46 h c hc hd
    have := List.all_eq_true.mp e' s hs
    simp only [lblB, Bool.and_eq_true, List.all_eq_true] at this
    exact lblC_facts (this.2 c hxs)
theorem flk : Flk nmO vlO hostO lowS where
  nm_lw h := (nmO_some h).1
  nm_id h := by
    obtain ⟨rfl, h2, h3⟩ := nmO_some h
    rw [nmO_of (tokS_low h2) (by rw [lowS_len]; exact h3), lowS_idem]
  nm_ok h := by
    obtain ⟨rfl, h2, h3⟩ := nmO_some h
    unfold tokS at h2
    rw [Bool.and_eq_true, List.all_eq_true] at h2
    refine ⟨?_, fun c hc => (tok_facts (h2.1 c hc)).1⟩
    rintro rfl
    simp at h2
  vl_ok h := by
    obtain ⟨_, h2, _⟩ := vlO_some h
    unfold ctlS at h2
    rw [List.any_eq_false] at h2
    intro c hc
    have h3 : ctlB c = false := by simpa using h2 c hc
    have := ctl_fin ⟨c.toNat, UInt8.toNat_lt c⟩ (by rw [UInt8.ofNat_toNat]; exact h3)
    simpa only [UInt8.ofNat_toNat] using this
  vl_id h := by
    obtain ⟨rfl, h2, h3⟩ := vlO_some h
    refine ⟨?_, trimB_le _⟩
    rw [vlO_of (ctlS_sub (trimB_sub _) h2) (by rw [trimB_id]; exact h3), trimB_id]
  vl_sp h := by
    obtain ⟨h1, h2, h3⟩ := vlO_some h
    have e := trimB_blank 32 (by decide) _ |>.trans h1.symm
    rw [vlO_of (by unfold ctlS; rw [List.any_cons]; unfold ctlS at h2; rw [h2]; decide) (by rw [trimB_blank 32 (by decide)]; exact h3), e]
  hs_lw h := (hostO_some h).1
  hs_id h := hostO_idem h
  hs_vl h := by
    have hc := host_chars h
    have ht : trimB _ = _ := trimB_none fun c hm => (hc c hm).2
    have hl := (hostO_some (hostO_idem h)).2.1
    rw [vlO_of (by unfold ctlS; rw [List.any_eq_false]; intro c hm; simp [(hc c hm).1]) (by rw [ht]; omega), ht]
  lw_len := lowS_len
  lw_id := lowS_idem
end Go.Proofs.YthlfhbhjiofneaaDoor

/- The last chunk and the trailers as they are written, and what a decoder makes of them: the plain part. -/
namespace Go.Proofs.YthlfhbhjiofneaaDoor

/-- May a field be written as a trailer? -/
def goodTr (p : List UInt8 × List UInt8) : Bool := decide (nameC p.1 = 0) && decide (valueC p.2 = 0) && decide (trimB p.2 = p.2) && !forbB (lowS p.1)
/-- A trailer line without its end. -/
def trLine (p : List UInt8 × List UInt8) : List UInt8 := lowS p.1 ++ 58 :: 32 :: p.2
def linesT (ts : List (List UInt8 × List UInt8)) : List UInt8 := ts.flatMap fun p => trLine p ++ [13, 10]
def lastL (ts : List (List UInt8 × List UInt8)) : List UInt8 := 48 :: 13 :: 10 :: (linesT ts ++ [13, 10])
theorem linesT_cons (p : List UInt8 × List UInt8) (ts : List (List UInt8 × List UInt8)) : linesT (p :: ts) = trLine p ++ [13, 10] ++ linesT ts := rfl
structure GoodTr (p : List UInt8 × List UInt8) : Prop where
  nm : nmO p.1 = some (lowS p.1)
  nm2 : nmO (lowS p.1) = some (lowS p.1)
  vl : vlO p.2 = some p.2
  fb : forbB (lowS p.1) = false
theorem nmO_zero {n y : List UInt8} (h : nmO n = some y) : nameC n = 0 ∧ y = lowS n := by
  unfold nmO at h
  by_cases h0 : nameC n = 0
  · rw [if_pos h0] at h; exact ⟨h0, (Option.some.inj h).symm⟩
  · rw [if_neg h0] at h; cases h
theorem vlO_zero {n y : List UInt8} (h : vlO n = some y) : valueC n = 0 ∧ y = trimB n := by
  unfold vlO at h
  by_cases h0 : valueC n = 0
  · rw [if_pos h0] at h; exact ⟨h0, (Option.some.inj h).symm⟩
  · rw [if_neg h0] at h; cases h
theorem goodTr_of {p : List UInt8 × List UInt8} (h : goodTr p = true) : GoodTr p := by
  unfold goodTr at h
  simp only [Bool.and_eq_true, decide_eq_true_eq, Bool.not_eq_true'] at h
  obtain ⟨⟨⟨h1, h2⟩, h3⟩, h4⟩ := h
  have hn : nmO p.1 = some (lowS p.1) := by unfold nmO; rw [if_pos h1]
  refine ⟨hn, flk.nm_id hn, ?_, h4⟩
  unfold vlO; rw [if_pos h2, h3]
theorem trLine_clean {p : List UInt8 × List UInt8} (h : GoodTr p) : Clean (trLine p) := by
  intro c hc
  unfold trLine at hc
  rw [List.mem_append] at hc
  rcases hc with hc | hc
  · have := (flk.nm_ok h.nm2).2 c hc
    exact ⟨this.1, this.2.1, this.2.2.1⟩
  · rcases List.mem_cons.1 hc with rfl | hc
    · decide
    · rcases List.mem_cons.1 hc with rfl | hc
      · decide
      · exact flk.vl_ok h.vl c hc
theorem trLine_cut {p : List UInt8 × List UInt8} (h : GoodTr p) : cutC 58 (trLine p) = (lowS p.1, 32 :: p.2, true) := by
  unfold trLine
  exact cutC_at (fun hc => ((flk.nm_ok h.nm2).2 58 hc).2.2.2.1 rfl) _
theorem trLine_read {p : List UInt8 × List UInt8} (h : GoodTr p) : trB (lowS p.1) (32 :: p.2) = true ∧ nameR (lowS p.1) = lowS p.1 ∧ valueR (32 :: p.2) = p.2 := by
  obtain ⟨n1, n2⟩ := nmO_zero h.nm2
  obtain ⟨v1, v2⟩ := vlO_zero (flk.vl_sp h.vl)
  have hr : nameR (lowS p.1) = lowS p.1 := by unfold nameR; rw [if_pos n1]; exact n2.symm
  refine ⟨?_, hr, ?_⟩
  · unfold trB; rw [hr, h.fb, decide_eq_true n1, decide_eq_true v1]; rfl
  · unfold valueR; rw [if_pos v1]; exact v2.symm
theorem natK {c d : UInt8} (h : c.toNat = d.toNat) : c = d := UInt8.toNat_inj.1 h
/-- Bytes of a trailer line. -/
theorem wrD_clean : ∀ (x : List UInt8) {s : Dc}, s.er = 0 → s.pl = 6 → Clean x → s.len + x.length ≤ 8192 → wrD s x = ({ s with len := s.len + x.length, line := s.line ++ x }, [], x.length) := by
  intro x
  induction x with
  | nil => intro s _ _ _ _; cases s; simp [wrD]
  | cons c t ih =>
    intro s he hp hc hl
    rw [clean_cons] at hc
    obtain ⟨⟨c0, c13, c10⟩, hct⟩ := hc
    have n0 : c.toNat ≠ 0 := fun e => c0 (natK (by exact e))
    have n13 : c.toNat ≠ 13 := fun e => c13 (natK (by exact e))
    have n10 : c.toNat ≠ 10 := fun e => c10 (natK (by exact e))
    have hs : stepS s c = (0, { s with len := s.len + 1, line := s.line ++ [c] }) := by
      unfold stepS
      rw [if_neg (by omega), if_neg (by omega), if_neg (by omega), if_neg (by omega), if_neg (by omega)]
      unfold trlS
      simp only [List.length_cons] at hl
      rw [if_neg (by
        rintro (h | h | h)
        · omega
        · exact n0 h
        · rw [decide_eq_false n10, decide_eq_false (by omega)] at h; cases h), if_neg n10, if_neg n13]
    have := ih (s := { s with len := s.len + 1, line := s.line ++ [c] }) he hp hct (by simp only [List.length_cons] at hl; simp only; omega)
    rw [wrD_step he (by omega) (by omega) (by rw [hs]), hs]
    simp only
    rw [this]
    simp; omega
theorem step_cr {s : Dc} (hp : s.pl = 6) (hl : s.len < 8192) : stepS s 13 = (0, { s with len := s.len + 1, pl := 7 }) := by
  unfold stepS
  rw [if_neg (by omega), if_neg (by omega), if_neg (by omega), if_neg (by omega), if_neg (by omega)]
  unfold trlS
  rw [if_neg (by
    rintro (h | h | h)
    · omega
    · cases h
    · rw [decide_eq_false (by omega : ¬ s.pl = 7)] at h; cases h), if_neg (by decide), if_pos (by decide)]
theorem step_lf {s : Dc} (hp : s.pl = 7) (hl : s.len < 8192) : stepS s 10 = lineS { s with len := s.len + 1 } := by
  unfold stepS
  rw [if_neg (by omega), if_neg (by omega), if_neg (by omega), if_neg (by omega), if_neg (by omega)]
  unfold trlS
  rw [if_neg (by
    rintro (h | h | h)
    · omega
    · cases h
    · rw [decide_eq_true hp] at h; cases h), if_pos (by decide)]
/-- A trailer line with its end. -/
theorem wrD_line {p : List UInt8 × List UInt8} (h : GoodTr p) {s : Dc} (he : s.er = 0) (hp : s.pl = 6) (hn : s.line = []) (ht : s.trs.length < 64) (hl : s.len + (trLine p).length + 2 ≤ 8192) :
    wrD s (trLine p ++ [13, 10]) = ({ s with len := s.len + (trLine p).length + 2, trs := s.trs ++ [(lowS p.1, p.2)] }, [], (trLine p).length + 2) := by
  rw [wrD_app, wrD_clean (trLine p) he hp (trLine_clean h) (by omega)]
  simp only
  have s1 := step_cr (s := { s with len := s.len + (trLine p).length, line := s.line ++ trLine p }) hp (by simp only; omega)
  have s2 := step_lf (s := { s with len := s.len + (trLine p).length + 1, line := s.line ++ trLine p, pl := 7 }) rfl (by simp only; omega)
  have hne : trLine p ≠ [] := by unfold trLine; simp
  obtain ⟨t1, t2, t3⟩ := trLine_read h
  have s3 : lineS { s with len := s.len + (trLine p).length + 1 + 1, line := s.line ++ trLine p, pl := 7 } = (0, { s with len := s.len + (trLine p).length + 1 + 1, trs := s.trs ++ [(lowS p.1, p.2)], line := [], pl := 6 }) := by
    unfold lineS
    simp only [hn, List.nil_append]
    rw [if_neg hne, trLine_cut h]
    simp only
    rw [if_neg (by rintro (h | h); cases h; omega), if_neg (by rw [t1]; decide), t2, t3]
  simp only at s1 s2
  rw [s3] at s2
  rw [wrD_step (s := { s with len := s.len + (trLine p).length, line := s.line ++ trLine p }) he (by simp only; omega) (by simp only; omega) (by rw [s1]), s1]
  simp only
  rw [wrD_step (s := { s with len := s.len + (trLine p).length + 1, line := s.line ++ trLine p, pl := 7 }) he (by simp) (by simp) (by rw [s2]), s2]
  cases s
  simp only at hp hn
  subst hp hn
  simp [wrD]
def lowP (p : List UInt8 × List UInt8) : List UInt8 × List UInt8 := (lowS p.1, p.2)
theorem wrD_lines : ∀ (ts : List (List UInt8 × List UInt8)) {s : Dc}, (∀ p ∈ ts, GoodTr p) → s.er = 0 → s.pl = 6 → s.line = [] → s.trs.length + ts.length ≤ 64 → s.len + (linesT ts).length ≤ 8192 →
    wrD s (linesT ts) = ({ s with len := s.len + (linesT ts).length, trs := s.trs ++ ts.map lowP }, [], (linesT ts).length) := by
  intro ts
  induction ts with
  | nil => intro s _ _ _ _ _ _; cases s; simp [linesT, wrD]
  | cons p r ih =>
    intro s hg he hp hn ht hl
    rw [linesT_cons] at hl ⊢
    simp only [List.length_append, List.length_cons, List.length_nil] at hl ht
    rw [wrD_app, wrD_line (hg p (by simp)) he hp hn (by omega) (by omega)]
    simp only
    rw [ih (s := { s with len := s.len + (trLine p).length + 2, trs := s.trs ++ [(lowS p.1, p.2)] }) (fun q hq => hg q (by simp [hq])) he hp hn (by simp; omega) (by simp only; omega)]
    simp [lowP]; omega
/-- The last chunk, the trailers and the end: a decoder at the beginning of a chunk comes to its end. -/
theorem wrD_last {s : Dc} (h : AtSize s) (hln : s.line = []) (htr : s.trs = []) (h0 : s.tot ≤ 65536) {ts : List (List UInt8 × List UInt8)} (hg : ∀ p ∈ ts, GoodTr p) (ht : ts.length ≤ 64) (hl : (linesT ts).length + 2 ≤ 8192) :
    (wrD s (lastL ts)).1.er = 0 ∧ (wrD s (lastL ts)).1.pl = 8 ∧ (wrD s (lastL ts)).1.trs = ts.map lowP ∧ (wrD s (lastL ts)).2 = ([], (lastL ts).length) := by
  have e0 : lastL ts = [48, 13, 10] ++ (linesT ts ++ [13, 10]) := rfl
  have s1 : stepS s 48 = (0, { s with sz := 0, len := 1 }) := by
    unfold stepS; rw [if_pos h.pl]; unfold sizeS
    rw [show hexV 48 = some 0 by decide]
    simp only
    unfold digS
    rw [h.len, h.sz, if_neg (by decide), if_neg (by omega)]
  have s2 : stepS { s with sz := 0, len := 1 } 13 = (0, { s with sz := 0, len := 1, pl := 2 }) := by
    unfold stepS; rw [if_pos h.pl]; unfold sizeS
    rw [show hexV 13 = none by decide]
    simp only
    rw [if_neg (by decide), if_neg (by decide)]; rfl
  have s3 : stepS { s with sz := 0, len := 1, pl := 2 } 10 = (0, { s with sz := 0, len := 0, pl := 6 }) := by
    unfold stepS
    rw [if_neg (by simp), if_neg (by simp), if_pos rfl]
    unfold endS
    simp only
    rw [if_pos trivial]; rfl
  have w0 : wrD s [48, 13, 10] = ({ s with sz := 0, len := 0, pl := 6 }, [], 3) := by
    rw [wrD_step h.er (by rw [h.pl]; decide) (by rw [h.pl]; decide) (by rw [s1]), s1]
    simp only
    rw [wrD_step (s := { s with sz := 0, len := 1 }) h.er (by simp only; rw [h.pl]; decide) (by simp only; rw [h.pl]; decide) (by rw [s2]), s2]
    simp only
    rw [wrD_step (s := { s with sz := 0, len := 1, pl := 2 }) h.er (by simp) (by simp) (by rw [s3]), s3]
    simp [wrD]
  have w1 := wrD_lines ts (s := { s with sz := 0, len := 0, pl := 6 }) hg h.er rfl hln (by simp only [htr]; simp; omega) (by simp only; omega)
  have s4 := step_cr (s := { s with sz := 0, len := 0 + (linesT ts).length, pl := 6, trs := s.trs ++ ts.map lowP }) rfl (by simp only; omega)
  have s5 := step_lf (s := { s with sz := 0, len := 0 + (linesT ts).length + 1, pl := 7, trs := s.trs ++ ts.map lowP }) rfl (by simp only; omega)
  have s6 : lineS { s with sz := 0, len := 0 + (linesT ts).length + 1 + 1, pl := 7, trs := s.trs ++ ts.map lowP } = (0, { s with sz := 0, len := 0 + (linesT ts).length + 1 + 1, pl := 8, trs := s.trs ++ ts.map lowP }) := by
    unfold lineS; simp only [hln]; rw [if_pos trivial]
  simp only at s4 s5
  rw [s6] at s5
  have w2 : wrD { s with sz := 0, len := 0 + (linesT ts).length, pl := 6, trs := s.trs ++ ts.map lowP } [13, 10] = ({ s with sz := 0, len := 0 + (linesT ts).length + 1 + 1, pl := 8, trs := s.trs ++ ts.map lowP }, [], 2) := by
    rw [wrD_step (s := { s with sz := 0, len := 0 + (linesT ts).length, pl := 6, trs := s.trs ++ ts.map lowP }) h.er (by simp) (by simp) (by rw [s4]), s4]
    simp only
    rw [wrD_step (s := { s with sz := 0, len := 0 + (linesT ts).length + 1, pl := 7, trs := s.trs ++ ts.map lowP }) h.er (by simp) (by simp) (by rw [s5]), s5]
    simp [wrD]
  rw [e0, wrD_app, w0]
  simp only
  rw [wrD_app, w1]
  simp only
  rw [w2, htr]
  refine ⟨h.er, rfl, by simp, by simp; omega⟩
end Go.Proofs.YthlfhbhjiofneaaDoor

/- Whole bodies as they are written, and read again, also in part; spoilt chunks: the plain part. -/
namespace Go.Proofs.YthlfhbhjiofneaaDoor

def chunksL (ls : List (List UInt8)) : List UInt8 := (ls.map chunkL).flatten
theorem chunksL_cons (l : List UInt8) (ls : List (List UInt8)) : chunksL (l :: ls) = chunkL l ++ chunksL ls := rfl
theorem wrD_chunks : ∀ (ls : List (List UInt8)) {s : Dc}, AtSize s → s.tot + ls.flatten.length ≤ 65536 → wrD s (chunksL ls) = ({ s with tot := s.tot + ls.flatten.length }, ls.flatten, (chunksL ls).length) ∧ AtSize { s with tot := s.tot + ls.flatten.length } := by
  intro ls
  induction ls with
  | nil => intro s h _; exact ⟨by cases s; simp [chunksL, wrD], ⟨h.pl, h.er, h.len, h.sz⟩⟩
  | cons l r ih =>
    intro s h ht
    rw [List.flatten_cons, List.length_append] at ht
    obtain ⟨h1, h2⟩ := wrD_chunk h (b := l) (by omega) (by omega)
    obtain ⟨h3, _⟩ := ih h2 (by simp only; omega)
    refine ⟨?_, ⟨h.pl, h.er, h.len, h.sz⟩⟩
    rw [chunksL_cons, wrD_app, h1]
    simp only at h3 ⊢
    rw [h3]
    simp; omega
/-- A body as Encode writes it. -/
def encL (ls : List (List UInt8)) (ts : List (List UInt8 × List UInt8)) : List UInt8 := chunksL ls ++ lastL ts
theorem atSize_new : AtSize Dc.new := ⟨rfl, rfl, rfl, rfl⟩
theorem wrD_enc {ls : List (List UInt8)} {ts : List (List UInt8 × List UInt8)} (hs : ls.flatten.length ≤ 65536) (hg : ∀ p ∈ ts, GoodTr p) (ht : ts.length ≤ 64) (hl : (linesT ts).length + 2 ≤ 8192) :
    (wrD Dc.new (encL ls ts)).1.er = 0 ∧ (wrD Dc.new (encL ls ts)).1.pl = 8 ∧ (wrD Dc.new (encL ls ts)).1.trs = ts.map lowP ∧ (wrD Dc.new (encL ls ts)).2 = (ls.flatten, (encL ls ts).length) := by
  obtain ⟨h1, h2⟩ := wrD_chunks ls atSize_new (show 0 + ls.flatten.length ≤ 65536 by omega)
  obtain ⟨l1, l2, l3, l4⟩ := wrD_last h2 rfl rfl (show 0 + ls.flatten.length ≤ 65536 by omega) hg ht hl
  unfold encL
  rw [wrD_app, h1]
  simp only
  refine ⟨l1, l2, l3, ?_⟩
  rw [l4]; simp
/-- No proper prefix of what is taken whole is faulty or the end. -/
theorem wrD_before {s : Dc} {l : List UInt8} (he : (wrD s l).1.er = 0) (hn : (wrD s l).2.2 = l.length) {i : Nat} (hi : i < l.length) :
    (wrD s (l.take i)).1.er = 0 ∧ (wrD s (l.take i)).1.pl ≠ 8 ∧ (wrD s (l.take i)).2.2 = i := by
  have h := wrD_app (l.take i) s (l.drop i)
  rw [List.take_append_drop] at h
  have hle := (wrD_len (l.take i) s).1
  rw [List.length_take] at hle
  have e1 : (wrD s (l.take i)).1.er = 0 := by
    by_cases e : (wrD s (l.take i)).1.er = 0
    · exact e
    · rw [wrD_stop (.inl e)] at h; rw [h] at he; exact absurd he e
  have e2 : (wrD s (l.take i)).1.pl ≠ 8 := by
    intro e
    rw [wrD_stop (.inr e)] at h
    rw [h] at hn
    simp only at hn
    omega
  refine ⟨e1, e2, ?_⟩
  have := wrD_full e1 e2
  rw [this, List.length_take]; omega
theorem wrD_over {s : Dc} {l : List UInt8} (h8 : (wrD s l).1.pl = 8) (r : List UInt8) : wrD s (l ++ r) = wrD s l := by
  rw [wrD_app, wrD_stop (.inr h8)]; simp
/-- A part that makes a decoder faulty. -/
theorem wrD_err {s : Dc} {a : List UInt8} {t : Dc} {d : List UInt8} (h : wrD s a = (t, d, a.length)) (he : t.er = 0) (h8 : t.pl ≠ 8) (h3 : t.pl ≠ 3) {c : UInt8} {u : Dc} {n : Nat} (hs : stepS t c = (n, u)) (hn : n ≠ 0) (r : List UInt8) :
    wrD s (a ++ c :: r) = ({ u with er := n }, d, a.length) := by
  rw [wrD_app, h]
  simp only
  rw [wrD_bad he h8 h3 (by rw [hs]; exact hn), hs]
  simp
/-- A decoder behind the data of a chunk. -/
theorem wrD_data2 {s : Dc} (h : AtSize s) {b : List UInt8} (hb : b ≠ []) (hk : b.length < 16 ^ 8) (ht : s.tot + b.length ≤ 65536) :
    wrD s (hexT b.length ++ 13 :: 10 :: b) = ({ s with sz := 0, len := 0, pl := 4, tot := s.tot + b.length }, b, (hexT b.length ++ 13 :: 10 :: b).length) := by
  have hpos : 0 < b.length := List.length_pos_iff.2 hb
  rw [show hexT b.length ++ 13 :: 10 :: b = (hexT b.length ++ [13, 10]) ++ b by simp, wrD_app, wrD_sizeEnd h hpos hk ht]
  simp only
  rw [wrD_data (n := b.length) (s := { s with sz := b.length, len := 0, pl := 3 }) h.er rfl hpos (Nat.le_refl _) (Nat.le_refl _)]
  rw [List.drop_length, List.take_length]
  have d1 : dataS { s with sz := b.length, len := 0, pl := 3 } b.length = { s with sz := 0, len := 0, pl := 4, tot := s.tot + b.length } := by
    unfold dataS; simp
  rw [d1]
  simp [wrD]; omega
theorem step_cr4 {s : Dc} (h : s.pl = 4) {c : UInt8} : stepS s c = expS s c 13 5 := by
  unfold stepS; rw [if_neg (by omega), if_neg (by omega), if_neg (by omega), if_pos h]
theorem step_lf5 {s : Dc} (h : s.pl = 5) {c : UInt8} : stepS s c = expS s c 10 0 := by
  unfold stepS; rw [if_neg (by omega), if_neg (by omega), if_neg (by omega), if_neg (by omega), if_pos h]
/-- A byte other than a digit, ';' or CR behind the digits of a size. -/
theorem wrD_badSize {s : Dc} (h : AtSize s) {n : Nat} (hk : n < 16 ^ 8) (ht : s.tot + n ≤ 65536) {c : UInt8} (hc : hexV c = none) (h59 : c.toNat ≠ 59) (h13 : c.toNat ≠ 13) (r : List UInt8) :
    (wrD s (hexT n ++ c :: r)).1.er = 33 ∧ (wrD s (hexT n ++ c :: r)).1.pl ≠ 8 ∧ (wrD s (hexT n ++ c :: r)).2 = ([], (hexT n).length) := by
  have hl := hexT_len 7 n hk
  have hs : stepS { s with sz := n, len := (hexT n).length } c = (33, { s with sz := n, len := (hexT n).length }) := by
    unfold stepS; rw [if_pos h.pl]; unfold sizeS; rw [hc]
    simp only
    rw [if_neg (by omega), if_neg h59]
    unfold expS; rw [if_neg h13]
  rw [wrD_err (wrD_hex 7 n h hk (by decide) ht) h.er (by simp only; rw [h.pl]; decide) (by simp only; rw [h.pl]; decide) hs (by decide) r]
  exact ⟨rfl, by simp only; rw [h.pl]; decide, rfl⟩
end Go.Proofs.YthlfhbhjiofneaaDoor
