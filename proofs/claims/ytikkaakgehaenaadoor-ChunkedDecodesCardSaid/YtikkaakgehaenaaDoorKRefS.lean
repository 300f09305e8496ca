/- The reference's machine of chunked bodies, plain, and what it has to do with the program's. -/
import Derived.Test.YtikkaakgehaenaaDoorKSpec
namespace Go.Proofs.YtikkaakgehaenaaDoor

/-- A state of the reference. -/
structure Rs where
  p : Nat
  d : Nat
  n : Nat
  ln : Nat
  tt : Nat
  lf : Nat
  se : Nat
  tx : List UInt8
  fs : List (List UInt8 × List UInt8)
  bad : Nat
def Rs.new : Rs := ⟨0, 0, 0, 0, 0, 0, 0, [], [], 0⟩
def badR (r : Rs) (e : Nat) : Rs := { r with bad := e }
def sizedR (r : Rs) (c : UInt8) : Rs :=
  if c.toNat = 13 ∧ 0 < r.d then { r with p := 2 }
  else if r.ln = 256 then badR r 33
  else if r.p = 1 then (if ctlB c = true then badR r 33 else { r with ln := r.ln + 1 })
  else if c.toNat = 59 ∧ 0 < r.d then { r with p := 1, ln := r.ln + 1 }
  else match hexV c with
    | none => badR r 33
    | some v => if r.d = 8 then badR r 33
      else if 65536 < r.tt + (16 * r.n + v) then { r with d := r.d + 1, n := 16 * r.n + v, bad := 5 }
      else { r with d := r.d + 1, n := 16 * r.n + v, ln := r.ln + 1 }
def endedR (r : Rs) (c : UInt8) : Rs :=
  if r.se = 8192 ∨ c.toNat = 0 ∨ ((decide (c.toNat = 10)) != decide (r.p = 7)) = true then badR r 34
  else if c.toNat = 13 then { r with p := 7, se := r.se + 1 }
  else if c.toNat ≠ 10 then { r with tx := r.tx ++ [c], se := r.se + 1 }
  else if r.tx = [] then { r with p := 8, se := r.se + 1 }
  else if ((cutC 58 r.tx).2.2 = false ∨ trB (cutC 58 r.tx).1 (cutC 58 r.tx).2.1 = false) ∨ r.fs.length = 64 then badR r 34
  else { r with fs := r.fs ++ [(nameR (cutC 58 r.tx).1, valueR (cutC 58 r.tx).2.1)], p := 6, tx := [], se := r.se + 1 }
def stepR (r : Rs) (c : UInt8) : Rs :=
  if r.p = 0 ∨ r.p = 1 then sizedR r c
  else if r.p = 2 then (if c.toNat ≠ 10 then badR r 33 else { r with p := if r.n = 0 then 6 else 3, lf := r.n })
  else if r.p = 3 then { r with lf := r.lf - 1, tt := r.tt + 1, p := if r.lf - 1 = 0 then 4 else 3 }
  else if r.p = 4 then (if c.toNat ≠ 13 then badR r 33 else { r with p := 5 })
  else if r.p = 5 then (if c.toNat ≠ 10 then badR r 33 else { r with p := 0, d := 0, n := 0, ln := 0 })
  else endedR r c
/-- What the two machines' states have to do with one another while there is no error. -/
structure RelR (s : Dc) (r : Rs) : Prop where
  a0 : s.pl = 0 → r.d = s.len ∧ r.ln = s.len ∧ r.n = s.sz ∧ r.tt = s.tot
  a1 : s.pl = 1 → 0 < r.d ∧ r.ln = s.len ∧ r.n = s.sz ∧ r.tt = s.tot
  a2 : s.pl = 2 → r.n = s.sz ∧ r.tt = s.tot
  a3 : s.pl = 3 → r.lf = s.sz ∧ r.tt = s.tot
  a4 : s.pl = 4 ∨ s.pl = 5 → r.tt = s.tot ∧ s.sz = 0
  a5 : s.pl ≤ 5 → r.se = 0 ∧ r.tx = []
  a6 : s.pl = 6 ∨ s.pl = 7 → r.se = s.len ∧ r.tx = s.line
structure RelS (s : Dc) (r : Rs) : Prop where
  hp : r.p = s.pl
  hb : r.bad = s.er
  hf : r.fs = s.trs
  hr : s.er = 0 → RelR s r
/-- The reference's numbers are small, so that nothing wraps. -/
structure RsOk (r : Rs) : Prop where
  p : r.p ≤ 8
  d : r.d ≤ 8
  n : r.n ≤ 1048576 + 16
  ln : r.ln ≤ 256
  tt : r.tt ≤ 65536
  lf : r.lf ≤ 1048576 + 16
  l3 : r.p = 3 → 0 < r.lf ∧ r.tt + r.lf ≤ 65536
  n0 : r.p = 0 → r.tt + r.n ≤ 65536
  n1 : r.p = 1 → r.tt + r.n ≤ 65536
  n2 : r.p = 2 → r.tt + r.n ≤ 65536
  se : r.se ≤ 8192
  tx : r.tx.length ≤ r.se
  fs : r.fs.length ≤ 64
theorem rel_new : RelS Dc.new Rs.new := by
  refine ⟨rfl, rfl, rfl, fun _ => ?_⟩
  constructor <;> simp [Dc.new, Rs.new]
theorem rsok_new : RsOk Rs.new := by constructor <;> simp [Rs.new]
/-- The error of a step. -/
def afterS (s : Dc) (c : UInt8) : Dc := if s.pl = 3 then dataS s 1 else if (stepS s c).1 = 0 then (stepS s c).2 else { (stepS s c).2 with er := (stepS s c).1 }
theorem after_er {s : Dc} {c : UInt8} (h3 : s.pl ≠ 3) {t : Dc} {e : Nat} (h : stepS s c = (e, t)) (he : e ≠ 0) : afterS s c = { t with er := e } := by
  unfold afterS; rw [if_neg h3, h, if_neg he]
theorem after_ok {s : Dc} {c : UInt8} (h3 : s.pl ≠ 3) {t : Dc} (h : stepS s c = (0, t)) : afterS s c = t := by
  unfold afterS; rw [if_neg h3, h, if_pos rfl]
theorem rel_bad {s : Dc} {r : Rs} (h : RelS s r) {t : Dc} {q : Rs} {e : Nat} (he : e ≠ 0) (h1 : t.pl = s.pl) (h2 : t.trs = s.trs) (q1 : q.p = r.p) (q2 : q.fs = r.fs) (q3 : q.bad = e) : RelS { t with er := e } q :=
  ⟨q1.trans (h.hp.trans h1.symm), q3, q2.trans (h.hf.trans h2.symm), fun e0 => absurd e0 he⟩
theorem hex_not {c : UInt8} {v : Nat} (h : hexV c = some v) : c.toNat ≠ 13 ∧ c.toNat ≠ 59 := by
  unfold hexV at h
  constructor <;> intro e <;> rw [e] at h <;> simp at h
theorem rel_step {s : Dc} {r : Rs} (h : RelS s r) (hok : s.Ok) (he : s.er = 0) (h8 : s.pl ≠ 8) (c : UInt8) : RelS (afterS s c) (stepR r c) := by
  have hR := h.hr he
  have hp := h.hp
  have hf := h.hf
  have hbd : r.bad = 0 := h.hb.trans he
  have h11 := hok.b11
  rcases (show s.pl = 0 ∨ s.pl = 1 ∨ s.pl = 2 ∨ s.pl = 3 ∨ s.pl = 4 ∨ s.pl = 5 ∨ s.pl = 6 ∨ s.pl = 7 by omega) with p | p | p | p | p | p | p | p
  · obtain ⟨d1, d2, d3, d4⟩ := hR.a0 p
    have d5 := hR.a5 (by omega)
    have hl := hok.b2 p
    have e1 : stepS s c = sizeS s c := by unfold stepS; rw [if_pos p]
    have e2 : stepR r c = sizedR r c := by unfold stepR; rw [if_pos (.inl (by omega))]
    rw [e2]
    unfold sizedR
    unfold sizeS at e1
    cases hv : hexV c with
    | some v =>
      obtain ⟨n1, n2⟩ := hex_not hv
      rw [hv] at e1
      simp only at e1
      unfold digS at e1
      rw [if_neg (fun e => n1 e.1), if_neg (by omega), if_neg (by omega), if_neg (fun e => n2 e.1)]
      simp only
      by_cases q1 : s.len = 8
      · rw [if_pos q1] at e1
        rw [if_pos (by omega), after_er (by omega) e1 (by decide)]
        exact rel_bad h (by decide) rfl rfl rfl rfl rfl
      · rw [if_neg q1] at e1
        rw [if_neg (by omega)]
        by_cases q2 : 65536 < s.tot + (s.sz * 16 + v)
        · rw [if_pos q2] at e1
          rw [if_pos (by omega), after_er (by omega) e1 (by decide)]
          exact rel_bad h (by decide) rfl rfl rfl rfl rfl
        · rw [if_neg q2] at e1
          rw [if_neg (by omega), after_ok (by omega) e1]
          refine ⟨by simp only; omega, by simp only; omega, hf, fun _ => ⟨fun _ => ⟨by simp only; omega, by simp only; omega, by simp only; omega, d4⟩, fun q => by simp only at q; omega, fun q => by simp only at q; omega, fun q => by simp only at q; omega, fun q => by simp only at q; omega, fun _ => d5, fun q => by simp only at q; omega⟩⟩
    | none =>
      rw [hv] at e1
      simp only at e1
      by_cases q1 : s.len = 0
      · rw [if_pos q1] at e1
        rw [if_neg (fun e => by omega), if_neg (by omega), if_neg (by omega), if_neg (fun e => by omega)]
        simp only
        rw [after_er (by omega) e1 (by decide)]
        exact rel_bad h (by decide) rfl rfl rfl rfl rfl
      · rw [if_neg q1] at e1
        by_cases q2 : c.toNat = 59
        · rw [if_pos q2] at e1
          rw [if_neg (fun e => by omega), if_neg (by omega), if_neg (by omega), if_pos ⟨q2, by omega⟩, after_ok (by omega) e1]
          exact ⟨rfl, by simp only; omega, hf, fun _ => ⟨fun q => (by cases q), fun _ => ⟨by simp only; omega, by simp only; omega, d3, d4⟩, fun q => (by cases q), fun q => (by cases q), fun q => (by rcases q with q | q <;> cases q), fun _ => d5, fun q => (by rcases q with q | q <;> cases q)⟩⟩
        · rw [if_neg q2] at e1
          unfold expS at e1
          by_cases q3 : c.toNat = 13
          · rw [if_pos q3] at e1
            rw [if_pos ⟨q3, by omega⟩, after_ok (by omega) e1]
            exact ⟨rfl, by simp only; omega, hf, fun _ => ⟨fun q => (by cases q), fun q => (by cases q), fun _ => ⟨d3, d4⟩, fun q => (by cases q), fun q => (by rcases q with q | q <;> cases q), fun _ => d5, fun q => (by rcases q with q | q <;> cases q)⟩⟩
          · rw [if_neg q3] at e1
            rw [if_neg (fun e => q3 e.1), if_neg (by omega), if_neg (by omega), if_neg (fun e => q2 e.1)]
            simp only
            rw [after_er (by omega) e1 (by decide)]
            exact rel_bad h (by decide) rfl rfl rfl rfl rfl
  · obtain ⟨d1, d2, d3, d4⟩ := hR.a1 p
    have d5 := hR.a5 (by omega)
    have e1 : stepS s c = extS s c := by unfold stepS; rw [if_neg (by omega), if_pos p]
    have e2 : stepR r c = sizedR r c := by unfold stepR; rw [if_pos (.inr (by omega))]
    rw [e2]
    unfold sizedR
    unfold extS at e1
    by_cases q3 : c.toNat = 13
    · rw [if_pos q3] at e1
      rw [if_pos ⟨q3, d1⟩, after_ok (by omega) e1]
      exact ⟨rfl, by simp only; omega, hf, fun _ => ⟨fun q => (by cases q), fun q => (by cases q), fun _ => ⟨d3, d4⟩, fun q => (by cases q), fun q => (by rcases q with q | q <;> cases q), fun _ => d5, fun q => (by rcases q with q | q <;> cases q)⟩⟩
    · rw [if_neg q3] at e1
      rw [if_neg (fun e => q3 e.1)]
      by_cases q4 : s.len = 256
      · rw [if_pos (.inr q4)] at e1
        rw [if_pos (by omega), after_er (by omega) e1 (by decide)]
        exact rel_bad h (by decide) rfl rfl rfl rfl rfl
      · rw [if_neg (by omega), if_pos (by omega)]
        cases q5 : ctlB c with
        | true =>
          rw [if_pos (.inl q5)] at e1
          rw [if_pos rfl, after_er (by omega) e1 (by decide)]
          exact rel_bad h (by decide) rfl rfl rfl rfl rfl
        | false =>
          rw [if_neg (by simp [q5, q4])] at e1
          rw [if_neg (by simp), after_ok (by omega) e1]
          exact ⟨hp, by simp only; omega, hf, fun _ => ⟨fun q => by simp only at q; omega, fun _ => ⟨d1, by simp only; omega, d3, d4⟩, fun q => by simp only at q; omega, fun q => by simp only at q; omega, fun q => by simp only at q; omega, fun _ => d5, fun q => by simp only at q; omega⟩⟩
  · obtain ⟨d3, d4⟩ := hR.a2 p
    have d5 := hR.a5 (by omega)
    have hb6 := hok.b6 (by omega)
    have e1 : stepS s c = endS s c := by unfold stepS; rw [if_neg (by omega), if_neg (by omega), if_pos p]
    have e2 : stepR r c = if c.toNat ≠ 10 then badR r 33 else { r with p := if r.n = 0 then 6 else 3, lf := r.n } := by unfold stepR; rw [if_neg (by omega), if_pos (by omega)]
    rw [e2]
    unfold endS expS at e1
    by_cases q1 : c.toNat = 10
    · rw [if_neg (by simp [q1])]
      by_cases q2 : s.sz = 0
      · rw [if_pos q2, if_pos q1] at e1
        rw [if_pos (by omega), after_ok (by omega) e1]
        exact ⟨rfl, by simp only; omega, hf, fun _ => ⟨fun q => (by cases q), fun q => (by cases q), fun q => (by cases q), fun q => (by cases q), fun q => (by rcases q with q | q <;> cases q), fun q => by simp only at q; omega, fun _ => ⟨d5.1, by rw [d5.2]; exact (List.eq_nil_of_length_eq_zero hb6).symm⟩⟩⟩
      · rw [if_neg q2, if_pos q1] at e1
        rw [if_neg (by omega), after_ok (by omega) e1]
        exact ⟨rfl, by simp only; omega, hf, fun _ => ⟨fun q => (by cases q), fun q => (by cases q), fun q => (by cases q), fun _ => ⟨d3, d4⟩, fun q => (by rcases q with q | q <;> cases q), fun _ => d5, fun q => (by rcases q with q | q <;> cases q)⟩⟩
    · rw [if_pos q1]
      rw [if_neg q1, if_neg q1, ite_self] at e1
      rw [after_er (by omega) e1 (by decide)]
      exact rel_bad h (by decide) rfl rfl rfl rfl rfl
  · obtain ⟨d3, d4⟩ := hR.a3 p
    have d5 := hR.a5 (by omega)
    have e2 : stepR r c = { r with lf := r.lf - 1, tt := r.tt + 1, p := if r.lf - 1 = 0 then 4 else 3 } := by unfold stepR; rw [if_neg (by omega), if_neg (by omega), if_pos (by omega)]
    have e1 : afterS s c = dataS s 1 := by unfold afterS; rw [if_pos p]
    rw [e2, e1]
    unfold dataS
    have hz : (r.lf - 1 = 0) = (s.sz - 1 = 0) := by rw [d3]
    refine ⟨by simp only [hz], by simp only; omega, hf, fun _ => ?_⟩
    by_cases q : s.sz - 1 = 0
    · refine ⟨?_, ?_, ?_, ?_, fun _ => ⟨by simp only; omega, q⟩, fun _ => d5, ?_⟩ <;> simp [q]
    · refine ⟨?_, ?_, ?_, fun _ => ⟨by simp only; omega, by simp only; omega⟩, ?_, fun _ => d5, ?_⟩ <;> simp [q]
  · obtain ⟨d4, d6⟩ := hR.a4 (.inl p)
    have d5 := hR.a5 (by omega)
    have e1 : stepS s c = expS s c 13 5 := by unfold stepS; rw [if_neg (by omega), if_neg (by omega), if_neg (by omega), if_pos p]
    have e2 : stepR r c = if c.toNat ≠ 13 then badR r 33 else { r with p := 5 } := by unfold stepR; rw [if_neg (by omega), if_neg (by omega), if_neg (by omega), if_pos (by omega)]
    rw [e2]
    unfold expS at e1
    by_cases q1 : c.toNat = 13
    · rw [if_pos q1] at e1
      rw [if_neg (by simp [q1]), after_ok (by omega) e1]
      exact ⟨rfl, by simp only; omega, hf, fun _ => ⟨fun q => (by cases q), fun q => (by cases q), fun q => (by cases q), fun q => (by cases q), fun _ => ⟨d4, d6⟩, fun _ => d5, fun q => (by rcases q with q | q <;> cases q)⟩⟩
    · rw [if_neg q1] at e1
      rw [if_pos q1, after_er (by omega) e1 (by decide)]
      exact rel_bad h (by decide) rfl rfl rfl rfl rfl
  · obtain ⟨d4, d6⟩ := hR.a4 (.inr p)
    have d5 := hR.a5 (by omega)
    have e1 : stepS s c = expS s c 10 0 := by unfold stepS; rw [if_neg (by omega), if_neg (by omega), if_neg (by omega), if_neg (by omega), if_pos p]
    have e2 : stepR r c = if c.toNat ≠ 10 then badR r 33 else { r with p := 0, d := 0, n := 0, ln := 0 } := by unfold stepR; rw [if_neg (by omega), if_neg (by omega), if_neg (by omega), if_neg (by omega), if_pos (by omega)]
    have hb4 := hok.b4 (by omega) (by omega)
    rw [e2]
    unfold expS at e1
    by_cases q1 : c.toNat = 10
    · rw [if_pos q1] at e1
      rw [if_neg (by simp [q1]), after_ok (by omega) e1]
      exact ⟨rfl, by simp only; omega, hf, fun _ => ⟨fun _ => ⟨hb4.symm, hb4.symm, d6.symm, d4⟩, fun q => (by cases q), fun q => (by cases q), fun q => (by cases q), fun q => (by rcases q with q | q <;> cases q), fun _ => d5, fun q => (by rcases q with q | q <;> cases q)⟩⟩
    · rw [if_neg q1] at e1
      rw [if_pos q1, after_er (by omega) e1 (by decide)]
      exact rel_bad h (by decide) rfl rfl rfl rfl rfl
  all_goals
    obtain ⟨d3, d4⟩ := hR.a6 (by omega)
    have e1 : stepS s c = trlS s c := by unfold stepS; rw [if_neg (by omega), if_neg (by omega), if_neg (by omega), if_neg (by omega), if_neg (by omega)]
    have e2 : stepR r c = endedR r c := by unfold stepR; rw [if_neg (by omega), if_neg (by omega), if_neg (by omega), if_neg (by omega), if_neg (by omega)]
    have hw := hok.b7 (by omega)
    rw [e2]
    unfold endedR
    unfold trlS at e1
    have hcond : (r.se = 8192 ∨ c.toNat = 0 ∨ ((decide (c.toNat = 10)) != decide (r.p = 7)) = true) = (s.len = 8192 ∨ c.toNat = 0 ∨ ((decide (c.toNat = 10)) != decide (s.pl = 7)) = true) := by rw [d3, hp]
    by_cases q0 : s.len = 8192 ∨ c.toNat = 0 ∨ ((decide (c.toNat = 10)) != decide (s.pl = 7)) = true
    · rw [if_pos q0] at e1
      rw [if_pos (hcond ▸ q0), after_er (by omega) e1 (by decide)]
      exact rel_bad h (by decide) rfl rfl rfl rfl rfl
    · rw [if_neg q0] at e1
      rw [if_neg (hcond ▸ q0)]
      by_cases q1 : c.toNat = 10
      · rw [if_pos q1] at e1
        rw [if_neg (by omega), if_neg (by simp [q1])]
        unfold lineS at e1
        simp only at e1
        by_cases q2 : s.line = []
        · rw [if_pos q2] at e1
          rw [if_pos (d4.trans q2), after_ok (by omega) e1]
          exact ⟨rfl, by simp only; omega, hf, fun _ => ⟨fun q => (by cases q), fun q => (by cases q), fun q => (by cases q), fun q => (by cases q), fun q => (by rcases q with q | q <;> cases q), fun q => by simp only at q; omega, fun q => (by rcases q with q | q <;> cases q)⟩⟩
        · rw [if_neg q2] at e1
          rw [if_neg (by rw [d4]; exact q2), d4, hf]
          by_cases q3 : (cutC 58 s.line).2.2 = false ∨ s.trs.length = 64
          · rw [if_pos q3] at e1
            rw [if_pos (by rcases q3 with q | q; exact .inl (.inl q); exact .inr q), after_er (by omega) e1 (by decide)]
            exact rel_bad h (by decide) rfl rfl rfl rfl rfl
          · rw [if_neg q3] at e1
            by_cases q4 : trB (cutC 58 s.line).1 (cutC 58 s.line).2.1 = false
            · rw [if_pos q4] at e1
              rw [if_pos (.inl (.inr q4)), after_er (by omega) e1 (by decide)]
              exact rel_bad h (by decide) rfl rfl rfl rfl rfl
            · rw [if_neg q4] at e1
              rw [if_neg (by rintro ((q | q) | q); exact q3 (.inl q); exact q4 q; exact q3 (.inr q)), after_ok (by omega) e1]
              exact ⟨rfl, by simp only; omega, by simp only, fun _ => ⟨fun q => (by cases q), fun q => (by cases q), fun q => (by cases q), fun q => (by cases q), fun q => (by rcases q with q | q <;> cases q), fun q => by simp only at q; omega, fun _ => ⟨by simp only; omega, rfl⟩⟩⟩
      · rw [if_neg q1] at e1
        by_cases q2 : c.toNat = 13
        · rw [if_pos q2] at e1
          rw [if_pos q2, after_ok (by omega) e1]
          exact ⟨rfl, by simp only; omega, hf, fun _ => ⟨fun q => (by cases q), fun q => (by cases q), fun q => (by cases q), fun q => (by cases q), fun q => (by rcases q with q | q <;> cases q), fun q => by simp only at q; omega, fun _ => ⟨by simp only; omega, d4⟩⟩⟩
        · rw [if_neg q2] at e1
          rw [if_neg q2, if_pos q1, after_ok (by omega) e1]
          exact ⟨hp, by simp only; omega, hf, fun _ => ⟨fun q => by simp only at q; omega, fun q => by simp only at q; omega, fun q => by simp only at q; omega, fun q => by simp only at q; omega, fun q => by simp only at q; omega, fun q => by simp only at q; omega, fun _ => ⟨by simp only; omega, by simp only [d4]⟩⟩⟩
end Go.Proofs.YtikkaakgehaenaaDoor
