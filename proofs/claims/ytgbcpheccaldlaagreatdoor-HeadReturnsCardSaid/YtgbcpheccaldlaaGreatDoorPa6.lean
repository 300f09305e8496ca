import Derived.Test.YtgbcpheccaldlaaGreatDoorPa5
import Derived.Test.YtgbcpheccaldlaaGreatDoorPa4
import Derived.Test.YtgbcpheccaldlaaGreatDoorPa0
import Derived.Test.YtgbcpheccaldlaaGreatDoorPa1
/- Responses: reading and writing heads, in lists of bytes; what is written is read again. -/
namespace Go.Proofs.YtgbcpheccaldlaaGreatDoor

/-- The phrases. -/
def phrases : List (Nat × List UInt8) := [
  (100, [67, 111, 110, 116, 105, 110, 117, 101]),
  (101, [83, 119, 105, 116, 99, 104, 105, 110, 103, 32, 80, 114, 111, 116, 111, 99, 111, 108, 115]),
  (200, [79, 75]),
  (201, [67, 114, 101, 97, 116, 101, 100]),
  (202, [65, 99, 99, 101, 112, 116, 101, 100]),
  (203, [78, 111, 110, 45, 65, 117, 116, 104, 111, 114, 105, 116, 97, 116, 105, 118, 101, 32, 73, 110, 102, 111, 114, 109, 97, 116, 105, 111, 110]),
  (204, [78, 111, 32, 67, 111, 110, 116, 101, 110, 116]),
  (206, [80, 97, 114, 116, 105, 97, 108, 32, 67, 111, 110, 116, 101, 110, 116]),
  (300, [77, 117, 108, 116, 105, 112, 108, 101, 32, 67, 104, 111, 105, 99, 101, 115]),
  (301, [77, 111, 118, 101, 100, 32, 80, 101, 114, 109, 97, 110, 101, 110, 116, 108, 121]),
  (302, [70, 111, 117, 110, 100]),
  (303, [83, 101, 101, 32, 79, 116, 104, 101, 114]),
  (304, [78, 111, 116, 32, 77, 111, 100, 105, 102, 105, 101, 100]),
  (307, [84, 101, 109, 112, 111, 114, 97, 114, 121, 32, 82, 101, 100, 105, 114, 101, 99, 116]),
  (308, [80, 101, 114, 109, 97, 110, 101, 110, 116, 32, 82, 101, 100, 105, 114, 101, 99, 116]),
  (400, [66, 97, 100, 32, 82, 101, 113, 117, 101, 115, 116]),
  (401, [85, 110, 97, 117, 116, 104, 111, 114, 105, 122, 101, 100]),
  (403, [70, 111, 114, 98, 105, 100, 100, 101, 110]),
  (404, [78, 111, 116, 32, 70, 111, 117, 110, 100]),
  (405, [77, 101, 116, 104, 111, 100, 32, 78, 111, 116, 32, 65, 108, 108, 111, 119, 101, 100]),
  (408, [82, 101, 113, 117, 101, 115, 116, 32, 84, 105, 109, 101, 111, 117, 116]),
  (410, [71, 111, 110, 101]),
  (411, [76, 101, 110, 103, 116, 104, 32, 82, 101, 113, 117, 105, 114, 101, 100]),
  (412, [80, 114, 101, 99, 111, 110, 100, 105, 116, 105, 111, 110, 32, 70, 97, 105, 108, 101, 100]),
  (413, [67, 111, 110, 116, 101, 110, 116, 32, 84, 111, 111, 32, 76, 97, 114, 103, 101]),
  (414, [85, 82, 73, 32, 84, 111, 111, 32, 76, 111, 110, 103]),
  (416, [82, 97, 110, 103, 101, 32, 78, 111, 116, 32, 83, 97, 116, 105, 115, 102, 105, 97, 98, 108, 101]),
  (429, [84, 111, 111, 32, 77, 97, 110, 121, 32, 82, 101, 113, 117, 101, 115, 116, 115]),
  (431, [82, 101, 113, 117, 101, 115, 116, 32, 72, 101, 97, 100, 101, 114, 32, 70, 105, 101, 108, 100, 115, 32, 84, 111, 111, 32, 76, 97, 114, 103, 101]),
  (500, [73, 110, 116, 101, 114, 110, 97, 108, 32, 83, 101, 114, 118, 101, 114, 32, 69, 114, 114, 111, 114]),
  (501, [78, 111, 116, 32, 73, 109, 112, 108, 101, 109, 101, 110, 116, 101, 100]),
  (502, [66, 97, 100, 32, 71, 97, 116, 101, 119, 97, 121]),
  (503, [83, 101, 114, 118, 105, 99, 101, 32, 85, 110, 97, 118, 97, 105, 108, 97, 98, 108, 101]),
  (504, [71, 97, 116, 101, 119, 97, 121, 32, 84, 105, 109, 101, 111, 117, 116])]
def reasonL (n : Nat) : List UInt8 := ((phrases.find? fun p => decide (p.1 = n)).map (·.2)).getD []
def ctlG (c : UInt8) : Bool := (decide (c.toNat < 32) && decide (c.toNat ≠ 9)) || decide (c.toNat = 127)
def d3 (n : Nat) : List UInt8 := [UInt8.ofNat (48 + n / 100), UInt8.ofNat (48 + n / 10 % 10), UInt8.ofNat (48 + n % 10)]
def dgB (c : UInt8) : Bool := decide (48 ≤ c.toNat) && decide (c.toNat ≤ 57)
/-- The status of what follows the version; 0 if there is none. -/
def statusN : List UInt8 → Nat
  | a :: b :: c :: r =>
    if (r = [] ∨ r.head? = some 32) ∧ dgB a = true ∧ dgB b = true ∧ dgB c = true ∧ r.any ctlG = false then
      let n := 100 * (a.toNat - 48) + 10 * (b.toNat - 48) + (c.toNat - 48)
      if 100 ≤ n ∧ n ≤ 599 then n else 0
    else 0
  | _ => 0
theorem reason_clean_tab : (phrases.all fun p => p.2.all fun c => !ctlG c) = true := by decide +kernel
theorem reason_noctl (n : Nat) : (reasonL n).any ctlG = false := by
  unfold reasonL
  cases h : phrases.find? fun p => decide (p.1 = n) with
  | none => rfl
  | some p =>
    have := List.all_eq_true.1 reason_clean_tab p (List.mem_of_find?_eq_some h)
    show p.2.any ctlG = false
    rw [List.any_eq_false]
    intro c hc
    have := List.all_eq_true.1 this c hc
    simpa using this
theorem noctl_clean {l : List UInt8} (h : l.any ctlG = false) : Clean l := by
  rw [List.any_eq_false] at h
  intro c hc
  have := h c hc
  refine ⟨?_, ?_, ?_⟩ <;> (rintro rfl; exact this (by decide))
section
variable (nm vl hs : List UInt8 → Option (List UInt8)) (lw : List UInt8 → List UInt8)
abbrev Rp := Nat × Fs
/-- A response, read from its lines. -/
def respL (l : List (List UInt8)) : Nat × Rp :=
  if (cutG 32 (l.headD [])).1 ≠ verL then (28, 0, [])
  else if statusN (cutG 32 (l.headD [])).2 = 0 then (2, 0, [])
  else if (readFs nm vl l.tail).1 ≠ 0 then ((readFs nm vl l.tail).1, 0, [])
  else (0, statusN (cutG 32 (l.headD [])).2, (readFs nm vl l.tail).2)
def readP (s : List UInt8) : Nat × Rp × Nat :=
  if (splitG s).1 ≠ 0 then ((splitG s).1, (0, []), 0)
  else if (respL nm vl (splitG s).2.1).1 ≠ 0 then ((respL nm vl (splitG s).2.1).1, (0, []), 0)
  else (0, (respL nm vl (splitG s).2.1).2, (splitG s).2.2)
/-- The status that is written: 0 for one out of range. -/
def stN (st : Int) : Nat := if st < 100 ∨ 599 < st then 0 else st.toNat
def startP (st : Int) : List UInt8 := verL ++ 32 :: (d3 (stN st) ++ 32 :: reasonL (stN st))
def writeP (st : Int) (fs : Fs) : Nat × List UInt8 :=
  if 64 < fs.length ∨ 8192 < (enc (startP st :: fs.map (lineW nm))).length then (5, [])
  else if stN st = 0 then (2, [])
  else if goodB nm vl fs = false then (25, [])
  else (0, enc (startP st :: fs.map (lineW nm)))
end
section
variable {nm vl hs : List UInt8 → Option (List UInt8)} {lw : List UInt8 → List UInt8}
theorem d3_clean (n : Nat) (h : n ≤ 599) : Clean (d3 n) := by
  intro c hc
  simp only [d3, List.mem_cons, List.not_mem_nil, or_false] at hc
  have key : ∀ k, k ≤ 9 → UInt8.ofNat (48 + k) ≠ 0 ∧ UInt8.ofNat (48 + k) ≠ 13 ∧ UInt8.ofNat (48 + k) ≠ 10 := by
    intro k hk
    have : k = 0 ∨ k = 1 ∨ k = 2 ∨ k = 3 ∨ k = 4 ∨ k = 5 ∨ k = 6 ∨ k = 7 ∨ k = 8 ∨ k = 9 := by omega
    rcases this with rfl | rfl | rfl | rfl | rfl | rfl | rfl | rfl | rfl | rfl <;> decide
  rcases hc with rfl | rfl | rfl
  · exact key _ (by omega)
  · exact key _ (by omega)
  · exact key _ (by omega)
theorem d3_toNat (k : Nat) (hk : k ≤ 9) : (UInt8.ofNat (48 + k)).toNat = 48 + k := by rw [UInt8.toNat_ofNat']; omega
theorem statusN_d3 (n : Nat) (h1 : 100 ≤ n) (h2 : n ≤ 599) : statusN (d3 n ++ 32 :: reasonL n) = n := by
  have a1 := d3_toNat (n / 100) (by omega)
  have a2 := d3_toNat (n / 10 % 10) (by omega)
  have a3 := d3_toNat (n % 10) (by omega)
  have hr : (32 :: reasonL n).any ctlG = false := by rw [List.any_cons, reason_noctl]; decide
  show statusN (UInt8.ofNat (48 + n / 100) :: UInt8.ofNat (48 + n / 10 % 10) :: UInt8.ofNat (48 + n % 10) :: 32 :: reasonL n) = n
  simp only [statusN]
  rw [if_pos ⟨.inr rfl, by unfold dgB; rw [a1]; simp; omega, by unfold dgB; rw [a2]; simp; omega, by unfold dgB; rw [a3]; simp; omega, hr⟩, a1, a2, a3]
  have e : 100 * (48 + n / 100 - 48) + 10 * (48 + n / 10 % 10 - 48) + (48 + n % 10 - 48) = n := by omega
  simp only [e]
  rw [if_pos ⟨h1, h2⟩]
theorem startP_clean (st : Int) : Clean (startP st) ∧ startP st ≠ [] := by
  unfold startP
  refine ⟨clean_app.2 ⟨ver_clean, clean_cons.2 ⟨by decide, clean_app.2 ⟨d3_clean _ (by unfold stN; split <;> omega), clean_cons.2 ⟨by decide, noctl_clean (reason_noctl _)⟩⟩⟩⟩, by simp⟩
/-- What is written is read again. -/
theorem writeP_read (F : Flk nm vl hs lw) {st : Int} {fs : Fs} {b : List UInt8} (h : writeP nm vl st fs = (0, b)) (r : List UInt8) :
    (100 ≤ st ∧ st ≤ 599) ∧ readP nm vl (b ++ r) = (0, (st.toNat, fs.map fun f => (lw f.1, f.2)), b.length) := by
  unfold writeP at h
  by_cases h1 : 64 < fs.length ∨ 8192 < (enc (startP st :: fs.map (lineW nm))).length
  · rw [if_pos h1] at h; exact absurd (congrArg Prod.fst h) (by simp)
  rw [if_neg h1] at h
  by_cases h2 : stN st = 0
  · rw [if_pos h2] at h; exact absurd (congrArg Prod.fst h) (by simp)
  rw [if_neg h2] at h
  by_cases h4 : goodB nm vl fs = false
  · rw [if_pos h4] at h; exact absurd (congrArg Prod.fst h) (by simp)
  rw [if_neg h4] at h
  simp only [Prod.mk.injEq, true_and] at h
  subst h
  simp only [not_or, Bool.not_eq_false] at h1 h4
  have hst : 100 ≤ st ∧ st ≤ 599 := by
    unfold stN at h2
    by_cases hh : st < 100 ∨ 599 < st
    · rw [if_pos hh] at h2; exact absurd rfl h2
    · omega
  have hsn : stN st = st.toNat := by unfold stN; rw [if_neg (by omega)]
  have hg := good_mem F h4
  refine ⟨hst, ?_⟩
  have hs' : splitG (enc (startP st :: fs.map (lineW nm)) ++ r) = (0, startP st :: fs.map (lineW nm), (enc (startP st :: fs.map (lineW nm))).length) :=
    splitG_enc (by simp) (fun x hx => by
      rcases List.mem_cons.1 hx with rfl | hx
      · exact startP_clean st
      · obtain ⟨f, hf, rfl⟩ := List.mem_map.1 hx
        exact line_clean F (hg f hf)) (by omega) (by rw [List.length_cons, List.length_map]; omega) r
  have e1 : cutG 32 (startP st) = (verL, d3 (stN st) ++ 32 :: reasonL (stN st)) := cutG_at (by decide) _
  have e2 : statusN (d3 (stN st) ++ 32 :: reasonL (stN st)) = st.toNat := by rw [statusN_d3 _ (by omega) (by omega), hsn]
  have hl : respL nm vl (startP st :: fs.map (lineW nm)) = (0, st.toNat, fs.map fun f => (lw f.1, f.2)) := by
    unfold respL
    simp only [List.headD_cons, List.tail_cons, e1, e2, readFs_lines F hg]
    rw [if_neg (show ¬ verL ≠ verL by simp), if_neg (show ¬ st.toNat = 0 by omega)]
    simp
  unfold readP
  rw [hs']
  simp only [hl]
  simp
end
end Go.Proofs.YtgbcpheccaldlaaGreatDoor

/- Names, values and hosts are as the heads' reading and writing asks. -/
namespace Go.Proofs.YtgbcpheccaldlaaGreatDoor

def nmO (l : List UInt8) : Option (List UInt8) := if nameC l = 0 then some (lowS l) else none
def vlO (l : List UInt8) : Option (List UInt8) := if valueC l = 0 then some (trimB l) else none
theorem tok_fin : ∀ n : Fin 256, tokB (UInt8.ofNat n.val) = true → (UInt8.ofNat n.val ≠ 0 ∧ UInt8.ofNat n.val ≠ 13 ∧ UInt8.ofNat n.val ≠ 10 ∧ UInt8.ofNat n.val ≠ 58 ∧ UInt8.ofNat n.val ≠ 32 ∧ UInt8.ofNat n.val ≠ 9) ∧ tokB (lowB (UInt8.ofNat n.val)) = true := by decide +kernel
theorem tok_facts {c : UInt8} (h : tokB c = true) : (c ≠ 0 ∧ c ≠ 13 ∧ c ≠ 10 ∧ c ≠ 58 ∧ c ≠ 32 ∧ c ≠ 9) ∧ tokB (lowB c) = true := by
  have := tok_fin ⟨c.toNat, UInt8.toNat_lt c⟩ (by rw [UInt8.ofNat_toNat]; exact h)
  simpa only [UInt8.ofNat_toNat] using this
theorem nmO_some {l y : List UInt8} (h : nmO l = some y) : y = lowS l ∧ tokS l = true ∧ l.length ≤ 64 := by
  unfold nmO at h
  by_cases h1 : nameC l = 0
  · rw [if_pos h1] at h
    unfold nameC at h1
    by_cases h2 : tokS l = true
    · rw [if_pos h2] at h1
      exact ⟨(Option.some.inj h).symm, h2, by split at h1 <;> omega⟩
    · rw [if_neg h2] at h1; omega
  · rw [if_neg h1] at h; cases h
theorem nmO_of {l : List UInt8} (h1 : tokS l = true) (h2 : l.length ≤ 64) : nmO l = some (lowS l) := by
  have e : nameC l = 0 := by unfold nameC; rw [if_pos h1, if_neg (by omega)]
  unfold nmO; rw [if_pos e]
theorem tokS_low {l : List UInt8} (h : tokS l = true) : tokS (lowS l) = true := by
  unfold tokS at h ⊢
  rw [Bool.and_eq_true, List.all_eq_true] at h
  rw [Bool.and_eq_true, List.all_eq_true]
  refine ⟨fun c hc => ?_, ?_⟩
  · unfold lowS at hc
    obtain ⟨d, hd, rfl⟩ := List.mem_map.1 hc
    exact (tok_facts (h.1 d hd)).2
  · cases l with
    | nil => simp at h
    | cons c t => rfl
theorem ctl_fin : ∀ n : Fin 256, ctlB (UInt8.ofNat n.val) = false → UInt8.ofNat n.val ≠ 0 ∧ UInt8.ofNat n.val ≠ 13 ∧ UInt8.ofNat n.val ≠ 10 := by decide +kernel
theorem vlO_some {l y : List UInt8} (h : vlO l = some y) : y = trimB l ∧ ctlS l = false ∧ (trimB l).length ≤ 2048 := by
  unfold vlO at h
  by_cases h1 : valueC l = 0
  · rw [if_pos h1] at h
    unfold valueC at h1
    by_cases h2 : ctlS l = true
    · rw [if_pos h2] at h1; omega
    · rw [if_neg h2] at h1
      exact ⟨(Option.some.inj h).symm, by simpa using h2, by split at h1 <;> omega⟩
  · rw [if_neg h1] at h; cases h
theorem vlO_of {l : List UInt8} (h1 : ctlS l = false) (h2 : (trimB l).length ≤ 2048) : vlO l = some (trimB l) := by
  have e : valueC l = 0 := by unfold valueC; rw [h1, if_neg (by decide), if_neg (by omega)]
  unfold vlO; rw [if_pos e]
theorem tL_id (l : List UInt8) : tL (tL l) = tL l := by
  induction l with
  | nil => rfl
  | cons c t ih =>
    rw [tL_cons]
    by_cases h : blank c = true
    · rw [if_pos h]; exact ih
    · rw [if_neg h, tL_cons, if_neg h]
theorem tR_id (l : List UInt8) : tR (tR l) = tR l := by
  induction l with
  | nil => rfl
  | cons c t ih =>
    rw [tR_cons]
    by_cases h : tR t = [] ∧ blank c = true
    · rw [if_pos h]; rfl
    · rw [if_neg h, tR_cons, ih, if_neg h]
theorem trimB_id (l : List UInt8) : trimB (trimB l) = trimB l := by
  rw [trimB_eq, trimB_eq, tR_tL, tR_id, ← tR_tL (tL l), tL_id]
theorem trimB_sub (l : List UInt8) : ∀ c ∈ trimB l, c ∈ l := by
  intro c hc
  rw [trimB_eq] at hc
  unfold tR at hc
  rw [List.mem_reverse] at hc
  have h1 := (List.dropWhile_sublist blank).subset hc
  rw [List.mem_reverse] at h1
  exact (List.dropWhile_sublist blank).subset h1
theorem ctlS_sub {a b : List UInt8} (h : ∀ c ∈ a, c ∈ b) (hb : ctlS b = false) : ctlS a = false := by
  unfold ctlS at *
  rw [List.any_eq_false] at *
  exact fun c hc => hb c (h c hc)
theorem trimB_blank (c : UInt8) (hc : blank c = true) (l : List UInt8) : trimB (c :: l) = trimB l := by
  rw [trimB_eq, trimB_eq, tL_cons, if_pos hc]
/-- A text without blanks is trimmed. -/
theorem trimB_none {l : List UInt8} (h : ∀ c ∈ l, blank c = false) : trimB l = l := by
  have h1 : tL l = l := by
    cases l with
    | nil => rfl
    | cons c t => rw [tL_cons, if_neg (by rw [h c (by simp)]; decide)]
  have h2 : tR l = l := by
    unfold tR
    have : l.reverse.dropWhile blank = l.reverse := by
      cases hr : l.reverse with
      | nil => rfl
      | cons c t =>
        rw [List.dropWhile_cons, if_neg]
        have : c ∈ l.reverse := by rw [hr]; simp
        rw [h c (List.mem_reverse.1 this)]; decide
    rw [this, List.reverse_reverse]
  rw [trimB_eq, h1, h2]
theorem aln_fin : ∀ n : Fin 256, lblC (UInt8.ofNat n.val) = true → ctlB (UInt8.ofNat n.val) = false ∧ blank (UInt8.ofNat n.val) = false := by decide +kernel
theorem lblC_facts {c : UInt8} (h : lblC c = true) : ctlB c = false ∧ blank c = false := by
  have := aln_fin ⟨c.toNat, UInt8.toNat_lt c⟩ (by rw [UInt8.ofNat_toNat]; exact h)
  simpa only [UInt8.ofNat_toNat] using this
theorem host_chars {l h : List UInt8} (e : hostO l = some h) : ∀ c ∈ h, ctlB c = false ∧ blank c = false := by
  have e' := (hostO_some (hostO_idem e)).2.2
  intro c hc
  by_cases hd : c = 46
  · subst hd; decide
  · obtain ⟨s, hs, hxs⟩ := cutL_mem 46 h c hc hd
    have := List.all_eq_true.mp e' s hs
    simp only [lblB, Bool.and_eq_true, List.all_eq_true] at this
    exact lblC_facts (this.2 c hxs)
theorem flk : Flk nmO vlO hostO lowS where
  nm_lw h := (nmO_some h).1
  nm_id h := by
    obtain ⟨rfl, h2, h3⟩ := nmO_some h
    rw [nmO_of (tokS_low h2) (by rw [lowS_len]; exact h3), lowS_idem]
  nm_ok h := by
    obtain ⟨rfl, h2, h3⟩ := nmO_some h
    unfold tokS at h2
    rw [Bool.and_eq_true, List.all_eq_true] at h2
    refine ⟨?_, fun c hc => (tok_facts (h2.1 c hc)).1⟩
    rintro rfl
    simp at h2
  vl_ok h := by
    obtain ⟨_, h2, _⟩ := vlO_some h
    unfold ctlS at h2
    rw [List.any_eq_false] at h2
    intro c hc
    have h3 : ctlB c = false := by simpa using h2 c hc
    have := ctl_fin ⟨c.toNat, UInt8.toNat_lt c⟩ (by rw [UInt8.ofNat_toNat]; exact h3)
    simpa only [UInt8.ofNat_toNat] using this
  vl_id h := by
    obtain ⟨rfl, h2, h3⟩ := vlO_some h
    refine ⟨?_, trimB_le _⟩
    rw [vlO_of (ctlS_sub (trimB_sub _) h2) (by rw [trimB_id]; exact h3), trimB_id]
  vl_sp h := by
    obtain ⟨h1, h2, h3⟩ := vlO_some h
    have e := trimB_blank 32 (by decide) _ |>.trans h1.symm
    rw [vlO_of (by unfold ctlS; rw [List.any_cons]; unfold ctlS at h2; rw [h2]; decide) (by rw [trimB_blank 32 (by decide)]; exact h3), e]
  hs_lw h := (hostO_some h).1
  hs_id h := hostO_idem h
  hs_vl h := by
    have hc := host_chars h
    have ht : trimB _ = _ := trimB_none fun c hm => (hc c hm).2
    have hl := (hostO_some (hostO_idem h)).2.1
    rw [vlO_of (by unfold ctlS; rw [List.any_eq_false]; intro c hm; simp [(hc c hm).1]) (by rw [ht]; omega), ht]
  lw_len := lowS_len
  lw_id := lowS_idem
end Go.Proofs.YtgbcpheccaldlaaGreatDoor

/- The host of a request as the program puts it in; header lines and fields one after the other; plain mathematics. -/
namespace Go.Proofs.YtgbcpheccaldlaaGreatDoor
open Go.RowKit

theorem hostN_low : lowS hostN = hostN := by decide
theorem ofN_host (p : List UInt8 × List UInt8) : ofN hostN p = decide (lowS p.1 = hostN) := by unfold ofN; rw [hostN_low]
section
variable (hs : List UInt8 → Option (List UInt8))
/-- The program's way: all values of the name; the only one is read, and set. -/
def withH (fs : Fs) : Option Fs :=
  match allL fs hostN with
  | [v] => (hs v).map fun h => setL fs hostN h
  | _ => none
/-- A field with its host read. -/
def updH (f : List UInt8 × List UInt8) : List UInt8 × List UInt8 := if lowS f.1 = hostN then (f.1, (hs f.2).getD []) else f
end
section
variable {hs : List UInt8 → Option (List UInt8)}
theorem allL_yes {f : List UInt8 × List UInt8} (h : lowS f.1 = hostN) (r : Fs) : allL (f :: r) hostN = f.2 :: allL r hostN := by
  unfold allL; rw [List.filter_cons, ofN_host, if_pos (by simpa using h)]; rfl
theorem allL_no {f : List UInt8 × List UInt8} (h : lowS f.1 ≠ hostN) (r : Fs) : allL (f :: r) hostN = allL r hostN := by
  unfold allL; rw [List.filter_cons, ofN_host, if_neg (by simpa using h)]
theorem hostF_all : ∀ (fs : Fs), (∀ v ∈ allL fs hostN, (hs v).isSome = true) → hostF hs lowS fs = some (fs.map (updH hs), (allL fs hostN).length) := by
  intro fs
  induction fs with
  | nil => intro _; rfl
  | cons f r ih =>
    intro h
    rw [hostF]
    by_cases hf : lowS f.1 = hostN
    · rw [allL_yes hf] at h ⊢
      obtain ⟨y, hy⟩ := Option.isSome_iff_exists.1 (h f.2 (by simp))
      rw [if_pos hf, hy, ih fun v hv => h v (by simp [hv])]
      simp [updH, hf, hy]
    · rw [allL_no hf] at h ⊢
      rw [if_neg hf, ih h]
      simp [updH, hf]
theorem hostF_none : ∀ (fs : Fs), (∃ v ∈ allL fs hostN, hs v = none) → hostF hs lowS fs = none := by
  intro fs
  induction fs with
  | nil => rintro ⟨v, hv, _⟩; simp [allL] at hv
  | cons f r ih =>
    rintro ⟨v, hv, hn⟩
    rw [hostF]
    by_cases hf : lowS f.1 = hostN
    · rw [allL_yes hf] at hv
      rw [if_pos hf]
      rcases List.mem_cons.1 hv with rfl | hv
      · rw [hn]; rfl
      · rw [ih ⟨v, hv, hn⟩]; cases hs f.2 <;> rfl
    · rw [allL_no hf] at hv
      rw [if_neg hf, ih ⟨v, hv, hn⟩]; rfl
theorem upd_none : ∀ (fs : Fs), allL fs hostN = [] → fs.map (updH hs) = fs ∧ remL fs hostN = fs := by
  intro fs
  induction fs with
  | nil => intro _; exact ⟨rfl, rfl⟩
  | cons f r ih =>
    intro h
    by_cases hf : lowS f.1 = hostN
    · rw [allL_yes hf] at h; cases h
    · rw [allL_no hf] at h
      obtain ⟨h1, h2⟩ := ih h
      refine ⟨by rw [List.map_cons, h1]; unfold updH; rw [if_neg hf], ?_⟩
      unfold remL at h2 ⊢
      rw [List.filter_cons, ofN_host, if_pos (by simpa using hf), h2]
theorem upd_set : ∀ (fs : Fs), (∀ f ∈ fs, lowS f.1 = f.1) → ∀ v h, allL fs hostN = [v] → hs v = some h → fs.map (updH hs) = setL fs hostN h := by
  intro fs
  induction fs with
  | nil => intro _ v h e; cases e
  | cons f r ih =>
    intro hl v h e hv
    rw [setL]
    by_cases hf : lowS f.1 = hostN
    · rw [allL_yes hf] at e
      injection e with e1 e2
      obtain ⟨h1, h2⟩ := upd_none (hs := hs) r e2
      rw [if_pos (by rw [ofN_host]; simpa using hf), List.map_cons, h1, h2]
      unfold updH
      rw [if_pos hf, e1, hv, hostN_low, ← hf, hl f (by simp)]; rfl
    · rw [allL_no hf] at e
      rw [if_neg (by rw [ofN_host]; simpa using hf), List.map_cons, ih (fun g hg => hl g (by simp [hg])) v h e hv]
      unfold updH; rw [if_neg hf]
/-- The reference's way and the program's. -/
theorem hosted_with {fs : Fs} (hl : ∀ f ∈ fs, lowS f.1 = f.1) : hosted hs lowS fs = withH hs fs := by
  unfold hosted withH
  by_cases h : ∃ v ∈ allL fs hostN, hs v = none
  · rw [hostF_none fs h]
    obtain ⟨v, hv, hn⟩ := h
    split
    · rename_i u e
      rw [e, List.mem_singleton] at hv
      rw [← hv, hn]; rfl
    · rfl
  · have h' : ∀ v ∈ allL fs hostN, (hs v).isSome = true := fun v hv => by
      cases e : hs v with
      | none => exact absurd ⟨v, hv, e⟩ h
      | some y => rfl
    rw [hostF_all fs h']
    split
    · rename_i u e
      obtain ⟨y, hy⟩ := Option.isSome_iff_exists.1 (h' u (by rw [e]; simp))
      rw [e, hy]
      simp [upd_set fs hl u y e hy]
    · rename_i hne
      simp only [Option.bind_some]
      rw [if_neg]
      intro e1
      obtain ⟨u, hu⟩ := List.length_eq_one_iff.1 e1
      exact hne u hu
/-- With the names in lower case. -/
def low1 (f : List UInt8 × List UInt8) : List UInt8 × List UInt8 := (lowS f.1, f.2)
theorem hostF_low : ∀ (fs : Fs), hostF hs lowS (fs.map low1) = (hostF hs lowS fs).map fun q => (q.1.map low1, q.2) := by
  intro fs
  induction fs with
  | nil => rfl
  | cons f r ih =>
    rw [List.map_cons, hostF, hostF, ih]
    have e : lowS (low1 f).1 = lowS f.1 := lowS_low _
    rw [e]
    by_cases hf : lowS f.1 = hostN
    · rw [if_pos hf, if_pos hf]
      show (hs f.2).bind _ = _
      cases hs f.2 <;> cases hostF hs lowS r <;> rfl
    · rw [if_neg hf, if_neg hf]
      cases hostF hs lowS r <;> rfl
theorem withH_low (fs : Fs) : withH hs (fs.map low1) = (hosted hs lowS fs).map fun q => q.map low1 := by
  rw [← hosted_with (by intro f hf; obtain ⟨g, _, rfl⟩ := List.mem_map.1 hf; exact lowS_low _)]
  unfold hosted
  rw [hostF_low]
  cases hostF hs lowS fs with
  | none => rfl
  | some q =>
    show (if q.2 = 1 then some (q.1.map low1) else none) = Option.map _ (if q.2 = 1 then some q.1 else none)
    split <;> rfl
end
/-- A header line of a field. -/
def wline (f : List UInt8 × List UInt8) : List UInt8 := f.1 ++ 58 :: 32 :: f.2
theorem wline_low {f : List UInt8 × List UInt8} (h : (nmO f.1).isSome = true) : wline (low1 f) = lineW nmO f := by
  obtain ⟨y, hy⟩ := Option.isSome_iff_exists.1 h
  unfold wline lineW
  rw [hy, (nmO_some hy).1]; rfl
section
variable {nm vl : List UInt8 → Option (List UInt8)}
/-- All of the first k lines are header lines. -/
def goodTo (nm vl : List UInt8 → Option (List UInt8)) (ls : List (List UInt8)) (k : Nat) : Prop := ∀ l ∈ ls.take k, (readF nm vl l).1 = 0
def fsTo (nm vl : List UInt8 → Option (List UInt8)) (ls : List (List UInt8)) (k : Nat) : Fs := (ls.take k).map fun l => (readF nm vl l).2
theorem goodTo0 (ls : List (List UInt8)) : goodTo nm vl ls 0 := fun l h => by simp at h
theorem goodTo_step {ls : List (List UInt8)} {k : Nat} {l : List UInt8} (h : goodTo nm vl ls k) (hl : ls[k]? = some l) (h0 : (readF nm vl l).1 = 0) : goodTo nm vl ls (k + 1) := by
  intro x hx
  rw [take_more hl] at hx
  rcases List.mem_append.1 hx with hx | hx
  · exact h x hx
  · rw [List.mem_singleton] at hx; rw [hx]; exact h0
theorem fsTo_step {ls : List (List UInt8)} {k : Nat} {l : List UInt8} (hl : ls[k]? = some l) : fsTo nm vl ls (k + 1) = fsTo nm vl ls k ++ [(readF nm vl l).2] := by
  unfold fsTo; rw [take_more hl, List.map_append]; rfl
theorem fsTo_len (ls : List (List UInt8)) (k : Nat) : (fsTo nm vl ls k).length ≤ k := by unfold fsTo; rw [List.length_map]; exact List.length_take_le _ _
theorem readFs_app {a : List (List UInt8)} (h : ∀ l ∈ a, (readF nm vl l).1 = 0) (b : List (List UInt8)) :
    readFs nm vl (a ++ b) = if (readFs nm vl b).1 ≠ 0 then ((readFs nm vl b).1, []) else (0, (a.map fun l => (readF nm vl l).2) ++ (readFs nm vl b).2) := by
  induction a with
  | nil =>
    rw [List.nil_append]
    by_cases hb : (readFs nm vl b).1 ≠ 0
    · rw [if_pos hb]
      cases b with
      | nil => exact absurd rfl hb
      | cons x t =>
        rw [readFs] at hb ⊢
        by_cases h1 : (readF nm vl x).1 ≠ 0
        · rw [if_pos h1]
        · rw [if_neg h1] at hb ⊢
          by_cases h2 : (readFs nm vl t).1 ≠ 0
          · rw [if_pos h2]
          · rw [if_neg h2] at hb; exact absurd rfl hb
    · rw [if_neg hb]
      simp only [ne_eq, Decidable.not_not] at hb
      exact Prod.ext hb rfl
  | cons x t ih =>
    have hx := h x (by simp)
    rw [List.cons_append, readFs, if_neg (by rw [hx]; simp), ih fun l hl => h l (by simp [hl])]
    by_cases hb : (readFs nm vl b).1 ≠ 0
    · simp only [if_pos hb]
    · simp only [if_neg hb]; simp
theorem readFs_bad {ls : List (List UInt8)} {k : Nat} {l : List UInt8} (h : goodTo nm vl ls k) (hl : ls[k]? = some l) (h0 : (readF nm vl l).1 ≠ 0) : readFs nm vl ls = ((readF nm vl l).1, []) := by
  have hd : ls = ls.take k ++ (l :: ls.drop (k + 1)) := by
    conv => lhs; rw [← List.take_append_drop k ls]
    obtain ⟨hk, e⟩ := List.getElem?_eq_some_iff.mp hl
    rw [List.drop_eq_getElem_cons hk, e]
  have e : readFs nm vl (l :: ls.drop (k + 1)) = ((readF nm vl l).1, []) := by rw [readFs, if_pos h0]
  rw [hd, readFs_app h, e, if_pos h0]
theorem readFs_end {ls : List (List UInt8)} {k : Nat} (h : goodTo nm vl ls k) (hk : ls.length ≤ k) : readFs nm vl ls = (0, fsTo nm vl ls k) := by
  unfold goodTo at h
  unfold fsTo
  rw [List.take_of_length_le hk] at h ⊢
  have := readFs_app (nm := nm) (vl := vl) h []
  rw [List.append_nil] at this
  rw [this]; simp [readFs]
/-- The names that are read are in lower case. -/
theorem readF_low (hf : ∀ {x y}, nm x = some y → y = lowS x) (l : List UInt8) (h : (readF nm vl l).1 = 0) : lowS (readF nm vl l).2.1 = (readF nm vl l).2.1 := by
  unfold readF at h ⊢
  by_cases h1 : l.head?.any wsB = true
  · rw [if_pos h1] at h; cases h
  · rw [if_neg h1] at h ⊢
    cases e : cut1 58 l with
    | none => rw [e] at h; cases h
    | some p =>
      obtain ⟨b, a⟩ := p
      rw [e] at h
      simp only at h ⊢
      by_cases h2 : b = []
      · rw [if_pos h2] at h; cases h
      · rw [if_neg h2] at h ⊢
        by_cases h3 : b.any wsB = true
        · rw [if_pos h3] at h; cases h
        · rw [if_neg h3] at h ⊢
          cases e1 : nm b with
          | none => rw [e1] at h; cases h
          | some y =>
            cases e2 : vl a with
            | none => rw [e1, e2] at h; cases h
            | some v => simp only; rw [hf e1]; exact lowS_low _
theorem fsTo_low (hf : ∀ {x y}, nm x = some y → y = lowS x) (ls : List (List UInt8)) (k : Nat) (h : goodTo nm vl ls k) : ∀ f ∈ fsTo nm vl ls k, lowS f.1 = f.1 := by
  intro f hf'
  obtain ⟨l, hl, rfl⟩ := List.mem_map.1 hf'
  exact readF_low hf l (h l hl)
end
end Go.Proofs.YtgbcpheccaldlaaGreatDoor

/- What the code's Size returns, for every list of fields. -/
namespace Go.Proofs.YtgbcpheccaldlaaGreatDoor
open Go.RowKit

set_option maxHeartbeats 1000000 in
set_option maxRecDepth 100000 in
theorem size_any (fv : Value) (ps : Flds) (w : World) (hr : ReadsQ w fv ps) (hl : ps.length ≤ 1000) (hb : ∀ p ∈ ps, p.1.length + p.2.length ≤ 1000000) :
    Calls Tryz.prog 25 #[fv] w fun e w' => e = .returned (.int .i64 (sizL ps)) ∧ Below w.heap.size w w' := by
  obtain ⟨ao, cap, rfl, hc⟩ := hr
  have hs : ∀ k, sizL (ps.take k) ≤ k * 1000004 := by
    intro k
    induction k with
    | zero => simp [sizL]
    | succ k ih =>
      cases hp : ps[k]? with
      | none =>
        have e : ps.take (k + 1) = ps.take k := by rw [List.take_add_one, hp]; simp
        rw [e]; exact Nat.le_trans ih (Nat.mul_le_mul_right _ (Nat.le_succ k))
      | some p =>
        rw [siz_more hp]
        have := hb p (List.mem_of_getElem? hp)
        omega
  have HC := Lib.hid hc
  have HBig := Lib.hid hb
  have HS := Lib.hid hs
  clear hc hb hs
  go_enter Tryz.func25, Tryz.ntmps25
  go_wp2_with fail
  go_loopw [3, 8] (fun v i wr => ∃ k : Nat, i = .int .i64 k ∧ k ≤ ps.length ∧ v = .int .i64 (sizL (ps.take k)) ∧ Below w.heap.size w wr) (fun _ i _ => ps.length - (intOf i).toNat)
  case atStart => exact ⟨0, rfl, Nat.zero_le _, rfl, Below.refl _ _⟩
  case round =>
    obtain ⟨k, rfl, hk, rfl, hBr⟩ := hrel
    have hbr := hBr.size
    have hsk := HS.out k
    by_cases hlt : k < ps.length
    · obtain ⟨p, hp⟩ : ∃ p, ps[k]? = some p := ⟨ps[k], by simp [hlt]⟩
      obtain ⟨g, off, rfl, hg1, h1, h2⟩ := HC.out k p hp
      have hc1 : wr.cell? ⟨g, off + k * 2, none⟩ = some (.string (strB p.1)) := (hBr.cell (p := ⟨g, off + k * 2, none⟩) hg1).trans h1
      have hc2 : wr.cell? ⟨g, off + k * 2 + 1, none⟩ = some (.string (strB p.2)) := (hBr.cell (p := ⟨g, off + k * 2 + 1, none⟩) hg1).trans h2
      have hpl := HBig.out p (List.mem_of_getElem? hp)
      have e1 : (strB p.1).size = p.1.length := strB_size _
      have e2 : (strB p.2).size = p.2.length := strB_size _
      have hm := siz_more hp
      have HM := Lib.hid hm
      clear hp h1 h2 hm
      go_wp2
      go_roundw
      case rel => exact ⟨k + 1, by go_num, by omega, by rw [HM.out]; congr 1, hBr.alloc hbr _⟩
      case measure => simp [intOf]; omega
    · have htk : ps.take k = ps := List.take_of_length_le (by omega)
      rw [htk]
      go_wp2_with fail
      go_ret
      exact ⟨rfl, hBr⟩

end Go.Proofs.YtgbcpheccaldlaaGreatDoor
