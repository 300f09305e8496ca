/- Responses: reading and writing heads, in lists of bytes; what is written is read again. -/
import Derived.Test.YthjkneifffdglaaDoorGWrite
namespace Go.Proofs.YthjkneifffdglaaDoor

/-- The phrases. -/
def phrases : List (Nat × List UInt8) := [
  (100, [67, 111, 110, 116, 105, 110, 117, 101]),
  (101, [83, 119, 105, 116, 99, 104, 105, 110, 103, 32, 80, 114, 111, 116, 111, 99, 111, 108, 115]),
  (200, [79, 75]),
  (201, [67, 114, 101, 97, 116, 101, 100]),
  (202, [65, 99, 99, 101, 112, 116, 101, 100]),
  (203, [78, 111, 110, 45, 65, 117, 116, 104, 111, 114, 105, 116, 97, 116, 105, 118, 101, 32, 73, 110, 102, 111, 114, 109, 97, 116, 105, 111, 110]),
  (204, [78, 111, 32, 67, 111, 110, 116, 101, 110, 116]),
  (206, [80, 97, 114, 116, 105, 97, 108, 32, 67, 111, 110, 116, 101, 110, 116]),
  (300, [77, 117, 108, 116, 105, 112, 108, 101, 32, 67, 104, 111, 105, 99, 101, 115]),
  (301, [77, 111, 118, 101, 100, 32, 80, 101, 114, 109, 97, 110, 101, 110, 116, 108, 121]),
  (302, [70, 111, 117, 110, 100]),
  (303, [83, 101, 101, 32, 79, 116, 104, 101, 114]),
  (304, [78, 111, 116, 32, 77, 111, 100, 105, 102, 105, 101, 100]),
  (307, [84, 101, 109, 112, 111, 114, 97, 114, 121, 32, 82, 101, 100, 105, 114, 101, 99, 116]),
  (308, [80, 101, 114, 109, 97, 110, 101, 110, 116, 32, 82, 101, 100, 105, 114, 101, 99, 116]),
  (400, [66, 97, 100, 32, 82, 101, 113, 117, 101, 115, 116]),
  (401, [85, 110, 97, 117, 116, 104, 111, 114, 105, 122, 101, 100]),
  (403, [70, 111, 114, 98, 105, 100, 100, 101, 110]),
  (404, [78, 111, 116, 32, 70, 111, 117, 110, 100]),
  (405, [77, 101, 116, 104, 111, 100, 32, 78, 111, 116, 32, 65, 108, 108, 111, 119, 101, 100]),
  (408, [82, 101, 113, 117, 101, 115, 116, 32, 84, 105, 109, 101, 111, 117, 116]),
  (410, [71, 111, 110, 101]),
  (411, [76, 101, 110, 103, 116, 104, 32, 82, 101, 113, 117, 105, 114, 101, 100]),
  (412, [80, 114, 101, 99, 111, 110, 100, 105, 116, 105, 111, 110, 32, 70, 97, 105, 108, 101, 100]),
  (413, [67, 111, 110, 116, 101, 110, 116, 32, 84, 111, 111, 32, 76, 97, 114, 103, 101]),
  (414, [85, 82, 73, 32, 84, 111, 111, 32, 76, 111, 110, 103]),
  (416, [82, 97, 110, 103, 101, 32, 78, 111, 116, 32, 83, 97, 116, 105, 115, 102, 105, 97, 98, 108, 101]),
  (429, [84, 111, 111, 32, 77, 97, 110, 121, 32, 82, 101, 113, 117, 101, 115, 116, 115]),
  (431, [82, 101, 113, 117, 101, 115, 116, 32, 72, 101, 97, 100, 101, 114, 32, 70, 105, 101, 108, 100, 115, 32, 84, 111, 111, 32, 76, 97, 114, 103, 101]),
  (500, [73, 110, 116, 101, 114, 110, 97, 108, 32, 83, 101, 114, 118, 101, 114, 32, 69, 114, 114, 111, 114]),
  (501, [78, 111, 116, 32, 73, 109, 112, 108, 101, 109, 101, 110, 116, 101, 100]),
  (502, [66, 97, 100, 32, 71, 97, 116, 101, 119, 97, 121]),
  (503, [83, 101, 114, 118, 105, 99, 101, 32, 85, 110, 97, 118, 97, 105, 108, 97, 98, 108, 101]),
  (504, [71, 97, 116, 101, 119, 97, 121, 32, 84, 105, 109, 101, 111, 117, 116])]
def reasonL (n : Nat) : List UInt8 := ((phrases.find? fun p => decide (p.1 = n)).map (·.2)).getD []
def ctlG (c : UInt8) : Bool := (decide (c.toNat < 32) && decide (c.toNat ≠ 9)) || decide (c.toNat = 127)
def d3 (n : Nat) : List UInt8 := [UInt8.ofNat (48 + n / 100), UInt8.ofNat (48 + n / 10 % 10), UInt8.ofNat (48 + n % 10)]
def dgB (c : UInt8) : Bool := decide (48 ≤ c.toNat) && decide (c.toNat ≤ 57)
/-- The status of what follows the version; 0 if there is none. -/
def statusN : List UInt8 → Nat
  | a :: b :: c :: r =>
    if (r = [] ∨ r.head? = some 32) ∧ dgB a = true ∧ dgB b = true ∧ dgB c = true ∧ r.any ctlG = false then
      let n := 100 * (a.toNat - 48) + 10 * (b.toNat - 48) + (c.toNat - 48)
      if 100 ≤ n ∧ n ≤ 599 then n else 0
    else 0
  | _ => 0
theorem reason_clean_tab : (phrases.all fun p => p.2.all fun c => !ctlG c) = true := by decide +kernel
theorem reason_noctl (n : Nat) : (reasonL n).any ctlG = false := by
  unfold reasonL
  cases h : phrases.find? fun p => decide (p.1 = n) with
  | none => rfl
  | some p =>
    have := List.all_eq_true.1 reason_clean_tab p (List.mem_of_find?_eq_some h)
    show p.2.any ctlG = false
    rw [List.any_eq_false]
    intro c hc
    have := List.all_eq_true.1 this c hc
    simpa using this
theorem noctl_clean {l : List UInt8} (h : l.any ctlG = false) : Clean l := by
  rw [List.any_eq_false] at h
  intro c hc
  have := h c hc
  refine ⟨?_, ?_, ?_⟩ <;> (rintro rfl; exact this (by decide))
section
variable (nm vl hs : List UInt8 → Option (List UInt8)) (lw : List UInt8 → List UInt8)
abbrev Rp := Nat × Fs
/-- A response, read from its lines. -/
def respL (l : List (List UInt8)) : Nat × Rp :=
  if (cutG 32 (l.headD [])).1 ≠ verL then (28, 0, [])
  else if statusN (cutG 32 (l.headD [])).2 = 0 then (2, 0, [])
  else if (readFs nm vl l.tail).1 ≠ 0 then ((readFs nm vl l.tail).1, 0, [])
  else (0, statusN (cutG 32 (l.headD [])).2, (readFs nm vl l.tail).2)
def readP (s : List UInt8) : Nat × Rp × Nat :=
  if (splitG s).1 ≠ 0 then ((splitG s).1, (0, []), 0)
  else if (respL nm vl (splitG s).2.1).1 ≠ 0 then ((respL nm vl (splitG s).2.1).1, (0, []), 0)
  else (0, (respL nm vl (splitG s).2.1).2, (splitG s).2.2)
/-- The status that is written: 0 for one out of range. -/
def stN (st : Int) : Nat := if st < 100 ∨ 599 < st then 0 else st.toNat
def startP (st : Int) : List UInt8 := verL ++ 32 :: (d3 (stN st) ++ 32 :: reasonL (stN st))
def writeP (st : Int) (fs : Fs) : Nat × List UInt8 :=
  if 64 < fs.length ∨ 8192 < (enc (startP st :: fs.map (lineW nm))).length then (5, [])
  else if stN st = 0 then (2, [])
  else if goodB nm vl fs = false then (25, [])
  else (0, enc (startP st :: fs.map (lineW nm)))
end
section
variable {nm vl hs : List UInt8 → Option (List UInt8)} {lw : List UInt8 → List UInt8}
theorem d3_clean (n : Nat) (h : n ≤ 599) : Clean (d3 n) := by
  intro c hc
  simp only [d3, List.mem_cons, List.not_mem_nil, or_false] at hc
  have key : ∀ k, k ≤ 9 → UInt8.ofNat (48 + k) ≠ 0 ∧ UInt8.ofNat (48 + k) ≠ 13 ∧ UInt8.ofNat (48 + k) ≠ 10 := by
    intro k hk
    have : k = 0 ∨ k = 1 ∨ k = 2 ∨ k = 3 ∨ k = 4 ∨ k = 5 ∨ k = 6 ∨ k = 7 ∨ k = 8 ∨ k = 9 := by omega
    rcases this with rfl | rfl | rfl | rfl | rfl | rfl | rfl | rfl | rfl | rfl <;> decide
  rcases hc with rfl | rfl | rfl
  · exact key _ (by omega)
  · exact key _ (by omega)
  · exact key _ (by omega)
theorem d3_toNat (k : Nat) (hk : k ≤ 9) : (UInt8.ofNat (48 + k)).toNat = 48 + k := by rw [UInt8.toNat_ofNat']; omega
theorem statusN_d3 (n : Nat) (h1 : 100 ≤ n) (h2 : n ≤ 599) : statusN (d3 n ++ 32 :: reasonL n) = n := by
  have a1 := d3_toNat (n / 100) (by omega)
  have a2 := d3_toNat (n / 10 % 10) (by omega)
  have a3 := d3_toNat (n % 10) (by omega)
  have hr : (32 :: reasonL n).any ctlG = false := by rw [List.any_cons, reason_noctl]; decide
  show statusN (UInt8.ofNat (48 + n / 100) :: UInt8.ofNat (48 + n / 10 % 10) :: UInt8.ofNat (48 + n % 10) :: 32 :: reasonL n) = n
  simp only [statusN]
  rw [if_pos ⟨.inr rfl, by unfold dgB; rw [a1]; simp; omega, by unfold dgB; rw [a2]; simp; omega, by unfold dgB; rw [a3]; simp; omega, hr⟩, a1, a2, a3]
  have e : 100 * (48 + n / 100 - 48) + 10 * (48 + n / 10 % 10 - 48) + (48 + n % 10 - 48) = n := by omega
  simp only [e]
  rw [if_pos ⟨h1, h2⟩]
theorem startP_clean (st : Int) : Clean (startP st) ∧ startP st ≠ [] := by
  unfold startP
  refine ⟨clean_app.2 ⟨ver_clean, clean_cons.2 ⟨by decide, clean_app.2 ⟨d3_clean _ (by unfold stN; split <;> omega), clean_cons.2 ⟨by decide, noctl_clean (reason_noctl _)⟩⟩⟩⟩, by simp⟩
/-- What is written is read again. -/
theorem writeP_read (F : Flk nm vl hs lw) {st : Int} {fs : Fs} {b : List UInt8} (h : writeP nm vl st fs = (0, b)) (r : List UInt8) :
    (100 ≤ st ∧ st ≤ 599) ∧ readP nm vl (b ++ r) = (0, (st.toNat, fs.map fun f => (lw f.1, f.2)), b.length) := by
  unfold writeP at h
  by_cases h1 : 64 < fs.length ∨ 8192 < (enc (startP st :: fs.map (lineW nm))).length
  · rw [if_pos h1] at h; exact absurd (congrArg Prod.fst h) (by simp)
  rw [if_neg h1] at h
  by_cases h2 : stN st = 0
  · rw [if_pos h2] at h; exact absurd (congrArg Prod.fst h) (by simp)
  rw [if_neg h2] at h
  by_cases h4 : goodB nm vl fs = false
  · rw [if_pos h4] at h; exact absurd (congrArg Prod.fst h) (by simp)
  rw [if_neg h4] at h
  simp only [Prod.mk.injEq, true_and] at h
  subst h
  simp only [not_or, Bool.not_eq_false] at h1 h4
  have hst : 100 ≤ st ∧ st ≤ 599 := by
    unfold stN at h2
    by_cases hh : st < 100 ∨ 599 < st
    · rw [if_pos hh] at h2; exact absurd rfl h2
    · omega
  have hsn : stN st = st.toNat := by unfold stN; rw [if_neg (by omega)]
  have hg := good_mem F h4
  refine ⟨hst, ?_⟩
  have hs' : splitG (enc (startP st :: fs.map (lineW nm)) ++ r) = (0, startP st :: fs.map (lineW nm), (enc (startP st :: fs.map (lineW nm))).length) :=
    splitG_enc (by simp) (fun x hx => by
      rcases List.mem_cons.1 hx with rfl | hx
      · exact startP_clean st
      · obtain ⟨f, hf, rfl⟩ := List.mem_map.1 hx
        exact line_clean F (hg f hf)) (by omega) (by rw [List.length_cons, List.length_map]; omega) r
  have e1 : cutG 32 (startP st) = (verL, d3 (stN st) ++ 32 :: reasonL (stN st)) := cutG_at (by decide) _
  have e2 : statusN (d3 (stN st) ++ 32 :: reasonL (stN st)) = st.toNat := by rw [statusN_d3 _ (by omega) (by omega), hsn]
  have hl : respL nm vl (startP st :: fs.map (lineW nm)) = (0, st.toNat, fs.map fun f => (lw f.1, f.2)) := by
    unfold respL
    simp only [List.headD_cons, List.tail_cons, e1, e2, readFs_lines F hg]
    rw [if_neg (show ¬ verL ≠ verL by simp), if_neg (show ¬ st.toNat = 0 by omega)]
    simp
  unfold readP
  rw [hs']
  simp only [hl]
  simp
end
end Go.Proofs.YthjkneifffdglaaDoor
