/- Framing, in lists of bytes: the frame of the lengths and codings of a message, the careless readings; what is accepted is read alike by both. -/
import Derived.Test.YthjkneifffdglaaDoorGFlk
import Derived.Test.YthjkneifffdglaaDoorList
namespace Go.Proofs.YthjkneifffdglaaDoor

def fdB (c : UInt8) : Bool := decide (48 ≤ c.toNat) && decide (c.toNat ≤ 57)
def fnV (l : List UInt8) : Nat := l.foldl (fun n c => 10 * n + (c.toNat - 48)) 0
/-- A number of 1 to 15 digits. -/
def numO (l : List UInt8) : Option Nat := if 1 ≤ l.length ∧ l.length ≤ 15 ∧ l.all fdB = true then some (fnV l) else none
def chunkedL : List UInt8 := [99, 104, 117, 110, 107, 101, 100]
/-- The elements of all values. -/
def elemsF : List (List UInt8) → Option (List (List UInt8))
  | [] => some []
  | v :: r => (listO v).bind fun a => (elemsF r).map (a ++ ·)
/-- The frame of the values of content-length and of transfer-encoding: the error's number, the kind, the length. -/
def ofS (ls cs : List (List UInt8)) : Nat × Nat × Nat :=
  if ls ≠ [] ∧ cs ≠ [] then (31, 0, 0)
  else if cs ≠ [] then match elemsF cs with
    | some [c] => if lowS c = chunkedL then (0, 3, 0) else (32, 0, 0)
    | _ => (32, 0, 0)
  else if ls = [] then (0, 1, 0)
  else match elemsF ls with
    | some (e :: r) => match numO e with
      | none => (30, 0, 0)
      | some n => if r.all (fun x => decide (x = e)) = true then (if 65536 < n then (5, 0, 0) else (0, 2, n)) else (30, 0, 0)
    | _ => (30, 0, 0)
/-- The parts of all values between commas, trimmed. -/
def cutsL (vs : List (List UInt8)) : List (List UInt8) := (vs.flatMap (cutL 44)).map trimB
/-- What stands before the first semicolon, trimmed. -/
def befS (s : List UInt8) : List UInt8 := if 59 ∈ s then trimB (s.takeWhile (· ≠ 59)) else s
def firstN : List (List UInt8) → Option Nat
  | [] => none
  | p :: r => match numO p with
    | some n => some n
    | none => firstN r
def isChunked (ps : List (List UInt8)) : Bool := ps.any fun p => decide (lowS (befS p) = chunkedL)
/-- What a careless reader takes: the kind, the length. -/
def lenientS (ls cs : List (List UInt8)) (first : Bool) : Nat × Nat :=
  if isChunked (cutsL cs) = true ∧ (first = false ∨ firstN (cutsL ls) = none) then (3, 0)
  else match firstN (cutsL ls) with
    | some n => (2, n)
    | none => (1, 0)
theorem numO_nil : numO [] = none := rfl
theorem numO_digits {l : List UInt8} {n : Nat} (h : numO l = some n) : 1 ≤ l.length ∧ l.length ≤ 15 ∧ l.all fdB = true ∧ n = fnV l := by
  unfold numO at h
  split at h
  · rename_i hh; exact ⟨hh.1, hh.2.1, hh.2.2, (Option.some.inj h).symm⟩
  · cases h
/-- Every byte of a text but its separators stands in a part. -/
theorem scan_mem (b : UInt8) : ∀ (l : List UInt8) (st : St) (cur : List UInt8) (ps : List (List UInt8)), scan b st cur l = some ps → ∀ c, c ≠ b → (c ∈ cur ∨ c ∈ l) → ∃ p ∈ ps, c ∈ p := by
  intro l
  induction l with
  | nil =>
    intro st cur ps h c _ hm
    cases st with
    | out =>
      rw [scan] at h
      obtain rfl := Option.some.inj h
      rcases hm with hm | hm
      · exact ⟨cur, by simp, hm⟩
      · cases hm
    | inn => rw [scan] at h; cases h
    | esc => rw [scan] at h; cases h
  | cons d r ih =>
    intro st cur ps h c hc hm
    have move : (c ∈ cur ∨ c ∈ d :: r) → (c ∈ cur ++ [d] ∨ c ∈ r) := by
      rintro (hh | hh)
      · left; simp [hh]
      · rcases List.mem_cons.1 hh with rfl | hh
        · left; simp
        · exact .inr hh
    cases st with
    | out =>
      rw [scan] at h
      by_cases h1 : d = 34
      · rw [if_pos h1] at h; exact ih _ _ _ h c hc (move hm)
      · rw [if_neg h1] at h
        by_cases h2 : d = b
        · rw [if_pos h2] at h
          cases h3 : scan b .out [] r with
          | none => rw [h3] at h; cases h
          | some qs =>
            rw [h3] at h
            obtain rfl := Option.some.inj h
            rcases hm with hm | hm
            · exact ⟨cur, by simp, hm⟩
            · rcases List.mem_cons.1 hm with rfl | hm
              · exact absurd h2 hc
              · obtain ⟨p, hp, hcp⟩ := ih _ _ _ h3 c hc (.inr hm)
                exact ⟨p, by simp [hp], hcp⟩
        · rw [if_neg h2] at h; exact ih _ _ _ h c hc (move hm)
    | inn =>
      rw [scan] at h
      by_cases h1 : d = 34
      · rw [if_pos h1] at h; exact ih _ _ _ h c hc (move hm)
      · rw [if_neg h1] at h
        by_cases h2 : d = 92
        · rw [if_pos h2] at h; exact ih _ _ _ h c hc (move hm)
        · rw [if_neg h2] at h; exact ih _ _ _ h c hc (move hm)
    | esc => rw [scan] at h; exact ih _ _ _ h c hc (move hm)
/-- A text without quotation marks is cut at each separator. -/
theorem scan_plain (b : UInt8) : ∀ (l : List UInt8), 34 ∉ l → ∀ cur, ∃ p r, cutL b l = p :: r ∧ scan b .out cur l = some ((cur ++ p) :: r) := by
  intro l
  induction l with
  | nil => intro _ cur; exact ⟨[], [], rfl, by rw [scan]; simp⟩
  | cons d t ih =>
    intro hq cur
    simp only [List.mem_cons, not_or] at hq
    by_cases h2 : d = b
    · obtain ⟨p, r, e1, e2⟩ := ih hq.2 []
      exact ⟨[], p :: r, by rw [cutL, if_pos h2, e1], by rw [scan, if_neg (fun e => hq.1 e.symm), if_pos h2, e2]; simp⟩
    · obtain ⟨p, r, e1, e2⟩ := ih hq.2 (cur ++ [d])
      exact ⟨d :: p, r, by rw [cutL, if_neg h2, e1], by rw [scan, if_neg (fun e => hq.1 e.symm), if_neg h2, e2]; simp⟩
theorem mem_tL {c : UInt8} (hb : blank c = false) : ∀ {l : List UInt8}, c ∈ l → c ∈ tL l := by
  intro l
  induction l with
  | nil => intro h; exact h
  | cons d t ih =>
    intro h
    rw [tL_cons]
    by_cases hd : blank d = true
    · rw [if_pos hd]
      rcases List.mem_cons.1 h with rfl | h
      · rw [hd] at hb; cases hb
      · exact ih h
    · rw [if_neg hd]; exact h
theorem mem_tR {c : UInt8} (hb : blank c = false) : ∀ {l : List UInt8}, c ∈ l → c ∈ tR l := by
  intro l
  induction l with
  | nil => intro h; exact h
  | cons d t ih =>
    intro h
    rw [tR_cons]
    by_cases hd : tR t = [] ∧ blank d = true
    · exfalso
      rcases List.mem_cons.1 h with rfl | h
      · rw [hd.2] at hb; cases hb
      · have := ih h; rw [hd.1] at this; cases this
    · rw [if_neg hd]
      rcases List.mem_cons.1 h with rfl | h
      · simp
      · simp [ih h]
theorem mem_trim {c : UInt8} (hb : blank c = false) {l : List UInt8} (h : c ∈ l) : c ∈ trimB l := by rw [trimB_eq]; exact mem_tR hb (mem_tL hb h)
/-- A list whose elements bear no quotation mark: its elements are its parts between commas, but the empty ones. -/
theorem listO_plain {v : List UInt8} {es : List (List UInt8)} (h : listO v = some es) (hq : ∀ e ∈ es, 34 ∉ e) : es = ((cutL 44 v).map trimB).filter (!·.isEmpty) := by
  unfold listO partsO at h
  by_cases hc : ctlS v = true
  · rw [if_pos hc] at h; cases h
  · rw [if_neg hc] at h
    cases hs : scan 44 .out [] v with
    | none => rw [hs] at h; cases h
    | some ps =>
      rw [hs] at h
      obtain rfl := Option.some.inj h
      have hv : 34 ∉ v := by
        intro hm
        obtain ⟨p, hp, hcp⟩ := scan_mem 44 v .out [] ps hs 34 (by decide) (.inr hm)
        have ht := mem_trim (by decide) hcp
        refine hq (trimB p) ?_ ht
        rw [List.mem_filter]
        refine ⟨List.mem_map.2 ⟨p, hp, rfl⟩, ?_⟩
        cases hh : trimB p with
        | nil => rw [hh] at ht; cases ht
        | cons a b => rfl
      obtain ⟨p, r, e1, e2⟩ := scan_plain 44 v hv []
      rw [hs] at e2
      rw [Option.some.inj e2, e1]; simp
theorem elemsF_plain : ∀ {vs : List (List UInt8)} {es : List (List UInt8)}, elemsF vs = some es → (∀ e ∈ es, 34 ∉ e) → es = (cutsL vs).filter (!·.isEmpty) := by
  intro vs
  induction vs with
  | nil => intro es h _; obtain rfl := Option.some.inj h; rfl
  | cons v r ih =>
    intro es h hq
    rw [elemsF] at h
    cases h1 : listO v with
    | none => rw [h1] at h; cases h
    | some a =>
      rw [h1] at h
      cases h2 : elemsF r with
      | none => rw [h2] at h; cases h
      | some b =>
        rw [h2] at h
        obtain rfl := Option.some.inj h
        have e1 := listO_plain h1 fun e he => hq e (by simp [he])
        have e2 := ih h2 fun e he => hq e (by simp [he])
        unfold cutsL at e2 ⊢
        rw [List.flatMap_cons, List.map_append, List.filter_append, ← e1, ← e2]
theorem firstN_filter : ∀ (ps : List (List UInt8)), firstN (ps.filter (!·.isEmpty)) = firstN ps := by
  intro ps
  induction ps with
  | nil => rfl
  | cons p r ih =>
    cases p with
    | nil => rw [List.filter_cons_of_neg (by simp), ih]; rfl
    | cons c t => rw [List.filter_cons_of_pos (by simp), firstN, firstN, ih]
theorem isChunked_filter : ∀ (ps : List (List UInt8)), isChunked (ps.filter (!·.isEmpty)) = isChunked ps := by
  intro ps
  unfold isChunked
  induction ps with
  | nil => rfl
  | cons p r ih =>
    cases p with
    | nil =>
      rw [List.filter_cons_of_neg (by simp), ih, List.any_cons]
      have : decide (lowS (befS []) = chunkedL) = false := by decide
      rw [this, Bool.false_or]
    | cons c t => rw [List.filter_cons_of_pos (by simp), List.any_cons, List.any_cons, ih]
theorem digits_noq {l : List UInt8} (h : l.all fdB = true) : 34 ∉ l := by
  rw [List.all_eq_true] at h
  intro hm
  exact absurd (h 34 hm) (by decide)
theorem low_mem {c : UInt8} (hc : lowB c = c) {l : List UInt8} (h : c ∈ l) : c ∈ lowS l := by unfold lowS; rw [List.mem_map]; exact ⟨c, h, hc⟩
theorem chunked_chars {c : List UInt8} (h : lowS c = chunkedL) : 34 ∉ c ∧ 59 ∉ c := by
  constructor
  · intro hm; have := low_mem (c := 34) (by decide) hm; rw [h] at this; exact absurd this (by decide)
  · intro hm; have := low_mem (c := 59) (by decide) hm; rw [h] at this; exact absurd this (by decide)
theorem cutsL_nil : cutsL [] = [] := rfl
/-- What is accepted is read alike by both careless readers. -/
theorem ofS_agrees {ls cs : List (List UInt8)} {k n : Nat} (h : ofS ls cs = (0, k, n)) : (∀ b, lenientS ls cs b = (k, n)) ∧ 1 ≤ k ∧ k ≤ 3 ∧ n ≤ 65536 := by
  unfold ofS at h
  by_cases h1 : ls ≠ [] ∧ cs ≠ []
  · rw [if_pos h1] at h; exact absurd (congrArg Prod.fst h) (by simp)
  rw [if_neg h1] at h
  by_cases h2 : cs ≠ []
  · rw [if_pos h2] at h
    have hls : ls = [] := by
      apply Classical.byContradiction
      intro hh; exact h1 ⟨hh, h2⟩
    subst hls
    cases h3 : elemsF cs with
    | none => rw [h3] at h; exact absurd (congrArg Prod.fst h) (by simp)
    | some es =>
      rw [h3] at h
      match es, h3, h with
      | [], _, h => exact absurd (congrArg Prod.fst h) (by simp)
      | [c], h3, h =>
        by_cases h4 : lowS c = chunkedL
        · simp only [if_pos h4, Prod.mk.injEq, true_and] at h
          obtain ⟨rfl, rfl⟩ := h
          obtain ⟨q1, q2⟩ := chunked_chars h4
          have e := elemsF_plain h3 (by intro e he; rw [List.mem_singleton] at he; rw [he]; exact q1)
          have hch : isChunked (cutsL cs) = true := by
            rw [← isChunked_filter, ← e]
            unfold isChunked befS
            simp [q2, h4]
          refine ⟨fun b => ?_, by omega, by omega, by omega⟩
          unfold lenientS
          rw [hch, cutsL_nil, if_pos ⟨rfl, .inr rfl⟩]
        · simp only [if_neg h4] at h; exact absurd (congrArg Prod.fst h) (by simp)
      | _ :: _ :: _, _, h => exact absurd (congrArg Prod.fst h) (by simp)
  · rw [if_neg h2] at h
    have hcs : cs = [] := by simpa using h2
    subst hcs
    have hch : isChunked (cutsL []) = false := rfl
    by_cases h3 : ls = []
    · rw [if_pos h3] at h
      simp only [Prod.mk.injEq, true_and] at h
      obtain ⟨rfl, rfl⟩ := h
      subst h3
      refine ⟨fun b => ?_, by omega, by omega, by omega⟩
      unfold lenientS
      rw [hch, if_neg (by simp)]; rfl
    · rw [if_neg h3] at h
      cases h4 : elemsF ls with
      | none => rw [h4] at h; exact absurd (congrArg Prod.fst h) (by simp)
      | some es =>
        rw [h4] at h
        cases es with
        | nil => exact absurd (congrArg Prod.fst h) (by simp)
        | cons e r =>
          simp only at h
          cases h5 : numO e with
          | none => rw [h5] at h; exact absurd (congrArg Prod.fst h) (by simp)
          | some m =>
            rw [h5] at h
            simp only at h
            by_cases h6 : r.all (fun x => decide (x = e)) = true
            · rw [if_pos h6] at h
              by_cases h7 : 65536 < m
              · rw [if_pos h7] at h; exact absurd (congrArg Prod.fst h) (by simp)
              · rw [if_neg h7] at h
                simp only [Prod.mk.injEq, true_and] at h
                obtain ⟨rfl, rfl⟩ := h
                have hd := (numO_digits h5).2.2.1
                have hq : ∀ x ∈ e :: r, 34 ∉ x := by
                  intro x hx
                  rcases List.mem_cons.1 hx with rfl | hx
                  · exact digits_noq hd
                  · have := List.all_eq_true.1 h6 x hx
                    rw [decide_eq_true_eq] at this
                    rw [this]; exact digits_noq hd
                have ee := elemsF_plain h4 hq
                have hf : firstN (cutsL ls) = some m := by
                  rw [← firstN_filter, ← ee, firstN, h5]
                refine ⟨fun b => ?_, by omega, by omega, by omega⟩
                unfold lenientS
                rw [hch, if_neg (by simp), hf]
            · rw [if_neg h6] at h; exact absurd (congrArg Prod.fst h) (by simp)
theorem digit_fin : ∀ n : Fin 256, fdB (UInt8.ofNat n.val) = true → UInt8.ofNat n.val ≠ 44 ∧ UInt8.ofNat n.val ≠ 34 ∧ blank (UInt8.ofNat n.val) = false ∧ ctlB (UInt8.ofNat n.val) = false := by decide +kernel
theorem digit_facts {c : UInt8} (h : fdB c = true) : c ≠ 44 ∧ c ≠ 34 ∧ blank c = false ∧ ctlB c = false := by
  have := digit_fin ⟨c.toNat, UInt8.toNat_lt c⟩ (by rw [UInt8.ofNat_toNat]; exact h)
  simpa only [UInt8.ofNat_toNat] using this
theorem digits_cut {d : List UInt8} (h : d.all fdB = true) : cutL 44 d = [d] ∧ trimB d = d := by
  rw [List.all_eq_true] at h
  exact ⟨cutL_none fun hm => (digit_facts (h 44 hm)).1 rfl, trimB_none fun c hc => (digit_facts (h c hc)).2.2.1⟩
/-- A length beside a coding, a coding beside a length: refused, and read in two ways. -/
theorem ofS_smuggle_length {ls cs : List (List UInt8)} {n : Nat} (h : ofS ls cs = (0, 3, n)) {d : List UInt8} {m : Nat} (hd : numO d = some m) : ls = [] ∧ ofS [d] cs = (31, 0, 0) ∧ lenientS [d] cs true = (2, m) ∧ lenientS [d] cs false = (3, 0) := by
  have ha := (ofS_agrees h).1
  have hcs : cs ≠ [] := by
    rintro rfl
    unfold ofS at h
    rw [if_neg (by simp), if_neg (by simp)] at h
    by_cases h3 : ls = []
    · rw [if_pos h3] at h; simp at h
    · rw [if_neg h3] at h
      repeat' split at h
      all_goals simp at h
  have hls : ls = [] := by
    apply Classical.byContradiction
    intro hh
    unfold ofS at h
    rw [if_pos ⟨hh, hcs⟩] at h
    simp at h
  subst hls
  have hch : isChunked (cutsL cs) = true := by
    have h0 := ha false
    unfold lenientS at h0
    apply Classical.byContradiction
    intro hh
    rw [if_neg (by intro e; exact hh e.1)] at h0
    simp [cutsL_nil, firstN] at h0
  obtain ⟨e1, e2⟩ := digits_cut (numO_digits hd).2.2.1
  have hf : firstN (cutsL [d]) = some m := by
    unfold cutsL
    simp only [List.flatMap_cons, List.flatMap_nil, List.append_nil, e1, List.map_cons, List.map_nil, e2, firstN, hd]
  refine ⟨rfl, ?_, ?_, ?_⟩
  · unfold ofS; rw [if_pos ⟨by simp, hcs⟩]
  · unfold lenientS; rw [hf, if_neg (by simp)]
  · unfold lenientS; rw [hch, if_pos ⟨rfl, .inl rfl⟩]
theorem chunked_cut : isChunked (cutsL [chunkedL]) = true := by
  have e1 : cutL 44 chunkedL = [chunkedL] := by decide
  have e2 : trimB chunkedL = chunkedL := trimB_none (by decide)
  unfold cutsL isChunked
  simp only [List.flatMap_cons, List.flatMap_nil, List.append_nil, e1, List.map_cons, List.map_nil, e2]
  decide
theorem ofS_smuggle_coding {ls cs : List (List UInt8)} {n : Nat} (h : ofS ls cs = (0, 2, n)) : cs = [] ∧ ofS ls [chunkedL] = (31, 0, 0) ∧ lenientS ls [chunkedL] true = (2, n) ∧ lenientS ls [chunkedL] false = (3, 0) := by
  have ha := (ofS_agrees h).1
  have hls : ls ≠ [] := by
    rintro rfl
    unfold ofS at h
    rw [if_neg (by simp)] at h
    by_cases h3 : cs ≠ []
    · rw [if_pos h3] at h
      repeat' split at h
      all_goals simp at h
    · rw [if_neg h3, if_pos rfl] at h; simp at h
  have hcs : cs = [] := by
    apply Classical.byContradiction
    intro hh
    unfold ofS at h
    rw [if_pos ⟨hls, hh⟩] at h
    simp at h
  subst hcs
  have hf : firstN (cutsL ls) = some n := by
    have h0 := ha true
    unfold lenientS at h0
    rw [show isChunked (cutsL []) = false from rfl, if_neg (by simp)] at h0
    cases hh : firstN (cutsL ls) with
    | none => rw [hh] at h0; simp at h0
    | some m => rw [hh] at h0; simp only [Prod.mk.injEq, true_and] at h0; rw [h0]
  refine ⟨rfl, ?_, ?_, ?_⟩
  · unfold ofS; rw [if_pos ⟨hls, by simp⟩]
  · unfold lenientS; rw [hf, if_neg (by simp)]
  · unfold lenientS; rw [chunked_cut, if_pos ⟨rfl, .inl rfl⟩]
/-- A value that repeats one number: its elements are that number, once at least. -/
def Reps (d v : List UInt8) : Prop := (∀ c ∈ v, c ≠ 34 ∧ ctlB c = false) ∧ ∃ k, (cutL 44 v).map trimB = List.replicate (k + 1) d
theorem reps_one {d : List UInt8} (h : d.all fdB = true) : Reps d d := by
  obtain ⟨e1, e2⟩ := digits_cut h
  rw [List.all_eq_true] at h
  exact ⟨fun c hc => ⟨(digit_facts (h c hc)).2.1, (digit_facts (h c hc)).2.2.2⟩, 0, by rw [e1, List.map_cons, e2]; rfl⟩
theorem trimB_tail (c : UInt8) (hc : blank c = true) (l : List UInt8) : trimB (l ++ [c]) = trimB l := by
  rw [trimB_eq, trimB_eq, tR_tL, tR_snoc, if_pos hc, ← tR_tL]
theorem reps_comma {d v : List UInt8} (hd : d.all fdB = true) (h : Reps d v) : Reps d (v ++ 44 :: 32 :: d) := by
  obtain ⟨h1, k, h2⟩ := h
  obtain ⟨g1, _⟩ := reps_one hd
  obtain ⟨e1, e2⟩ := digits_cut hd
  have e3 : cutL 44 (32 :: d) = [32 :: d] := by rw [cutL, if_neg (by decide), e1]
  refine ⟨?_, k + 1, ?_⟩
  · intro c hc
    simp only [List.mem_append, List.mem_cons] at hc
    rcases hc with hc | rfl | rfl | hc
    · exact h1 c hc
    · decide
    · decide
    · exact g1 c hc
  · rw [cutL_app, List.map_append, h2, e3, List.map_cons, trimB_blank 32 (by decide), e2, List.map_nil, ← List.replicate_succ']
theorem reps_tab {d v : List UInt8} (hd : d.all fdB = true) (h : Reps d v) : Reps d (v ++ 32 :: 44 :: 9 :: d) := by
  obtain ⟨h1, k, h2⟩ := h
  obtain ⟨g1, _⟩ := reps_one hd
  obtain ⟨e1, e2⟩ := digits_cut hd
  have e3 : cutL 44 (9 :: d) = [9 :: d] := by rw [cutL, if_neg (by decide), e1]
  have e4 : ∀ (l : List UInt8), ∃ a p, cutL 44 l = a ++ [p] ∧ cutL 44 (l ++ [32]) = a ++ [p ++ [32]] := by
    intro l
    induction l with
    | nil => exact ⟨[], [], rfl, rfl⟩
    | cons c t ih =>
      obtain ⟨a, p, i1, i2⟩ := ih
      by_cases hc : c = 44
      · exact ⟨[] :: a, p, by rw [cutL, if_pos hc, i1]; rfl, by rw [List.cons_append, cutL, if_pos hc, i2]; rfl⟩
      · cases a with
        | nil => exact ⟨[], c :: p, by rw [cutL, if_neg hc, i1]; rfl, by rw [List.cons_append, cutL, if_neg hc, i2]; rfl⟩
        | cons x xs => exact ⟨(c :: x) :: xs, p, by rw [cutL, if_neg hc, i1]; rfl, by rw [List.cons_append, cutL, if_neg hc, i2]; rfl⟩
  obtain ⟨a, p, i1, i2⟩ := e4 v
  refine ⟨?_, k + 1, ?_⟩
  · intro c hc
    simp only [List.mem_append, List.mem_cons] at hc
    rcases hc with hc | rfl | rfl | rfl | hc
    · exact h1 c hc
    · decide
    · decide
    · decide
    · exact g1 c hc
  · have e5 : v ++ 32 :: 44 :: 9 :: d = (v ++ [32]) ++ 44 :: (9 :: d) := by simp
    have e6 : (cutL 44 (v ++ [32])).map trimB = (cutL 44 v).map trimB := by
      rw [i2, i1, List.map_append, List.map_append, List.map_cons, List.map_cons, trimB_tail 32 (by decide)]
    rw [e5, cutL_app, List.map_append, e6, h2, e3, List.map_cons, trimB_blank 9 (by decide), e2, List.map_nil, ← List.replicate_succ']
theorem reps_list {d v : List UInt8} (hd : d.all fdB = true) (hne : d ≠ []) (h : Reps d v) : ∃ k, listO v = some (List.replicate (k + 1) d) := by
  obtain ⟨h1, k, h2⟩ := h
  refine ⟨k, ?_⟩
  have hv : 34 ∉ v := fun hm => (h1 34 hm).1 rfl
  obtain ⟨p, r, e1, e2⟩ := scan_plain 44 v hv []
  have hc : ctlS v = false := by unfold ctlS; rw [List.any_eq_false]; intro c hc; simp [(h1 c hc).2]
  unfold listO partsO
  rw [hc, e2]
  rw [e1] at h2
  show some (((([] ++ p) :: r).map trimB).filter (!·.isEmpty)) = _
  rw [List.nil_append, h2]
  congr 1
  rw [List.filter_eq_self]
  intro x hx
  rw [List.eq_of_mem_replicate hx]
  cases d with
  | nil => exact absurd rfl hne
  | cons a b => rfl
end Go.Proofs.YthjkneifffdglaaDoor
