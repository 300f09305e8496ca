import Derived.Test.YtgbcpheccaldlaaGreatDoorPa4
/- Heads of messages as lists of bytes: prefixes, and a byte inserted. -/
namespace Go.Proofs.YtgbcpheccaldlaaGreatDoor

theorem end4_some : ∀ {l : List UInt8} {n : Nat}, end4 l = some n → 4 ≤ n ∧ n ≤ l.length := by
  intro l
  induction l with
  | nil => intro n h; cases h
  | cons c r ih =>
    intro n h
    rw [end4] at h
    by_cases hc : c = 13 ∧ r.take 3 = [10, 13, 10]
    · rw [if_pos hc] at h
      obtain rfl := Option.some.inj h
      have := congrArg List.length hc.2
      simp at this ⊢
      omega
    · rw [if_neg hc] at h
      cases h2 : end4 r with
      | none => rw [h2] at h; cases h
      | some m =>
        rw [h2] at h
        obtain rfl := Option.some.inj h
        have := ih h2
        simp; omega
theorem end4_small {l : List UInt8} (h : l.length < 4) : end4 l = none := by
  cases h2 : end4 l with
  | none => rfl
  | some n => have := end4_some h2; omega
theorem end4_pre : ∀ {l : List UInt8} {n : Nat}, end4 l = some n → ∀ r, end4 (l.take n ++ r) = some n := by
  intro l
  induction l with
  | nil => intro n h; cases h
  | cons c t ih =>
    intro n h r
    rw [end4] at h
    by_cases hc : c = 13 ∧ t.take 3 = [10, 13, 10]
    · rw [if_pos hc] at h
      obtain rfl := Option.some.inj h
      obtain ⟨rfl, h3⟩ := hc
      rw [List.take_succ_cons, h3]
      exact end4_hit r
    · rw [if_neg hc] at h
      cases h2 : end4 t with
      | none => rw [h2] at h; cases h
      | some m =>
        rw [h2] at h
        obtain rfl := Option.some.inj h
        have hm := end4_some h2
        have e : (t.take m ++ r).take 3 = t.take 3 := by
          rw [List.take_append_of_le_length (by rw [List.length_take]; omega), List.take_take, Nat.min_eq_left (by omega)]
        show end4 ((c :: t).take (m + 1) ++ r) = _
        rw [List.take_succ_cons, List.cons_append, end4, if_neg (by rw [e]; exact hc), ih h2]; rfl
theorem end4_short : ∀ {l : List UInt8} {n i : Nat}, end4 l = some n → i < n → end4 (l.take i) = none := by
  intro l
  induction l with
  | nil => intro n i h; cases h
  | cons c t ih =>
    intro n i h hi
    rw [end4] at h
    cases i with
    | zero => rfl
    | succ i =>
      by_cases hc : c = 13 ∧ t.take 3 = [10, 13, 10]
      · rw [if_pos hc] at h
        obtain rfl := Option.some.inj h
        exact end4_small (by rw [List.length_take]; omega)
      · rw [if_neg hc] at h
        cases h2 : end4 t with
        | none => rw [h2] at h; cases h
        | some m =>
          rw [h2] at h
          obtain rfl := Option.some.inj h
          rw [List.take_succ_cons, end4, if_neg, ih h2 (by simp at hi; omega)]
          · rfl
          · rintro ⟨h13, h3⟩
            apply hc
            refine ⟨h13, ?_⟩
            rw [List.take_take] at h3
            by_cases hi3 : 3 ≤ i
            · rwa [Nat.min_eq_left hi3] at h3
            · have := congrArg List.length h3
              rw [List.length_take] at this
              simp at this; omega
/-- No bare byte, position by position. -/
theorem bareF_iff : ∀ (l : List UInt8) (p : UInt8), bareF p l = false ↔ ((∀ i : Nat, l[i]? ≠ some 0) ∧ (∀ i : Nat, l[i]? = some 13 → l[i + 1]? = some 10) ∧ (∀ i : Nat, l[i + 1]? = some 10 → l[i]? = some 13) ∧ (l[0]? = some 10 → p = 13)) := by
  intro l
  induction l with
  | nil => intro p; simp [bareF]
  | cons c r ih =>
    intro p
    rw [bareF]
    simp only [Bool.or_eq_false_iff, Bool.and_eq_false_iff, decide_eq_false_iff_not, Decidable.not_not, ih c]
    have hd : r.head? = r[0]? := List.head?_eq_getElem?
    constructor
    · rintro ⟨⟨⟨h0, h13⟩, h10⟩, a, b, d, e⟩
      refine ⟨?_, ?_, ?_, ?_⟩
      · intro i; cases i with
        | zero => simp only [List.getElem?_cons_zero]; intro h; exact h0 (Option.some.inj h)
        | succ i => simp only [List.getElem?_cons_succ]; exact a i
      · intro i; cases i with
        | zero =>
          simp only [List.getElem?_cons_zero, List.getElem?_cons_succ]
          intro h
          rcases h13 with h2 | h2
          · exact absurd (Option.some.inj h) h2
          · rw [← hd]; exact h2
        | succ i => simp only [List.getElem?_cons_succ]; exact b i
      · intro i; cases i with
        | zero => simp only [List.getElem?_cons_zero, List.getElem?_cons_succ]; intro h; rw [e h]
        | succ i => simp only [List.getElem?_cons_succ]; exact d i
      · simp only [List.getElem?_cons_zero]
        intro h
        rcases h10 with h2 | h2
        · exact absurd (Option.some.inj h) h2
        · exact h2
    · rintro ⟨a, b, d, e⟩
      refine ⟨⟨⟨?_, ?_⟩, ?_⟩, ?_, ?_, ?_, ?_⟩
      · intro h; exact a 0 (by simp [h])
      · by_cases h : c = 13
        · right; rw [hd]; have := b 0 (by simp [h]); simpa using this
        · exact .inl h
      · by_cases h : c = 10
        · right; exact e (by simp [h])
        · exact .inl h
      · intro i; have := a (i + 1); simpa using this
      · intro i h; have := b (i + 1) (by simpa using h); simpa using this
      · intro i h; have := d (i + 1) (by simpa using h); simpa using this
      · intro h; have := d 0 (by simpa using h); simpa using this
theorem endO_ne {h : List UInt8} (h2 : h.take 2 ≠ [13, 10]) (r : List UInt8) (hl : 2 ≤ h.length) : endO (h ++ r) = end4 (h ++ r) := by
  unfold endO; rw [if_neg]; rw [List.take_append_of_le_length hl]; exact h2
/-- Where the head of h ends, with a byte inserted: not before it; and then it is bare, unless it is the last LF again. -/
theorem insert_bare {h : List UInt8} {i n' : Nat} {c : UInt8} (he : end4 h = some h.length) (hb : bareF 0 h = false) (hi : i < h.length) (hc : c = 0 ∨ c = 13 ∨ c = 10) (hx : ¬ (c = 10 ∧ i + 1 = h.length))
    (hn : end4 (h.take i ++ c :: h.drop i) = some n') : bareF 0 ((h.take i ++ c :: h.drop i).take n') = true := by
  have hs := end4_some he
  have hti : (h.take i).length = i := by rw [List.length_take]; omega
  have hn' := end4_some hn
  have hin : i < n' := by
    apply Classical.byContradiction
    intro hh
    have e1 := end4_pre hn []
    rw [List.append_nil, List.take_append_of_le_length (by omega), List.take_take, Nat.min_eq_left (by omega)] at e1
    rw [end4_short he (show n' < h.length by omega)] at e1
    cases e1
  obtain ⟨z0, z13, z10, zf⟩ := (bareF_iff h 0).1 hb
  obtain ⟨s', hs'⟩ : ∃ s', s' = h.take i ++ c :: h.drop i := ⟨_, rfl⟩
  have gl : ∀ j, j < i → s'[j]? = h[j]? := fun j hj => by
    rw [hs', List.getElem?_append_left (by omega), List.getElem?_take_of_lt hj]
  have gi : s'[i]? = some c := by rw [hs', List.getElem?_append_right (by omega), hti, Nat.sub_self]; rfl
  have gr : ∀ j, s'[i + 1 + j]? = h[i + j]? := fun j => by
    rw [hs', List.getElem?_append_right (by omega), hti, show i + 1 + j - i = j + 1 by omega, List.getElem?_cons_succ, List.getElem?_drop]
  rw [← hs'] at hn ⊢
  rw [← hs'] at hn'
  have gt : ∀ j, j < n' → (s'.take n')[j]? = s'[j]? := fun j hj => List.getElem?_take_of_lt hj
  apply Classical.byContradiction
  intro hh
  have hf : bareF 0 (s'.take n') = false := by simpa using hh
  obtain ⟨y0, y13, y10, yf⟩ := (bareF_iff _ 0).1 hf
  have hci : (s'.take n')[i]? = some c := (gt i hin).trans gi
  rcases hc with rfl | rfl | rfl
  · exact y0 i hci
  · have e1 := y13 i hci
    have hlt : i + 1 < n' := by
      apply Classical.byContradiction
      intro hk
      rw [List.getElem?_eq_none (by rw [List.length_take]; omega)] at e1
      cases e1
    rw [gt _ hlt] at e1
    have e2 := gr 0
    rw [Nat.add_zero, Nat.add_zero] at e2
    rw [e2] at e1
    cases i with
    | zero => have := zf e1; exact absurd this (by decide)
    | succ i =>
      have e3 := z10 i e1
      have e4 := y13 i (by rw [gt i (by omega), gl i (by omega)]; exact e3)
      rw [hci] at e4
      exact absurd (Option.some.inj e4) (by decide)
  · cases i with
    | zero => have := yf hci; exact absurd this (by decide)
    | succ i =>
      have e1 := y10 i hci
      rw [gt i (by omega), gl i (by omega)] at e1
      have e2 := z13 i e1
      have e3 := gr 0
      rw [Nat.add_zero, Nat.add_zero, e2] at e3
      by_cases hlt : i + 1 + 1 < n'
      · have e4 := y10 (i + 1) (by rw [gt _ hlt]; exact e3)
        rw [hci] at e4
        exact absurd (Option.some.inj e4) (by decide)
      · have hne : n' = i + 2 := by omega
        subst hne
        have e5 : s'.take (i + 2) = h.take (i + 2) := by
          apply List.ext_getElem?
          intro j
          by_cases hj : j < i + 1
          · rw [gt j (by omega), gl j hj, List.getElem?_take_of_lt (by omega)]
          · by_cases hj2 : j = i + 1
            · subst hj2; rw [hci, List.getElem?_take_of_lt (by omega)]; exact e2.symm
            · rw [List.getElem?_eq_none (by rw [List.length_take]; omega), List.getElem?_eq_none (by rw [List.length_take]; omega)]
        have e6 := end4_pre hn []
        rw [List.append_nil, e5] at e6
        by_cases hl : i + 2 < h.length
        · rw [end4_short he hl] at e6; cases e6
        · exact hx ⟨rfl, by omega⟩
end Go.Proofs.YtgbcpheccaldlaaGreatDoor

/- Reading and writing heads, in lists of bytes: requests. nm, vl, hs: what names, values and hosts are read as; lw: lower case. -/
namespace Go.Proofs.YtgbcpheccaldlaaGreatDoor

structure Flk (nm vl hs : List UInt8 → Option (List UInt8)) (lw : List UInt8 → List UInt8) : Prop where
  nm_lw : ∀ {x y}, nm x = some y → y = lw x
  nm_id : ∀ {x y}, nm x = some y → nm y = some y
  nm_ok : ∀ {x y}, nm x = some y → x ≠ [] ∧ ∀ c ∈ x, c ≠ 0 ∧ c ≠ 13 ∧ c ≠ 10 ∧ c ≠ 58 ∧ c ≠ 32 ∧ c ≠ 9
  vl_ok : ∀ {x y}, vl x = some y → Clean x
  vl_id : ∀ {x y}, vl x = some y → vl y = some y ∧ y.length ≤ x.length
  vl_sp : ∀ {y}, vl y = some y → vl (32 :: y) = some y
  hs_lw : ∀ {x y}, hs x = some y → y = lw x
  hs_id : ∀ {x y}, hs x = some y → hs y = some y
  hs_vl : ∀ {x y}, hs x = some y → vl y = some y
  lw_len : ∀ x, (lw x).length = x.length
  lw_id : ∀ x, lw (lw x) = lw x
/-- What stands before the first c, and behind it. -/
def cut1 (c : UInt8) : List UInt8 → Option (List UInt8 × List UInt8)
  | [] => none
  | x :: t => if x = c then some ([], t) else (cut1 c t).map fun p => (x :: p.1, p.2)
def cutG (c : UInt8) (l : List UInt8) : List UInt8 × List UInt8 := (cut1 c l).getD (l, [])
theorem cut1_at {c : UInt8} {a : List UInt8} (h : c ∉ a) (b : List UInt8) : cut1 c (a ++ c :: b) = some (a, b) := by
  induction a with
  | nil => rw [List.nil_append, cut1, if_pos rfl]
  | cons x t ih =>
    simp only [List.mem_cons, not_or] at h
    rw [List.cons_append, cut1, if_neg (fun e => h.1 e.symm), ih h.2]; rfl
theorem cut1_some {c : UInt8} : ∀ {l a b : List UInt8}, cut1 c l = some (a, b) → l = a ++ c :: b ∧ c ∉ a := by
  intro l
  induction l with
  | nil => intro a b h; cases h
  | cons x t ih =>
    intro a b h
    rw [cut1] at h
    by_cases hx : x = c
    · rw [if_pos hx] at h
      obtain ⟨rfl, rfl⟩ := Prod.mk.inj (Option.some.inj h)
      exact ⟨by rw [hx]; rfl, by simp⟩
    · rw [if_neg hx] at h
      cases h2 : cut1 c t with
      | none => rw [h2] at h; cases h
      | some p =>
        rw [h2] at h
        obtain ⟨rfl, rfl⟩ := Prod.mk.inj (Option.some.inj h)
        obtain ⟨e1, e2⟩ := ih h2
        exact ⟨by rw [e1]; rfl, by simp only [List.mem_cons, not_or]; exact ⟨fun e => hx e.symm, e2⟩⟩
def wsB (c : UInt8) : Bool := decide (c = 32) || decide (c = 9)
abbrev Fs := List (List UInt8 × List UInt8)
section
variable (nm vl hs : List UInt8 → Option (List UInt8)) (lw : List UInt8 → List UInt8)
/-- A header line, read: the error's number, or the field. -/
def readF (l : List UInt8) : Nat × (List UInt8 × List UInt8) :=
  if l.head?.any wsB = true then (23, [], [])
  else match cut1 58 l with
    | none => (25, [], [])
    | some (b, a) =>
      if b = [] then (25, [], [])
      else if b.any wsB = true then (24, [], [])
      else match nm b, vl a with
        | some y, some v => (0, y, v)
        | _, _ => (25, [], [])
def readFs : List (List UInt8) → Nat × Fs
  | [] => (0, [])
  | l :: r => if (readF nm vl l).1 ≠ 0 then ((readF nm vl l).1, []) else if (readFs r).1 ≠ 0 then ((readFs r).1, []) else (0, (readF nm vl l).2 :: (readFs r).2)
def hostN : List UInt8 := [104, 111, 115, 116]
/-- The fields with their hosts, and how many there are. -/
def hostF : Fs → Option (Fs × Nat)
  | [] => some ([], 0)
  | f :: r => if lw f.1 = hostN then (hs f.2).bind fun h => (hostF r).map fun p => ((f.1, h) :: p.1, p.2 + 1) else (hostF r).map fun p => (f :: p.1, p.2)
def hosted (fs : Fs) : Option Fs := (hostF hs lw fs).bind fun p => if p.2 = 1 then some p.1 else none
def verL : List UInt8 := [72, 84, 84, 80, 47, 49, 46, 49]
def methodB (m : List UInt8) : Bool := m.all (fun c => decide (65 ≤ c.toNat) && decide (c.toNat ≤ 90)) && decide (1 ≤ m.length) && decide (m.length ≤ 16)
def targetB (m t : List UInt8) : Bool := t.all (fun c => decide (33 ≤ c.toNat) && decide (c.toNat ≤ 126)) && decide (1 ≤ t.length) && decide (t.length ≤ 2048) && (decide (t.head? = some 47) || (decide (t = [42]) && decide (m = [79, 80, 84, 73, 79, 78, 83])))
/-- The lines of a head without the empty one, its length, and the error's number. -/
def splitG (s : List UInt8) : Nat × List (List UInt8) × Nat :=
  match endO s with
  | none => (if s.length < 8192 then 21 else 5, [], 0)
  | some n =>
    if 8192 < n ∨ 66 < (linesF [] (s.take n)).length then (5, [], 0)
    else if n = 2 ∨ bareF 0 (s.take n) = true then (22, [], 0)
    else (0, (linesF [] (s.take n)).dropLast, n)
abbrev Rq := List UInt8 × List UInt8 × Fs
/-- A request, read from its lines. -/
def reqL (l : List (List UInt8)) : Nat × Rq :=
  let m := (cutG 32 (l.headD [])).1
  let r := (cutG 32 (l.headD [])).2
  if methodB m = false then (26, [], [], [])
  else if targetB m (cutG 32 r).1 = false then (27, [], [], [])
  else if (cutG 32 r).2 ≠ verL then (28, [], [], [])
  else if (readFs nm vl l.tail).1 ≠ 0 then ((readFs nm vl l.tail).1, [], [], [])
  else match hosted hs lw (readFs nm vl l.tail).2 with
    | none => (29, [], [], [])
    | some fs => (0, m, (cutG 32 r).1, fs)
def readQ (s : List UInt8) : Nat × Rq × Nat :=
  if (splitG s).1 ≠ 0 then ((splitG s).1, ([], [], []), 0)
  else if (reqL nm vl hs lw (splitG s).2.1).1 ≠ 0 then ((reqL nm vl hs lw (splitG s).2.1).1, ([], [], []), 0)
  else (0, (reqL nm vl hs lw (splitG s).2.1).2, (splitG s).2.2)
def startQ (m t : List UInt8) : List UInt8 := m ++ 32 :: (t ++ 32 :: verL)
/-- A field's line as it is written. -/
def lineW (f : List UInt8 × List UInt8) : List UInt8 := (nm f.1).getD f.1 ++ 58 :: 32 :: f.2
def goodB (fs : Fs) : Bool := fs.all fun f => (nm f.1).isSome && decide (vl f.2 = some f.2)
def writeQ (q : Rq) : Nat × List UInt8 :=
  if 64 < q.2.2.length ∨ 8192 < (enc (startQ q.1 q.2.1 :: q.2.2.map (lineW nm))).length then (5, [])
  else if methodB q.1 = false then (26, [])
  else if targetB q.1 q.2.1 = false then (27, [])
  else if goodB nm vl q.2.2 = false then (25, [])
  else match hosted hs lw q.2.2 with
    | none => (29, [])
    | some fs => (0, enc (startQ q.1 q.2.1 :: fs.map (lineW nm)))
end
/-- A head that is divided without an error is that of lines. -/
theorem splitG_some {s : List UInt8} {l : List (List UInt8)} {n : Nat} (h : splitG s = (0, l, n)) : l ≠ [] ∧ (∀ x ∈ l, Clean x ∧ x ≠ []) ∧ s.take n = enc l ∧ n = (enc l).length ∧ n ≤ s.length ∧ n ≤ 8192 ∧ l.length ≤ 65 := by
  unfold splitG at h
  cases he : endO s with
  | none => rw [he] at h; simp only at h; split at h <;> exact absurd (congrArg Prod.fst h) (by simp)
  | some k =>
    rw [he] at h
    simp only at h
    by_cases h1 : 8192 < k ∨ 66 < (linesF [] (s.take k)).length
    · rw [if_pos h1] at h; exact absurd (congrArg Prod.fst h) (by simp)
    · rw [if_neg h1] at h
      by_cases h2 : k = 2 ∨ bareF 0 (s.take k) = true
      · rw [if_pos h2] at h; exact absurd (congrArg Prod.fst h) (by simp)
      · rw [if_neg h2] at h
        have e := congrArg Prod.snd h
        obtain ⟨e1, e2⟩ := Prod.mk.inj e
        subst e2
        simp only [not_or, Bool.not_eq_true] at h1 h2
        have hk : end4 s = some k ∧ s.take 2 ≠ [13, 10] := by
          unfold endO at he
          by_cases h3 : s.take 2 = [13, 10]
          · rw [if_pos h3] at he; exact absurd (Option.some.inj he).symm h2.1
          · rw [if_neg h3] at he; exact ⟨he, h3⟩
        have hk2 := end4_some hk.1
        have hke := end4_pre hk.1 []
        rw [List.append_nil] at hke
        have hlen : (s.take k).length = k := by rw [List.length_take]; omega
        obtain ⟨ls, t, c1, c2, c3⟩ := bare_flat _ (s.take k) 0 (Nat.le_refl _) (by decide) h2.2
        have hne : ∀ x xs, ls = x :: xs → x ≠ [] := by
          rintro x xs rfl rfl
          rw [flat_cons] at c3
          apply hk.2
          have := congrArg (List.take 2) c3
          rw [List.take_take, Nat.min_eq_left (by omega)] at this
          rw [this]; rfl
        obtain ⟨ks, k1, k2, k3⟩ := enc_of ls t c1 c2 hne (by rw [← c3, hke, hlen])
        have c4 : s.take k = enc ks := c3.trans k3
        have hl : linesF [] (s.take k) = ks ++ [[]] := by rw [c4]; exact linesF_enc ks fun x hx => (k2 x hx).1
        rw [hl, List.dropLast_concat] at e1
        subst e1
        rw [hl, List.length_append] at h1
        exact ⟨k1, k2, c4, by rw [← c4, hlen], hk2.2, by omega, by simp at h1; omega⟩
theorem splitG_enc {l : List (List UInt8)} (h : l ≠ []) (hc : ∀ x ∈ l, Clean x ∧ x ≠ []) (hn : (enc l).length ≤ 8192) (hl : l.length ≤ 65) (r : List UInt8) : splitG (enc l ++ r) = (0, l, (enc l).length) := by
  have e : (enc l ++ r).take (enc l).length = enc l := by rw [List.take_append_of_le_length (Nat.le_refl _), List.take_length]
  have hl2 : linesF [] (enc l) = l ++ [[]] := linesF_enc l fun x hx => (hc x hx).1
  have hn2 : (enc l).length ≠ 2 := by
    cases l with
    | nil => exact absurd rfl h
    | cons x xs =>
      have := (hc x (by simp)).2
      have hp : 0 < x.length := List.length_pos_iff.2 this
      rw [enc_cons]; simp; omega
  unfold splitG
  rw [endO_enc h hc]
  simp only
  rw [e, hl2, if_neg (by simp; omega), if_neg (by rw [bare_enc l fun x hx => (hc x hx).1]; simp [hn2]), List.dropLast_concat]
end Go.Proofs.YtgbcpheccaldlaaGreatDoor

/- Requests: what is written is read again, what is read can be written; prefixes and inserted bytes. -/
namespace Go.Proofs.YtgbcpheccaldlaaGreatDoor

section
variable {nm vl hs : List UInt8 → Option (List UInt8)} {lw : List UInt8 → List UInt8}
theorem method_chars {m : List UInt8} (h : methodB m = true) : m ≠ [] ∧ Clean m ∧ 32 ∉ m := by
  unfold methodB at h
  simp only [Bool.and_eq_true, decide_eq_true_eq, List.all_eq_true] at h
  obtain ⟨⟨h1, h2⟩, _⟩ := h
  refine ⟨by rintro rfl; simp at h2, fun c hc => ?_, fun hc => ?_⟩
  · have := h1 c hc
    refine ⟨?_, ?_, ?_⟩ <;> (rintro rfl; simp at this)
  · have := h1 32 hc; simp at this
theorem target_chars {m t : List UInt8} (h : targetB m t = true) : Clean t ∧ 32 ∉ t ∧ t ≠ [] := by
  unfold targetB at h
  simp only [Bool.and_eq_true, decide_eq_true_eq, List.all_eq_true] at h
  obtain ⟨⟨⟨h1, h2⟩, _⟩, _⟩ := h
  refine ⟨fun c hc => ?_, fun hc => ?_, by rintro rfl; simp at h2⟩
  · have := h1 c hc
    refine ⟨?_, ?_, ?_⟩ <;> (rintro rfl; simp at this)
  · have := h1 32 hc; simp at this
theorem ver_clean : Clean verL := by intro c hc; simp [verL] at hc; rcases hc with rfl | rfl | rfl | rfl | rfl | rfl | rfl <;> decide
theorem start_clean {m t : List UInt8} (hm : methodB m = true) (ht : targetB m t = true) : Clean (startQ m t) ∧ startQ m t ≠ [] := by
  unfold startQ
  refine ⟨clean_app.2 ⟨(method_chars hm).2.1, clean_cons.2 ⟨by decide, clean_app.2 ⟨(target_chars ht).1, clean_cons.2 ⟨by decide, ver_clean⟩⟩⟩⟩, by simp⟩
theorem cutG_at {c : UInt8} {a : List UInt8} (h : c ∉ a) (b : List UInt8) : cutG c (a ++ c :: b) = (a, b) := by unfold cutG; rw [cut1_at h]; rfl
theorem cutG_or (c : UInt8) (l : List UInt8) : (l = (cutG c l).1 ++ c :: (cutG c l).2) ∨ ((cutG c l).2 = [] ∧ (cutG c l).1 = l) := by
  unfold cutG
  cases h : cut1 c l with
  | none => exact .inr ⟨rfl, rfl⟩
  | some p => obtain ⟨a, b⟩ := p; exact .inl (cut1_some h).1
/-- The lines of a request, read. -/
theorem reqL_of {m t : List UInt8} {ls : List (List UInt8)} {fs0 fs : Fs} (hm : methodB m = true) (ht : targetB m t = true) (hf : readFs nm vl ls = (0, fs0)) (hh : hosted hs lw fs0 = some fs) : reqL nm vl hs lw (startQ m t :: ls) = (0, m, t, fs) := by
  have e1 : cutG 32 (startQ m t) = (m, t ++ 32 :: verL) := cutG_at (method_chars hm).2.2 _
  have e2 : cutG 32 (t ++ 32 :: verL) = (t, verL) := cutG_at (target_chars ht).2.1 _
  unfold reqL
  simp only [List.headD_cons, List.tail_cons, e1, e2, hm, ht, hf, hh]
  simp
theorem reqL_some {l : List (List UInt8)} {m t : List UInt8} {fs : Fs} (h : reqL nm vl hs lw l = (0, m, t, fs)) : methodB m = true ∧ targetB m t = true ∧ l.headD [] = startQ m t ∧ ∃ fs0, readFs nm vl l.tail = (0, fs0) ∧ hosted hs lw fs0 = some fs := by
  unfold reqL at h
  simp only at h
  by_cases h1 : methodB (cutG 32 (l.headD [])).1 = false
  · rw [if_pos h1] at h; exact absurd (congrArg Prod.fst h) (by simp)
  rw [if_neg h1] at h
  by_cases h2 : targetB (cutG 32 (l.headD [])).1 (cutG 32 (cutG 32 (l.headD [])).2).1 = false
  · rw [if_pos h2] at h; exact absurd (congrArg Prod.fst h) (by simp)
  rw [if_neg h2] at h
  by_cases h3 : (cutG 32 (cutG 32 (l.headD [])).2).2 ≠ verL
  · rw [if_pos h3] at h; exact absurd (congrArg Prod.fst h) (by simp)
  rw [if_neg h3] at h
  by_cases h4 : (readFs nm vl l.tail).1 ≠ 0
  · rw [if_pos h4] at h; exact absurd (congrArg Prod.fst h) h4
  rw [if_neg h4] at h
  cases h5 : hosted hs lw (readFs nm vl l.tail).2 with
  | none => rw [h5] at h; exact absurd (congrArg Prod.fst h) (by simp)
  | some f =>
    rw [h5] at h
    simp only [Prod.mk.injEq, true_and] at h
    obtain ⟨e1, e2, e3⟩ := h
    simp only [ne_eq, Decidable.not_not, Bool.not_eq_false] at h1 h2 h3 h4
    rw [e1] at h1 h2
    rw [e2] at h2
    refine ⟨h1, h2, ?_, (readFs nm vl l.tail).2, Prod.ext h4 rfl, by rw [h5, e3]⟩
    have hv : (cutG 32 (l.headD [])).2 = t ++ 32 :: verL := by
      rcases cutG_or 32 (cutG 32 (l.headD [])).2 with h | ⟨h, _⟩
      · rw [h, e2, h3]
      · rw [h3] at h; exact absurd h (by decide)
    rcases cutG_or 32 (l.headD []) with h | ⟨h, _⟩
    · rw [h, e1, hv]; rfl
    · rw [hv] at h; exact absurd h (by simp)
theorem readQ_of {m t : List UInt8} {ls : List (List UInt8)} {fs0 fs : Fs} (hm : methodB m = true) (ht : targetB m t = true) (hf : readFs nm vl ls = (0, fs0)) (hh : hosted hs lw fs0 = some fs) (hc : ∀ x ∈ ls, Clean x ∧ x ≠ [])
    (hn : (enc (startQ m t :: ls)).length ≤ 8192) (hl : ls.length ≤ 64) (r : List UInt8) : readQ nm vl hs lw (enc (startQ m t :: ls) ++ r) = (0, (m, t, fs), (enc (startQ m t :: ls)).length) := by
  have hs' : splitG (enc (startQ m t :: ls) ++ r) = (0, startQ m t :: ls, (enc (startQ m t :: ls)).length) :=
    splitG_enc (by simp) (fun x hx => by rcases List.mem_cons.1 hx with rfl | hx; exact start_clean hm ht; exact hc x hx) hn (by simp; omega) r
  unfold readQ
  rw [hs']
  simp only [reqL_of hm ht hf hh]
  simp
theorem readQ_some {s m t : List UInt8} {fs : Fs} {n : Nat} (h : readQ nm vl hs lw s = (0, (m, t, fs), n)) :
    methodB m = true ∧ targetB m t = true ∧ ∃ ls fs0, readFs nm vl ls = (0, fs0) ∧ hosted hs lw fs0 = some fs ∧ (∀ x ∈ ls, Clean x ∧ x ≠ []) ∧ s.take n = enc (startQ m t :: ls) ∧ n = (enc (startQ m t :: ls)).length ∧ n ≤ s.length ∧ n ≤ 8192 ∧ ls.length ≤ 64 := by
  unfold readQ at h
  by_cases h1 : (splitG s).1 ≠ 0
  · rw [if_pos h1] at h; exact absurd (congrArg Prod.fst h) h1
  rw [if_neg h1] at h
  by_cases h2 : (reqL nm vl hs lw (splitG s).2.1).1 ≠ 0
  · rw [if_pos h2] at h; exact absurd (congrArg Prod.fst h) h2
  rw [if_neg h2] at h
  simp only [ne_eq, Decidable.not_not] at h1 h2
  simp only [Prod.mk.injEq, true_and] at h
  obtain ⟨e1, e2⟩ := h
  obtain ⟨g1, g2, g3, g4, g5, g6, g7⟩ := splitG_some (s := s) (l := (splitG s).2.1) (n := (splitG s).2.2) (Prod.ext h1 rfl)
  obtain ⟨r1, r2, r3, fs0, r4, r5⟩ := reqL_some (l := (splitG s).2.1) (m := m) (t := t) (fs := fs) (Prod.ext h2 e1)
  have hl : (splitG s).2.1 = startQ m t :: (splitG s).2.1.tail := by
    rw [← r3]
    cases hh : (splitG s).2.1 with
    | nil => exact absurd hh g1
    | cons a b => rfl
  rw [e2] at g3 g4 g5 g6
  rw [hl] at g3 g4 g7
  refine ⟨r1, r2, _, fs0, r4, r5, fun x hx => g2 x (by rw [hl]; simp [hx]), g3, g4, g5, g6, by rw [List.length_cons] at g7; omega⟩
/-- An error leaves nothing. -/
theorem readQ_err {s : List UInt8} (h : (readQ nm vl hs lw s).1 ≠ 0) : (readQ nm vl hs lw s).2 = (([], [], []), 0) := by
  unfold readQ at h ⊢
  by_cases h1 : (splitG s).1 ≠ 0
  · rw [if_pos h1]
  · rw [if_neg h1] at h ⊢
    by_cases h2 : (reqL nm vl hs lw (splitG s).2.1).1 ≠ 0
    · rw [if_pos h2]
    · rw [if_neg h2] at h; exact absurd rfl h
/-- A request does not depend on what follows it. -/
theorem readQ_again {s m t : List UInt8} {fs : Fs} {n : Nat} (h : readQ nm vl hs lw s = (0, (m, t, fs), n)) (r : List UInt8) : readQ nm vl hs lw (s.take n ++ r) = (0, (m, t, fs), n) := by
  obtain ⟨h1, h2, ls, fs0, h3, h4, h5, h6, h7, _, h9, h10⟩ := readQ_some h
  rw [h6, readQ_of h1 h2 h3 h4 h5 (by rw [← h7]; exact h9) h10 r, ← h7]
/-- Each proper prefix of a request ends too early. -/
theorem readQ_prefix {s m t : List UInt8} {fs : Fs} {n i : Nat} (h : readQ nm vl hs lw s = (0, (m, t, fs), n)) (hi : i < n) : readQ nm vl hs lw (s.take i) = (21, ([], [], []), 0) := by
  obtain ⟨h1, h2, ls, fs0, h3, h4, h5, h6, h7, h8, h9, h10⟩ := readQ_some h
  have hc : ∀ x ∈ startQ m t :: ls, Clean x ∧ x ≠ [] := fun x hx => by rcases List.mem_cons.1 hx with rfl | hx; exact start_clean h1 h2; exact h5 x hx
  have e4 := end4_enc (startQ m t :: ls) (by simp) hc []
  rw [List.append_nil, ← h6] at e4
  have e5 : s.take i = (s.take n).take i := by rw [List.take_take, Nat.min_eq_left (by omega)]
  have e6 : end4 (s.take i) = none := by rw [e5]; exact end4_short e4 (by rw [h6, ← h7]; exact hi)
  have e7 : endO (s.take i) = none := by
    unfold endO
    rw [if_neg, e6]
    intro e
    have h2 := take2_line (hc _ (List.mem_cons_self ..)).1 (hc _ (List.mem_cons_self ..)).2 (13 :: 10 :: enc ls)
    apply h2
    rw [← enc_cons, ← h6]
    have : (s.take i).take 2 = [13, 10] := e
    have hl := congrArg List.length this
    simp [List.length_take] at hl
    rw [List.take_take] at this ⊢
    rw [Nat.min_eq_left (by omega)] at this ⊢
    exact this
  unfold readQ splitG
  rw [e7]
  simp only [List.length_take]
  rw [if_pos (show min i s.length < 8192 by omega)]
  simp
/-- With a CR, an LF (but directly before its last byte) or a byte 0 inserted a request is refused. -/
theorem readQ_insert {s m t : List UInt8} {fs : Fs} {n i : Nat} {c : UInt8} (h : readQ nm vl hs lw s = (0, (m, t, fs), n)) (hi : i < n) (hc : c = 0 ∨ c = 13 ∨ c = 10) (hx : ¬ (c = 10 ∧ i + 1 = n)) :
    (readQ nm vl hs lw (s.take i ++ c :: (s.take n).drop i)).1 ≠ 0 := by
  obtain ⟨h1, h2, ls, fs0, h3, h4, h5, h6, h7, h8, h9, h10⟩ := readQ_some h
  have hcl : ∀ x ∈ startQ m t :: ls, Clean x ∧ x ≠ [] := fun x hx => by rcases List.mem_cons.1 hx with rfl | hx; exact start_clean h1 h2; exact h5 x hx
  have e4 := end4_enc (startQ m t :: ls) (by simp) hcl []
  rw [List.append_nil] at e4
  have eb := bare_enc (startQ m t :: ls) (fun x hx => (hcl x hx).1) 0
  rw [← h6] at e4 eb
  have hlen : (s.take n).length = n := by rw [h6, ← h7]
  have e5 : s.take i = (s.take n).take i := by rw [List.take_take, Nat.min_eq_left (by omega)]
  rw [e5]
  intro h0
  obtain ⟨m', t', fs', n', hr⟩ : ∃ m' t' fs' n', readQ nm vl hs lw ((s.take n).take i ++ c :: (s.take n).drop i) = (0, (m', t', fs'), n') := ⟨_, _, _, _, Prod.ext h0 rfl⟩
  obtain ⟨g1, g2, ks, _, _, _, g5, g6, g7, g8, _, _⟩ := readQ_some hr
  have gcl : ∀ x ∈ startQ m' t' :: ks, Clean x ∧ x ≠ [] := fun x hx => by rcases List.mem_cons.1 hx with rfl | hx; exact start_clean g1 g2; exact g5 x hx
  have q4 := end4_enc (startQ m' t' :: ks) (by simp) gcl (((s.take n).take i ++ c :: (s.take n).drop i).drop n')
  rw [← g7, ← g6, List.take_append_drop] at q4
  have qb := bare_enc (startQ m' t' :: ks) (fun x hx => (gcl x hx).1) 0
  rw [← g6] at qb
  have := insert_bare e4 eb (by rw [hlen]; exact hi) hc (by rw [hlen]; exact hx) q4
  rw [qb] at this
  cases this
end
end Go.Proofs.YtgbcpheccaldlaaGreatDoor

/- Requests, written and read again. -/
namespace Go.Proofs.YtgbcpheccaldlaaGreatDoor

section
variable {nm vl hs : List UInt8 → Option (List UInt8)} {lw : List UInt8 → List UInt8}
/-- A field with its host in lower case. -/
def lowH (lw : List UInt8 → List UInt8) (f : List UInt8 × List UInt8) : List UInt8 × List UInt8 := (f.1, if lw f.1 = hostN then lw f.2 else f.2)
theorem hostF_some (F : Flk nm vl hs lw) : ∀ {fs : Fs} {p : Fs × Nat}, hostF hs lw fs = some p → p.1 = fs.map (lowH lw) ∧ p.2 = (fs.filter fun f => decide (lw f.1 = hostN)).length ∧ ∀ f ∈ p.1, lw f.1 = hostN → hs f.2 = some f.2 := by
  intro fs
  induction fs with
  | nil => intro p h; obtain rfl := Option.some.inj h; exact ⟨rfl, rfl, by simp⟩
  | cons f r ih =>
    intro p h
    rw [hostF] at h
    by_cases hf : lw f.1 = hostN
    · rw [if_pos hf] at h
      cases h1 : hs f.2 with
      | none => rw [h1] at h; cases h
      | some y =>
        rw [h1] at h
        cases h2 : hostF hs lw r with
        | none => rw [h2] at h; cases h
        | some p' =>
          rw [h2] at h
          obtain rfl := Option.some.inj h
          obtain ⟨e1, e2, e3⟩ := ih h2
          refine ⟨?_, ?_, ?_⟩
          · rw [List.map_cons, ← e1]; unfold lowH; rw [if_pos hf, F.hs_lw h1]
          · rw [List.filter_cons_of_pos (by simpa using hf), List.length_cons, ← e2]
          · intro g hg hgn
            rcases List.mem_cons.1 hg with rfl | hg
            · exact F.hs_id h1
            · exact e3 g hg hgn
    · rw [if_neg hf] at h
      cases h2 : hostF hs lw r with
      | none => rw [h2] at h; cases h
      | some p' =>
        rw [h2] at h
        obtain rfl := Option.some.inj h
        obtain ⟨e1, e2, e3⟩ := ih h2
        refine ⟨?_, ?_, ?_⟩
        · rw [List.map_cons, ← e1]; unfold lowH; rw [if_neg hf]
        · rw [List.filter_cons_of_neg (by simpa using hf), ← e2]
        · intro g hg hgn
          rcases List.mem_cons.1 hg with rfl | hg
          · exact absurd hgn hf
          · exact e3 g hg hgn
/-- Fields whose hosts are canonical stay as they are. -/
theorem hostF_of : ∀ {fs : Fs}, (∀ f ∈ fs, lw f.1 = hostN → hs f.2 = some f.2) → hostF hs lw fs = some (fs, (fs.filter fun f => decide (lw f.1 = hostN)).length) := by
  intro fs
  induction fs with
  | nil => intro _; rfl
  | cons f r ih =>
    intro h
    rw [hostF, ih fun g hg => h g (by simp [hg])]
    by_cases hf : lw f.1 = hostN
    · rw [if_pos hf, h f (by simp) hf, List.filter_cons_of_pos (by simpa using hf)]; rfl
    · rw [if_neg hf, List.filter_cons_of_neg (by simpa using hf)]; rfl
theorem hosted_some (F : Flk nm vl hs lw) {fs fs' : Fs} (h : hosted hs lw fs = some fs') : fs' = fs.map (lowH lw) ∧ (fs.filter fun f => decide (lw f.1 = hostN)).length = 1 ∧ ∀ f ∈ fs', lw f.1 = hostN → hs f.2 = some f.2 := by
  unfold hosted at h
  cases h1 : hostF hs lw fs with
  | none => rw [h1] at h; cases h
  | some p =>
    rw [h1] at h
    obtain ⟨e1, e2, e3⟩ := hostF_some F h1
    by_cases h2 : p.2 = 1
    · simp only [Option.bind_some, if_pos h2] at h
      obtain rfl := Option.some.inj h
      exact ⟨e1, by rw [← e2]; exact h2, e3⟩
    · simp only [Option.bind_some, if_neg h2] at h; cases h
theorem hosted_of {fs : Fs} (h : ∀ f ∈ fs, lw f.1 = hostN → hs f.2 = some f.2) (hn : (fs.filter fun f => decide (lw f.1 = hostN)).length = 1) : hosted hs lw fs = some fs := by
  unfold hosted
  rw [hostF_of h]
  simp [hn]
/-- A field that can be written: its name and its value are right. -/
def GoodF (nm vl : List UInt8 → Option (List UInt8)) (lw : List UInt8 → List UInt8) (f : List UInt8 × List UInt8) : Prop := nm f.1 = some (lw f.1) ∧ vl f.2 = some f.2
theorem good_mem (F : Flk nm vl hs lw) {fs : Fs} (h : goodB nm vl fs = true) : ∀ f ∈ fs, GoodF nm vl lw f := by
  intro f hf
  unfold goodB at h
  rw [List.all_eq_true] at h
  have := h f hf
  simp only [Bool.and_eq_true, decide_eq_true_eq] at this
  obtain ⟨h1, h2⟩ := this
  cases h3 : nm f.1 with
  | none => rw [h3] at h1; cases h1
  | some y => exact ⟨by rw [h3, F.nm_lw h3], h2⟩
theorem mem_good {fs : Fs} (h : ∀ f ∈ fs, GoodF nm vl lw f) : goodB nm vl fs = true := by
  unfold goodB
  rw [List.all_eq_true]
  intro f hf
  rw [(h f hf).1, (h f hf).2]; simp
theorem good_lowH (F : Flk nm vl hs lw) {fs fs' : Fs} (h : ∀ f ∈ fs, GoodF nm vl lw f) (hh : hosted hs lw fs = some fs') : ∀ f ∈ fs', GoodF nm vl lw f := by
  obtain ⟨e1, _, e3⟩ := hosted_some F hh
  intro f hf
  by_cases hn : lw f.1 = hostN
  · have := e3 f hf hn
    rw [e1] at hf
    obtain ⟨g, hg, rfl⟩ := List.mem_map.1 hf
    exact ⟨(h g hg).1, F.hs_vl this⟩
  · rw [e1] at hf
    obtain ⟨g, hg, rfl⟩ := List.mem_map.1 hf
    have hn' : ¬ lw g.1 = hostN := hn
    have : lowH lw g = g := by unfold lowH; rw [if_neg hn']
    rw [this]; exact h g hg
theorem lineW_eq {f : List UInt8 × List UInt8} (h : GoodF nm vl lw f) : lineW nm f = lw f.1 ++ 58 :: 32 :: f.2 := by unfold lineW; rw [h.1]; rfl
theorem readF_line (F : Flk nm vl hs lw) {f : List UInt8 × List UInt8} (h : GoodF nm vl lw f) : readF nm vl (lineW nm f) = (0, lw f.1, f.2) := by
  have hy := F.nm_id h.1
  obtain ⟨hne, hc⟩ := F.nm_ok hy
  have h58 : 58 ∉ lw f.1 := fun hm => (hc 58 hm).2.2.2.1 rfl
  have hws : (lw f.1).any wsB = false := by
    rw [List.any_eq_false]
    intro c hm
    have := hc c hm
    simp [wsB, this.2.2.2.2.1, this.2.2.2.2.2]
  have hhd : (lw f.1 ++ 58 :: 32 :: f.2).head?.any wsB = false := by
    cases hl : lw f.1 with
    | nil => exact absurd hl hne
    | cons c t =>
      rw [hl, List.any_cons, Bool.or_eq_false_iff] at hws
      exact hws.1
  rw [lineW_eq h]
  unfold readF
  rw [hhd, cut1_at h58]
  simp only [Bool.false_eq_true, if_false, if_neg hne, hws, hy, F.vl_sp h.2]
theorem line_clean (F : Flk nm vl hs lw) {f : List UInt8 × List UInt8} (h : GoodF nm vl lw f) : Clean (lineW nm f) ∧ lineW nm f ≠ [] := by
  obtain ⟨_, hc⟩ := F.nm_ok (F.nm_id h.1)
  rw [lineW_eq h]
  refine ⟨clean_app.2 ⟨fun c hm => ⟨(hc c hm).1, (hc c hm).2.1, (hc c hm).2.2.1⟩, clean_cons.2 ⟨by decide, clean_cons.2 ⟨by decide, F.vl_ok h.2⟩⟩⟩, by simp⟩
theorem readFs_lines (F : Flk nm vl hs lw) : ∀ {fs : Fs}, (∀ f ∈ fs, GoodF nm vl lw f) → readFs nm vl (fs.map (lineW nm)) = (0, fs.map fun f => (lw f.1, f.2)) := by
  intro fs
  induction fs with
  | nil => intro _; rfl
  | cons f r ih =>
    intro h
    rw [List.map_cons, readFs, readF_line F (h f (by simp)), ih fun g hg => h g (by simp [hg])]
    simp
theorem lines_len : ∀ {fs fs' : Fs}, fs' = fs.map (lowH lw) → (∀ x, (lw x).length = x.length) → (flat (fs'.map (lineW nm))).length = (flat (fs.map (lineW nm))).length := by
  intro fs
  induction fs with
  | nil => intro fs' h _; rw [h]; rfl
  | cons f r ih =>
    intro fs' h hl
    have := ih (fs' := r.map (lowH lw)) rfl hl
    rw [h, List.map_cons, List.map_cons, List.map_cons, flat_cons, flat_cons, List.length_append, List.length_append, List.length_cons, List.length_cons, List.length_cons, List.length_cons, this]
    have e : (lineW nm (lowH lw f)).length = (lineW nm f).length := by
      unfold lineW lowH
      simp only [List.length_append, List.length_cons]
      split <;> simp [hl]
    rw [e]
theorem encH_len (x : List UInt8) (ls : List (List UInt8)) : (enc (x :: ls)).length = x.length + 4 + (flat ls).length := by rw [enc_cons]; simp [enc]; omega
/-- What is written is read again: names and the host are in lower case. -/
theorem writeQ_read (F : Flk nm vl hs lw) {m t b : List UInt8} {fs : Fs} (h : writeQ nm vl hs lw (m, t, fs) = (0, b)) (r : List UInt8) :
    readQ nm vl hs lw (b ++ r) = (0, (m, t, fs.map fun f => (lw f.1, (lowH lw f).2)), b.length) := by
  unfold writeQ at h
  simp only at h
  by_cases h1 : 64 < fs.length ∨ 8192 < (enc (startQ m t :: fs.map (lineW nm))).length
  · rw [if_pos h1] at h; exact absurd (congrArg Prod.fst h) (by simp)
  rw [if_neg h1] at h
  by_cases h2 : methodB m = false
  · rw [if_pos h2] at h; exact absurd (congrArg Prod.fst h) (by simp)
  rw [if_neg h2] at h
  by_cases h3 : targetB m t = false
  · rw [if_pos h3] at h; exact absurd (congrArg Prod.fst h) (by simp)
  rw [if_neg h3] at h
  by_cases h4 : goodB nm vl fs = false
  · rw [if_pos h4] at h; exact absurd (congrArg Prod.fst h) (by simp)
  rw [if_neg h4] at h
  cases h5 : hosted hs lw fs with
  | none => rw [h5] at h; exact absurd (congrArg Prod.fst h) (by simp)
  | some fs' =>
    rw [h5] at h
    simp only [Prod.mk.injEq, true_and] at h
    subst h
    simp only [not_or, Bool.not_eq_false] at h1 h2 h3 h4
    obtain ⟨e1, e2, e3⟩ := hosted_some F h5
    have hg := good_lowH F (good_mem F h4) h5
    have hlen : fs'.length = fs.length := by rw [e1, List.length_map]
    have hfl : (fs'.map fun f => (lw f.1, f.2)) = fs.map fun f => (lw f.1, (lowH lw f).2) := by rw [e1, List.map_map]; rfl
    have hh : hosted hs lw (fs'.map fun f => (lw f.1, f.2)) = some (fs'.map fun f => (lw f.1, f.2)) := by
      apply hosted_of
      · intro f hf hn
        obtain ⟨g, hg2, rfl⟩ := List.mem_map.1 hf
        simp only [F.lw_id] at hn
        exact e3 g hg2 hn
      · rw [hfl, List.filter_map, List.length_map]
        have : ((fun f : List UInt8 × List UInt8 => decide (lw f.1 = hostN)) ∘ fun f => (lw f.1, (lowH lw f).2)) = fun f => decide (lw f.1 = hostN) := by funext f; simp [F.lw_id]
        rw [this]; exact e2
    rw [← hfl]
    refine readQ_of h2 h3 (readFs_lines F hg) hh (fun x hx => ?_) ?_ (by rw [List.length_map]; omega) r
    · obtain ⟨f, hf, rfl⟩ := List.mem_map.1 hx
      exact line_clean F (hg f hf)
    · rw [encH_len, lines_len e1 F.lw_len, ← encH_len]; omega
/-- A line that is read as a field: the field's own line is at most a byte longer. -/
theorem readF_some (F : Flk nm vl hs lw) {l : List UInt8} {f : List UInt8 × List UInt8} (h : readF nm vl l = (0, f)) : nm f.1 = some f.1 ∧ lw f.1 = f.1 ∧ vl f.2 = some f.2 ∧ f.1.length + f.2.length + 1 ≤ l.length := by
  unfold readF at h
  by_cases h1 : l.head?.any wsB = true
  · rw [if_pos h1] at h; exact absurd (congrArg Prod.fst h) (by simp)
  rw [if_neg h1] at h
  cases h2 : cut1 58 l with
  | none => rw [h2] at h; exact absurd (congrArg Prod.fst h) (by simp)
  | some p =>
    obtain ⟨b, a⟩ := p
    rw [h2] at h
    simp only at h
    by_cases h3 : b = []
    · rw [if_pos h3] at h; exact absurd (congrArg Prod.fst h) (by simp)
    rw [if_neg h3] at h
    by_cases h4 : b.any wsB = true
    · rw [if_pos h4] at h; exact absurd (congrArg Prod.fst h) (by simp)
    rw [if_neg h4] at h
    cases h5 : nm b with
    | none => rw [h5] at h; exact absurd (congrArg Prod.fst h) (by simp)
    | some y =>
      rw [h5] at h
      cases h6 : vl a with
      | none => rw [h6] at h; exact absurd (congrArg Prod.fst h) (by simp)
      | some v =>
        rw [h6] at h
        simp only [Prod.mk.injEq, true_and] at h
        subst h
        have e := F.nm_lw h5
        obtain ⟨e1, _⟩ := cut1_some h2
        refine ⟨F.nm_id h5, by rw [e, F.lw_id], (F.vl_id h6).1, ?_⟩
        have := (F.vl_id h6).2
        show y.length + v.length + 1 ≤ l.length
        rw [e1, e, F.lw_len, List.length_append, List.length_cons]
        omega
theorem readFs_some (F : Flk nm vl hs lw) : ∀ {ls : List (List UInt8)} {fs : Fs}, readFs nm vl ls = (0, fs) → fs.length = ls.length ∧ (∀ f ∈ fs, nm f.1 = some f.1 ∧ lw f.1 = f.1 ∧ vl f.2 = some f.2) ∧ (flat (fs.map (lineW nm))).length ≤ (flat ls).length + ls.length := by
  intro ls
  induction ls with
  | nil => intro fs h; simp only [readFs, Prod.mk.injEq, true_and] at h; subst h; exact ⟨rfl, by simp, by simp [flat]⟩
  | cons l r ih =>
    intro fs h
    rw [readFs] at h
    by_cases h1 : (readF nm vl l).1 ≠ 0
    · rw [if_pos h1] at h; exact absurd (congrArg Prod.fst h) h1
    rw [if_neg h1] at h
    by_cases h2 : (readFs nm vl r).1 ≠ 0
    · rw [if_pos h2] at h; exact absurd (congrArg Prod.fst h) h2
    rw [if_neg h2] at h
    simp only [Prod.mk.injEq, true_and] at h
    subst h
    simp only [ne_eq, Decidable.not_not] at h1 h2
    obtain ⟨a1, a2, a3, a4⟩ := readF_some F (l := l) (f := (readF nm vl l).2) (Prod.ext h1 rfl)
    obtain ⟨b1, b2, b3⟩ := ih (fs := (readFs nm vl r).2) (Prod.ext h2 rfl)
    refine ⟨by simp [b1], ?_, ?_⟩
    · intro f hf
      rcases List.mem_cons.1 hf with rfl | hf
      · exact ⟨a1, a2, a3⟩
      · exact b2 f hf
    · rw [List.map_cons, flat_cons, flat_cons]
      have e : (lineW nm (readF nm vl l).2).length = (readF nm vl l).2.1.length + (readF nm vl l).2.2.length + 2 := by
        unfold lineW; rw [a1]; simp; omega
      simp only [List.length_append, List.length_cons, e]
      omega
/-- What is read can be written (unless the canonical head is too long), and is read again as the same request. -/
theorem readQ_write (F : Flk nm vl hs lw) {s m t : List UInt8} {fs : Fs} {n : Nat} (h : readQ nm vl hs lw s = (0, (m, t, fs), n)) :
    (writeQ nm vl hs lw (m, t, fs) = (5, []) ∧ 8192 < n + 64) ∨ ∃ b, writeQ nm vl hs lw (m, t, fs) = (0, b) ∧ readQ nm vl hs lw b = (0, (m, t, fs), b.length) := by
  obtain ⟨h1, h2, ls, fs0, h3, h4, h5, h6, h7, h8, h9, h10⟩ := readQ_some h
  obtain ⟨a1, a2, a3⟩ := readFs_some F h3
  obtain ⟨e1, e2, e3⟩ := hosted_some F h4
  have hg0 : ∀ f ∈ fs0, GoodF nm vl lw f := fun f hf => ⟨by rw [(a2 f hf).2.1]; exact (a2 f hf).1, (a2 f hf).2.2⟩
  have hg := good_lowH F hg0 h4
  have hlen : fs.length = fs0.length := by rw [e1, List.length_map]
  have hself : ∀ f ∈ fs, lw f.1 = f.1 := fun f hf => by
    rw [e1] at hf
    obtain ⟨g, hg2, rfl⟩ := List.mem_map.1 hf
    exact (a2 g hg2).2.1
  have hcount : (fs.filter fun f => decide (lw f.1 = hostN)).length = 1 := by
    rw [e1, List.filter_map, List.length_map]
    exact e2
  have hh : hosted hs lw fs = some fs := hosted_of e3 hcount
  have hbl : (enc (startQ m t :: fs.map (lineW nm))).length ≤ n + ls.length := by
    rw [h7, encH_len, encH_len, lines_len e1 F.lw_len]; omega
  by_cases hbig : 8192 < (enc (startQ m t :: fs.map (lineW nm))).length
  · left
    refine ⟨?_, by omega⟩
    unfold writeQ
    rw [if_pos (.inr hbig)]
  · right
    have hw : writeQ nm vl hs lw (m, t, fs) = (0, enc (startQ m t :: fs.map (lineW nm))) := by
      unfold writeQ
      rw [if_neg (show ¬ (64 < fs.length ∨ _) by rintro (x | x); omega; exact hbig x)]
      simp only
      rw [if_neg (by rw [h1]; decide), if_neg (by rw [h2]; decide), if_neg (by rw [mem_good hg]; decide), hh]
    refine ⟨_, hw, ?_⟩
    have := writeQ_read F hw []
    rw [List.append_nil] at this
    rw [this]
    have e : (fs.map fun f => (lw f.1, (lowH lw f).2)) = fs := by
      conv => rhs; rw [← List.map_id fs]
      apply List.map_congr_left
      intro f hf
      have e4 := hself f hf
      have e5 : (lowH lw f).2 = f.2 := by
        unfold lowH
        simp only
        by_cases hn : lw f.1 = hostN
        · rw [if_pos hn]; exact (F.hs_lw (e3 f hf hn)).symm
        · rw [if_neg hn]
      rw [e4, e5]; rfl
    rw [e]
end
end Go.Proofs.YtgbcpheccaldlaaGreatDoor
