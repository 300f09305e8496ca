/- Reading and writing heads, in lists of bytes: requests. nm, vl, hs: what names, values and hosts are read as; lw: lower case. -/
import Derived.Test.YthjkneifffdglaaDoorGPre
namespace Go.Proofs.YthjkneifffdglaaDoor

structure Flk (nm vl hs : List UInt8 → Option (List UInt8)) (lw : List UInt8 → List UInt8) : Prop where
  nm_lw : ∀ {x y}, nm x = some y → y = lw x
  nm_id : ∀ {x y}, nm x = some y → nm y = some y
  nm_ok : ∀ {x y}, nm x = some y → x ≠ [] ∧ ∀ c ∈ x, c ≠ 0 ∧ c ≠ 13 ∧ c ≠ 10 ∧ c ≠ 58 ∧ c ≠ 32 ∧ c ≠ 9
  vl_ok : ∀ {x y}, vl x = some y → Clean x
  vl_id : ∀ {x y}, vl x = some y → vl y = some y ∧ y.length ≤ x.length
  vl_sp : ∀ {y}, vl y = some y → vl (32 :: y) = some y
  hs_lw : ∀ {x y}, hs x = some y → y = lw x
  hs_id : ∀ {x y}, hs x = some y → hs y = some y
  hs_vl : ∀ {x y}, hs x = some y → vl y = some y
  lw_len : ∀ x, (lw x).length = x.length
  lw_id : ∀ x, lw (lw x) = lw x
/-- What stands before the first c, and behind it. -/
def cut1 (c : UInt8) : List UInt8 → Option (List UInt8 × List UInt8)
  | [] => none
  | x :: t => if x = c then some ([], t) else (cut1 c t).map fun p => (x :: p.1, p.2)
def cutG (c : UInt8) (l : List UInt8) : List UInt8 × List UInt8 := (cut1 c l).getD (l, [])
theorem cut1_at {c : UInt8} {a : List UInt8} (h : c ∉ a) (b : List UInt8) : cut1 c (a ++ c :: b) = some (a, b) := by
  induction a with
  | nil => rw [List.nil_append, cut1, if_pos rfl]
  | cons x t ih =>
    simp only [List.mem_cons, not_or] at h
    rw [List.cons_append, cut1, if_neg (fun e => h.1 e.symm), ih h.2]; rfl
theorem cut1_some {c : UInt8} : ∀ {l a b : List UInt8}, cut1 c l = some (a, b) → l = a ++ c :: b ∧ c ∉ a := by
  intro l
  induction l with
  | nil => intro a b h; cases h
  | cons x t ih =>
    intro a b h
    rw [cut1] at h
    by_cases hx : x = c
    · rw [if_pos hx] at h
      obtain ⟨rfl, rfl⟩ := Prod.mk.inj (Option.some.inj h)
      exact ⟨by rw [hx]; rfl, by simp⟩
    · rw [if_neg hx] at h
      cases h2 : cut1 c t with
      | none => rw [h2] at h; cases h
      | some p =>
        rw [h2] at h
        obtain ⟨rfl, rfl⟩ := Prod.mk.inj (Option.some.inj h)
        obtain ⟨e1, e2⟩ := ih h2
        exact ⟨by rw [e1]; rfl, by simp only [List.mem_cons, not_or]; exact ⟨fun e => hx e.symm, e2⟩⟩
def wsB (c : UInt8) : Bool := decide (c = 32) || decide (c = 9)
abbrev Fs := List (List UInt8 × List UInt8)
section
variable (nm vl hs : List UInt8 → Option (List UInt8)) (lw : List UInt8 → List UInt8)
/-- A header line, read: the error's number, or the field. -/
def readF (l : List UInt8) : Nat × (List UInt8 × List UInt8) :=
  if l.head?.any wsB = true then (23, [], [])
  else match cut1 58 l with
    | none => (25, [], [])
    | some (b, a) =>
      if b = [] then (25, [], [])
      else if b.any wsB = true then (24, [], [])
      else match nm b, vl a with
        | some y, some v => (0, y, v)
        | _, _ => (25, [], [])
def readFs : List (List UInt8) → Nat × Fs
  | [] => (0, [])
  | l :: r => if (readF nm vl l).1 ≠ 0 then ((readF nm vl l).1, []) else if (readFs r).1 ≠ 0 then ((readFs r).1, []) else (0, (readF nm vl l).2 :: (readFs r).2)
def hostN : List UInt8 := [104, 111, 115, 116]
/-- The fields with their hosts, and how many there are. -/
def hostF : Fs → Option (Fs × Nat)
  | [] => some ([], 0)
  | f :: r => if lw f.1 = hostN then (hs f.2).bind fun h => (hostF r).map fun p => ((f.1, h) :: p.1, p.2 + 1) else (hostF r).map fun p => (f :: p.1, p.2)
def hosted (fs : Fs) : Option Fs := (hostF hs lw fs).bind fun p => if p.2 = 1 then some p.1 else none
def verL : List UInt8 := [72, 84, 84, 80, 47, 49, 46, 49]
def methodB (m : List UInt8) : Bool := m.all (fun c => decide (65 ≤ c.toNat) && decide (c.toNat ≤ 90)) && decide (1 ≤ m.length) && decide (m.length ≤ 16)
def targetB (m t : List UInt8) : Bool := t.all (fun c => decide (33 ≤ c.toNat) && decide (c.toNat ≤ 126)) && decide (1 ≤ t.length) && decide (t.length ≤ 2048) && (decide (t.head? = some 47) || (decide (t = [42]) && decide (m = [79, 80, 84, 73, 79, 78, 83])))
/-- The lines of a head without the empty one, its length, and the error's number. -/
def splitG (s : List UInt8) : Nat × List (List UInt8) × Nat :=
  match endO s with
  | none => (if s.length < 8192 then 21 else 5, [], 0)
  | some n =>
    if 8192 < n ∨ 66 < (linesF [] (s.take n)).length then (5, [], 0)
    else if n = 2 ∨ bareF 0 (s.take n) = true then (22, [], 0)
    else (0, (linesF [] (s.take n)).dropLast, n)
abbrev Rq := List UInt8 × List UInt8 × Fs
/-- A request, read from its lines. -/
def reqL (l : List (List UInt8)) : Nat × Rq :=
  let m := (cutG 32 (l.headD [])).1
  let r := (cutG 32 (l.headD [])).2
  if methodB m = false then (26, [], [], [])
  else if targetB m (cutG 32 r).1 = false then (27, [], [], [])
  else if (cutG 32 r).2 ≠ verL then (28, [], [], [])
  else if (readFs nm vl l.tail).1 ≠ 0 then ((readFs nm vl l.tail).1, [], [], [])
  else match hosted hs lw (readFs nm vl l.tail).2 with
    | none => (29, [], [], [])
    | some fs => (0, m, (cutG 32 r).1, fs)
def readQ (s : List UInt8) : Nat × Rq × Nat :=
  if (splitG s).1 ≠ 0 then ((splitG s).1, ([], [], []), 0)
  else if (reqL nm vl hs lw (splitG s).2.1).1 ≠ 0 then ((reqL nm vl hs lw (splitG s).2.1).1, ([], [], []), 0)
  else (0, (reqL nm vl hs lw (splitG s).2.1).2, (splitG s).2.2)
def startQ (m t : List UInt8) : List UInt8 := m ++ 32 :: (t ++ 32 :: verL)
/-- A field's line as it is written. -/
def lineW (f : List UInt8 × List UInt8) : List UInt8 := (nm f.1).getD f.1 ++ 58 :: 32 :: f.2
def goodB (fs : Fs) : Bool := fs.all fun f => (nm f.1).isSome && decide (vl f.2 = some f.2)
def writeQ (q : Rq) : Nat × List UInt8 :=
  if 64 < q.2.2.length ∨ 8192 < (enc (startQ q.1 q.2.1 :: q.2.2.map (lineW nm))).length then (5, [])
  else if methodB q.1 = false then (26, [])
  else if targetB q.1 q.2.1 = false then (27, [])
  else if goodB nm vl q.2.2 = false then (25, [])
  else match hosted hs lw q.2.2 with
    | none => (29, [])
    | some fs => (0, enc (startQ q.1 q.2.1 :: fs.map (lineW nm)))
end
/-- A head that is divided without an error is that of lines. -/
theorem splitG_some {s : List UInt8} {l : List (List UInt8)} {n : Nat} (h : splitG s = (0, l, n)) : l ≠ [] ∧ (∀ x ∈ l, Clean x ∧ x ≠ []) ∧ s.take n = enc l ∧ n = (enc l).length ∧ n ≤ s.length ∧ n ≤ 8192 ∧ l.length ≤ 65 := by
  unfold splitG at h
  cases he : endO s with
  | none => rw [he] at h; simp only at h; split at h <;> exact absurd (congrArg Prod.fst h) (by simp)
  | some k =>
    rw [he] at h
    simp only at h
    by_cases h1 : 8192 < k ∨ 66 < (linesF [] (s.take k)).length
    · rw [if_pos h1] at h; exact absurd (congrArg Prod.fst h) (by simp)
    · rw [if_neg h1] at h
      by_cases h2 : k = 2 ∨ bareF 0 (s.take k) = true
      · rw [if_pos h2] at h; exact absurd (congrArg Prod.fst h) (by simp)
      · rw [if_neg h2] at h
        have e := congrArg Prod.snd h
        obtain ⟨e1, e2⟩ := Prod.mk.inj e
        subst e2
        simp only [not_or, Bool.not_eq_true] at h1 h2
        have hk : end4 s = some k ∧ s.take 2 ≠ [13, 10] := by
          unfold endO at he
          by_cases h3 : s.take 2 = [13, 10]
          · rw [if_pos h3] at he; exact absurd (Option.some.inj he).symm h2.1
          · rw [if_neg h3] at he; exact ⟨he, h3⟩
        have hk2 := end4_some hk.1
        have hke := end4_pre hk.1 []
        rw [List.append_nil] at hke
        have hlen : (s.take k).length = k := by rw [List.length_take]; omega
        obtain ⟨ls, t, c1, c2, c3⟩ := bare_flat _ (s.take k) 0 (Nat.le_refl _) (by decide) h2.2
        have hne : ∀ x xs, ls = x :: xs → x ≠ [] := by
          rintro x xs rfl rfl
          rw [flat_cons] at c3
          apply hk.2
          have := congrArg (List.take 2) c3
          rw [List.take_take, Nat.min_eq_left (by omega)] at this
          rw [this]; rfl
        obtain ⟨ks, k1, k2, k3⟩ := enc_of ls t c1 c2 hne (by rw [← c3, hke, hlen])
        have c4 : s.take k = enc ks := c3.trans k3
        have hl : linesF [] (s.take k) = ks ++ [[]] := by rw [c4]; exact linesF_enc ks fun x hx => (k2 x hx).1
        rw [hl, List.dropLast_concat] at e1
        subst e1
        rw [hl, List.length_append] at h1
        exact ⟨k1, k2, c4, by rw [← c4, hlen], hk2.2, by omega, by simp at h1; omega⟩
theorem splitG_enc {l : List (List UInt8)} (h : l ≠ []) (hc : ∀ x ∈ l, Clean x ∧ x ≠ []) (hn : (enc l).length ≤ 8192) (hl : l.length ≤ 65) (r : List UInt8) : splitG (enc l ++ r) = (0, l, (enc l).length) := by
  have e : (enc l ++ r).take (enc l).length = enc l := by rw [List.take_append_of_le_length (Nat.le_refl _), List.take_length]
  have hl2 : linesF [] (enc l) = l ++ [[]] := linesF_enc l fun x hx => (hc x hx).1
  have hn2 : (enc l).length ≠ 2 := by
    cases l with
    | nil => exact absurd rfl h
    | cons x xs =>
      have := (hc x (by simp)).2
      have hp : 0 < x.length := List.length_pos_iff.2 this
      rw [enc_cons]; simp; omega
  unfold splitG
  rw [endO_enc h hc]
  simp only
  rw [e, hl2, if_neg (by simp; omega), if_neg (by rw [bare_enc l fun x hx => (hc x hx).1]; simp [hn2]), List.dropLast_concat]
end Go.Proofs.YthjkneifffdglaaDoor
