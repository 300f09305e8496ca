/- Plain mathematics of chapter 9: numbers, the elements of a Range field, its ranges, and the texts that Format and ContentRange write. -/
import Derived.Test.YtkpeaghbacoehaaGreatDoorList
import Derived.Test.YtkpeaghbacoehaaGreatDoorNumber
import Derived.Test.YtkpeaghbacoehaaGreatDoorRMerge
import Derived.Lib.ItoaMem
namespace Go.Proofs.YtkpeaghbacoehaaGreatDoor

def cut9 (c : UInt8) : List UInt8 → List UInt8 × List UInt8 × Bool
  | [] => ([], [], false)
  | x :: t => if x = c then ([], t, true) else (x :: (cut9 c t).1, (cut9 c t).2.1, (cut9 c t).2.2)
theorem ridx_sep (c : UInt8) (t : List UInt8) : Lib.index (c :: t) [c] = 0 := by unfold Lib.index; simp [List.isPrefixOf]
theorem ridx_ne {c x : UInt8} (h : x ≠ c) (t : List UInt8) : Lib.index (x :: t) [c] = if Lib.index t [c] == -1 then -1 else Lib.index t [c] + 1 := by
  rw [Lib.index, if_neg (by simp [List.isPrefixOf]; exact fun e => h e.symm)]
theorem cut_cut9 (c : UInt8) : ∀ l : List UInt8, Lib.cut l [c] = cut9 c l := by
  intro l
  induction l with
  | nil => rfl
  | cons x t ih =>
    by_cases hx : x = c
    · subst hx
      unfold Lib.cut; rw [ridx_sep]; simp [cut9]
    · rw [cut9, if_neg hx, ← ih]
      have hge := Lib.index_ge t [c]
      by_cases hi : Lib.index t [c] = -1
      · unfold Lib.cut
        rw [ridx_ne hx, hi]; rfl
      · obtain ⟨i, hi'⟩ : ∃ i : Nat, Lib.index t [c] = i := ⟨(Lib.index t [c]).toNat, by omega⟩
        have e1 : (Lib.index t [c] == -1) = false := by simpa using hi
        have e2 : Lib.index (x :: t) [c] = ((i + 1 : Nat) : Int) := by rw [ridx_ne hx, e1, hi']; simp
        unfold Lib.cut
        rw [e2, hi', if_pos (by omega), if_pos (by omega)]
        simp only [Int.toNat_natCast, List.length_singleton, List.take_succ_cons, List.drop_succ_cons]
theorem cut9_len (c : UInt8) : ∀ l : List UInt8, (cut9 c l).1.length ≤ l.length ∧ (cut9 c l).2.1.length ≤ l.length := by
  intro l
  induction l with
  | nil => exact ⟨Nat.le_refl _, Nat.le_refl _⟩
  | cons x t ih =>
    unfold cut9
    split
    · simp
    · simp; omega
/-- The first byte of a kind at place k. -/
theorem cut9_at (c : UInt8) : ∀ (l : List UInt8) (k : Nat), (h : k < l.length) → c ∉ l.take k → l[k] = c → cut9 c l = (l.take k, l.drop (k + 1), true) := by
  intro l
  induction l with
  | nil => intro k h; simp at h
  | cons x t ih =>
    intro k h hn hc
    cases k with
    | zero => simp at hc; simp [cut9, hc]
    | succ k =>
      simp at hn hc h
      have := ih k h hn.2 hc
      simp [cut9, this, Ne.symm hn.1]
theorem cut9_none (c : UInt8) : ∀ l : List UInt8, c ∉ l → cut9 c l = (l, [], false) := by
  intro l
  induction l with
  | nil => intro _; rfl
  | cons x t ih =>
    intro h
    simp at h
    simp [cut9, ih h.2, Ne.symm h.1]
theorem cut9_app (c : UInt8) (a b : List UInt8) (h : c ∉ a) : cut9 c (a ++ c :: b) = (a, b, true) := by
  have := cut9_at c (a ++ c :: b) a.length (by simp) (by simpa using h) (by simp)
  simpa using this

/-! ### Numbers -/
def num9 (l : List UInt8) : Option Nat := if l ≠ [] ∧ l.all digB = true ∧ l.length ≤ 15 then some (numV l) else none
theorem num9_lt {l : List UInt8} {n : Nat} (h : num9 l = some n) : n < 1000000000000000 := by
  unfold num9 at h
  split at h
  · rename_i hc
    have := numV_le l hc.2.1 hc.2.2
    simp at h; omega
  · cases h
theorem digB_dec (k : Nat) (h : k < 10) : digB (UInt8.ofNat (48 + k)) = true ∧ (UInt8.ofNat (48 + k)).toNat - 48 = k := by
  have e : (UInt8.ofNat (48 + k)).toNat = 48 + k := by simp; omega
  unfold digB
  rw [e]; simp; omega
theorem dec_digs (n : Nat) : (Lib.decDigits n).all digB = true ∧ numV (Lib.decDigits n) = n := by
  induction n using Nat.strongRecOn with
  | _ n ih =>
    rw [Lib.decDigits]
    split
    · rename_i h
      have := digB_dec n h
      exact ⟨by rw [List.all_cons, this.1]; rfl, by show 10 * 0 + _ = n; rw [this.2]; omega⟩
    · rename_i h
      have h1 := ih (n / 10) (by omega)
      have h2 := digB_dec (n % 10) (by omega)
      rw [List.all_append, h1.1, numV_snoc, h1.2, h2.2, List.all_cons, h2.1]
      exact ⟨rfl, by omega⟩
theorem dec_ne (n : Nat) : Lib.decDigits n ≠ [] := by
  rw [Lib.decDigits]; split <;> simp
theorem dec_len (n : Nat) (h : n < 1000000000000000) : (Lib.decDigits n).length ≤ 15 := by
  rw [Lib.decDigits_length]
  rcases Nat.lt_or_ge 15 (Lib.nDigits n) with h1 | h1
  · exfalso
    have h2 : ∀ (k m : Nat), k < Lib.nDigits m → 10 ^ k ≤ m ∨ k = 0 := by
      intro k
      induction k with
      | zero => intro m _; exact .inr rfl
      | succ k ih =>
        intro m hm
        by_cases h10 : m < 10
        · rw [Lib.nDigits_small h10] at hm; omega
        · rw [Lib.nDigits_big h10] at hm
          rcases ih (m / 10) (by omega) with h3 | rfl
          · refine .inl ?_
            rw [Nat.pow_succ]; omega
          · refine .inl ?_
            show 10 ^ 1 ≤ m
            omega
    rcases h2 15 n h1 with h3 | h3
    · have : (10 : Nat) ^ 15 = 1000000000000000 := by decide
      omega
    · omega
  · exact h1
theorem num9_dec (n : Nat) (h : n < 1000000000000000) : num9 (Lib.decDigits n) = some n := by
  unfold num9
  rw [if_pos ⟨dec_ne n, (dec_digs n).1, dec_len n h⟩, (dec_digs n).2]
theorem dec_not {c : UInt8} (n : Nat) (h : digB c = false) : c ∉ Lib.decDigits n := by
  intro hc
  have := List.all_eq_true.mp (dec_digs n).1 c hc
  rw [this] at h; cases h

/-! ### Elements -/
/-- The range of an element, for a body of the length n (not less than 0), before it is cut to the length. -/
def elemR (l : List UInt8) (n : Int) : Option Rg :=
  match cut9 45 l with
  | (a, b, f) =>
    if f = true then
      if a = [] then (num9 b).map fun y : Nat => ((n - (y : Int), n) : Rg)
      else if b = [] then (num9 a).map fun x : Nat => (((x : Int), n) : Rg)
      else match num9 a, num9 b with
        | some x, some y => if y < x then none else some ((x : Int), (y : Int) + 1)
        | _, _ => none
    else none
def withinR (r : Rg) (n : Int) : Rg := (max r.1 0, min r.2 n)
def keepR (n : Int) (l : List Rg) : List Rg := (l.map (withinR · n)).filter fun r => decide (r.1 < r.2)
/-- The ranges of the elements, as far as they are read: none if one is malformed. -/
def elemsR (n : Int) : List (List UInt8) → Option (List Rg)
  | [] => some []
  | l :: t => match elemR l n with
    | none => none
    | some r => (elemsR n t).map fun rs => if (withinR r n).1 < (withinR r n).2 then withinR r n :: rs else rs
def preB : List UInt8 := [98, 121, 116, 101, 115, 61]
inductive PR where
  | err (c : Nat)
  | ok (l : List Rg)
/-- What Parse makes of a text. -/
def parseR (l : List UInt8) (n : Int) : PR :=
  if preB.isPrefixOf l = true then
    match listO (l.drop 6) with
    | none => .err 2
    | some [] => .err 2
    | some (x :: xs) => match elemsR (max n 0) (x :: xs) with
      | none => .err 2
      | some rs => if 8 < (x :: xs).length then .err 5 else if rs = [] then .err 1 else .ok rs
  else .err 2
/-- After some elements: the rest decides. -/
theorem elemsR_app (n : Int) : ∀ a b : List (List UInt8), elemsR n (a ++ b) = match elemsR n a with | none => none | some ra => (elemsR n b).map (ra ++ ·) := by
  intro a
  induction a with
  | nil => intro b; simp [elemsR]
  | cons l t ih =>
    intro b
    show (match elemR l n with | none => none | some r => (elemsR n (t ++ b)).map fun rs => if (withinR r n).1 < (withinR r n).2 then withinR r n :: rs else rs) = match (match elemR l n with | none => none | some r => (elemsR n t).map fun rs => if (withinR r n).1 < (withinR r n).2 then withinR r n :: rs else rs) with | none => none | some ra => (elemsR n b).map (ra ++ ·)
    rw [ih b]
    cases elemR l n with
    | none => rfl
    | some r =>
      cases elemsR n t with
      | none => rfl
      | some rs =>
        cases elemsR n b with
        | none => rfl
        | some qs =>
          simp only [Option.map_some]
          split <;> simp
theorem elemsR_len (n : Int) : ∀ (a : List (List UInt8)) (rs : List Rg), elemsR n a = some rs → rs.length ≤ a.length := by
  intro a
  induction a with
  | nil => intro rs h; simp [elemsR] at h; simp [← h]
  | cons l t ih =>
    intro rs h
    unfold elemsR at h
    split at h
    · cases h
    · cases hr : elemsR n t with
      | none => rw [hr] at h; cases h
      | some qs =>
        rw [hr] at h
        have := ih qs hr
        simp only [Option.map_some, Option.some.injEq] at h
        subst h
        split <;> simp <;> omega
/-- What has been read of the elements before k. -/
def upTo (n : Int) (ls : List (List UInt8)) (k : Nat) (rs : List Rg) : Prop := elemsR n (ls.take k) = some rs
theorem upTo0 (n : Int) (ls : List (List UInt8)) : upTo n ls 0 [] := rfl
theorem upTo_one {n : Int} {ls : List (List UInt8)} {k : Nat} {rs : List Rg} {l : List UInt8} (h : upTo n ls k rs) (hl : ls[k]? = some l) {r : Rg} (hr : elemR l n = some r) :
    upTo n ls (k + 1) (if (withinR r n).1 < (withinR r n).2 then rs ++ [withinR r n] else rs) := by
  unfold upTo at *
  rw [List.take_add_one, hl, elemsR_app, h]
  simp only [Option.toList_some, elemsR, hr, Option.map_some]
  split <;> simp
theorem upTo_bad {n : Int} {ls : List (List UInt8)} {k : Nat} {rs : List Rg} {l : List UInt8} (h : upTo n ls k rs) (hl : ls[k]? = some l) (hr : elemR l n = none) : elemsR n ls = none := by
  unfold upTo at *
  have hk : k < ls.length := (List.getElem?_eq_some_iff.mp hl).1
  have e : ls = ls.take k ++ (l :: ls.drop (k + 1)) := by
    have h1 := List.take_append_drop k ls
    rw [List.drop_eq_getElem_cons hk] at h1
    have h2 : ls[k] = l := (List.getElem?_eq_some_iff.mp hl).2
    rw [h2] at h1; exact h1.symm
  rw [e, elemsR_app, h]
  simp [elemsR, hr]
theorem upTo_all {n : Int} {ls : List (List UInt8)} {k : Nat} {rs : List Rg} (h : upTo n ls k rs) (hk : ls.length ≤ k) : elemsR n ls = some rs := by
  unfold upTo at h; rwa [List.take_of_length_le hk] at h
theorem elemR_bd {l : List UInt8} {n : Int} {r : Rg} (h : elemR l n = some r) (hn : 0 ≤ n) (hn2 : n ≤ 9223372036854775807) : -1000000000000000 ≤ r.1 ∧ r.1 ≤ 9223372036854775807 ∧ r.2 ≤ 9223372036854775807 ∧ 0 ≤ r.2 := by
  unfold elemR at h
  generalize cut9 45 l = q at h
  obtain ⟨a, b, f⟩ := q
  simp only at h
  split at h
  · split at h
    · cases hb : num9 b with
      | none => rw [hb] at h; cases h
      | some y => rw [hb] at h; have := num9_lt hb; simp at h; subst h; simp; omega
    · split at h
      · cases ha : num9 a with
        | none => rw [ha] at h; cases h
        | some y => rw [ha] at h; have := num9_lt ha; simp at h; subst h; simp; omega
      · split at h
        · rename_i x y hx hy
          have := num9_lt hx; have := num9_lt hy
          split at h
          · cases h
          · simp at h; subst h; simp; omega
        · cases h
  · cases h

/-! ### Texts -/
def properR (r : Rg) : Prop := 0 ≤ r.1 ∧ r.1 < r.2 ∧ r.2 ≤ 999999999999999
instance (r : Rg) : Decidable (properR r) := by unfold properR; infer_instance
def decT (n : Int) : List UInt8 := Lib.decDigits n.toNat
def textR (r : Rg) : List UInt8 := decT r.1 ++ 45 :: decT (r.2 - 1)
def formR : List Rg → List UInt8
  | [] => []
  | [r] => textR r
  | r :: q :: t => textR r ++ 44 :: formR (q :: t)
def fmtR (l : List Rg) : Option (List UInt8) := if l ≠ [] ∧ ∀ r ∈ l, properR r then some (preB ++ formR l) else none
def crR (r : Rg) (n : Int) : Option (List UInt8) := if properR r ∧ r.2 ≤ n ∧ n ≤ 999999999999999 then some ([98, 121, 116, 101, 115, 32] ++ textR r ++ 47 :: decT n) else none
theorem text_elem {r : Rg} (h : properR r) (n : Int) : elemR (textR r) n = some r := by
  obtain ⟨h1, h2, h3⟩ := h
  have e : cut9 45 (textR r) = (decT r.1, decT (r.2 - 1), true) := cut9_app 45 _ _ (dec_not _ (by decide))
  unfold elemR
  rw [e]
  have n1 : num9 (decT r.1) = some r.1.toNat := num9_dec _ (by omega)
  have n2 : num9 (decT (r.2 - 1)) = some (r.2 - 1).toNat := num9_dec _ (by omega)
  simp only [if_true]
  rw [if_neg (show ¬ decT r.1 = [] from dec_ne _), if_neg (show ¬ decT (r.2 - 1) = [] from dec_ne _), n1, n2]
  simp only
  rw [if_neg (by omega)]
  congr 1
  exact Prod.ext (by simp; omega) (by simp; omega)
end Go.Proofs.YtkpeaghbacoehaaGreatDoor
