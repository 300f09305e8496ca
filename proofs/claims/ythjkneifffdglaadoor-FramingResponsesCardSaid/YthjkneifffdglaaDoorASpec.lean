/- Addresses in plain words, without the program: hosts, canonical forms, dot segments; a canonical address stays as it is. -/
import Derived.Test.YthjkneifffdglaaDoorLower
namespace Go.Proofs.YthjkneifffdglaaDoor

def alnB (c : UInt8) : Bool := (decide (48 ≤ c.toNat) && decide (c.toNat ≤ 57)) || (decide (97 ≤ c.toNat) && decide (c.toNat ≤ 122)) || (decide (65 ≤ c.toNat) && decide (c.toNat ≤ 90))
def unrB (c : UInt8) : Bool := alnB c || [45, 46, 95, 126].contains c.toNat
def pathB (c : UInt8) : Bool := unrB c || [33, 36, 38, 39, 40, 41, 42, 43, 44, 59, 61, 58, 64, 47].contains c.toNat
def queB (c : UInt8) : Bool := c.toNat == 63 || pathB c
/-- The bytes that stand for themselves in a path, or (q) in a query. -/
def plnB (q : Bool) (c : UInt8) : Bool := (q && c.toNat == 63) || pathB c
/-- The value of a hexadecimal digit; -1 if it is none. -/
def hexI (c : UInt8) : Int :=
  if 48 ≤ c.toNat ∧ c.toNat ≤ 57 then (c.toNat : Int) - 48
  else if 97 ≤ c.toNat ∧ c.toNat ≤ 102 then (c.toNat : Int) - 87
  else if 65 ≤ c.toNat ∧ c.toNat ≤ 70 then (c.toNat : Int) - 55 else -1
def valN (a b : UInt8) : Nat := (16 * hexI a + hexI b).toNat
/-- Two hexadecimal digits that stand for a permitted byte. -/
def okB (a b : UInt8) : Bool := decide (0 ≤ hexI a) && decide (0 ≤ hexI b) && decide (32 ≤ valN a b) && decide (valN a b ≠ 127)
def hexD (n : Nat) : UInt8 := if n < 10 then UInt8.ofNat (48 + n) else UInt8.ofNat (55 + n)
def encB (n : Nat) : List UInt8 := if unrB (UInt8.ofNat n) then [UInt8.ofNat n] else [37, hexD (n / 16), hexD (n % 16)]
/-- The canonical form of a path or (q) of a query. -/
def canO (q : Bool) : List UInt8 → Option (List UInt8)
  | [] => some []
  | c :: t =>
    if c = 37 then
      match t with
      | a :: b :: r => if okB a b then (canO q r).map (encB (valN a b) ++ ·) else none
      | _ => none
    else if plnB q c then (canO q t).map (c :: ·) else none
/-- The parts of a string between separators. -/
def cutL (c : UInt8) : List UInt8 → List (List UInt8)
  | [] => [[]]
  | x :: t => if x = c then [] :: cutL c t else match cutL c t with
    | [] => [[x]]
    | p :: r => (x :: p) :: r
def lblC (c : UInt8) : Bool := alnB c || c == 45
def lblB (l : List UInt8) : Bool := !l.isEmpty && decide (l.length ≤ 63) && l.head? != some 45 && l.getLast? != some 45 && l.all lblC
def hostO (l : List UInt8) : Option (List UInt8) := if l.length ≤ 100 ∧ (cutL 46 l).all lblB then some (lowS l) else none
def dotB (s : List UInt8) : Bool := s == [46] || s == [46, 46]
/-- Segments without dot segments: those left so far, the rest. -/
def dotsF : List (List UInt8) → List (List UInt8) → Option (List (List UInt8))
  | [], out => some out
  | s :: r, out =>
    if s = [46] then dotsF r (if r = [] then out ++ [[]] else out)
    else if s = [46, 46] then (if out = [] then none else dotsF r (if r = [] then out.dropLast ++ [[]] else out.dropLast))
    else dotsF r (out ++ [s])
def slashed (ls : List (List UInt8)) : List UInt8 := ls.flatMap (47 :: ·)
def pathO (l : List UInt8) : Option (List UInt8) :=
  match l with
  | 47 :: _ => (canO false l).bind fun p => (dotsF (cutL 47 p.tail) []).map slashed
  | _ => none
/-- What stands before the first separator, what behind it, and whether there is one. -/
def cutC (c : UInt8) : List UInt8 → List UInt8 × List UInt8 × Bool
  | [] => ([], [], false)
  | x :: t => if x = c then ([], t, true) else ((x :: (cutC c t).1), (cutC c t).2)
/-- The segments of a path: none if it has no slash. -/
def segL (l : List UInt8) : List (List UInt8) := if (cutC 47 l).2.2 then cutL 47 (cutC 47 l).2.1 else []
structure Adr where
  h : List UInt8
  p : List UInt8
  q : List UInt8
  b : Bool
deriving DecidableEq
def Adr.zero : Adr := ⟨[], [], [], false⟩
def Adr.target (a : Adr) : List UInt8 := if a.b then a.p ++ 63 :: a.q else a.p
def Adr.text (a : Adr) : List UInt8 := a.h ++ a.target
/-- The code of the error (0: none), and the address. -/
def parseA (h t : List UInt8) : Nat × Adr :=
  match hostO h with
  | none => (8, .zero)
  | some h' =>
    match pathO (cutC 63 t).1, canO true (cutC 63 t).2.1 with
    | some p, some q => if (Adr.text ⟨h', p, q, (cutC 63 t).2.2⟩).length ≤ 1024 then (0, ⟨h', p, q, (cutC 63 t).2.2⟩) else (5, .zero)
    | _, _ => (27, .zero)
def validA (a : Adr) : Bool := (a.b || a.q.isEmpty) && decide (parseA a.h a.target = (0, a))
def readO (l : List UInt8) : Option Adr :=
  let h := l.takeWhile (· ≠ 47)
  let r := parseA h (l.drop h.length)
  if r.1 = 0 ∧ r.2.text = l then some r.2 else none
theorem hexI_le (c : UInt8) : hexI c ≤ 15 ∧ -1 ≤ hexI c := by
  unfold hexI; repeat' split
  all_goals omega
theorem valN_lt {a b : UInt8} (ha : 0 ≤ hexI a) (hb : 0 ≤ hexI b) : valN a b < 256 ∧ (valN a b : Int) = 16 * hexI a + hexI b := by
  have h1 := hexI_le a; have h2 := hexI_le b
  unfold valN; omega
theorem okB_iff {a b : UInt8} : okB a b = true ↔ 0 ≤ hexI a ∧ 0 ≤ hexI b ∧ 32 ≤ valN a b ∧ valN a b ≠ 127 := by
  unfold okB; simp [and_assoc]
theorem enc_fin : ∀ n : Fin 256, 32 ≤ n.val → n.val ≠ 127 → unrB (UInt8.ofNat n.val) = false →
    okB (hexD (n.val / 16)) (hexD (n.val % 16)) = true ∧ valN (hexD (n.val / 16)) (hexD (n.val % 16)) = n.val := by decide +kernel
theorem unr_fin : ∀ n : Fin 256, unrB (UInt8.ofNat n.val) = true → UInt8.ofNat n.val ≠ 37 ∧ UInt8.ofNat n.val ≠ 63 ∧ pathB (UInt8.ofNat n.val) = true := by decide +kernel
theorem hexD_fin : ∀ n : Fin 16, hexD n.val ≠ 63 := by decide +kernel
theorem plnB_of_path {q : Bool} {c : UInt8} (h : pathB c = true) : plnB q c = true := by unfold plnB; rw [h, Bool.or_true]
theorem pathB_ne : ∀ n : Fin 256, pathB (UInt8.ofNat n.val) = true → UInt8.ofNat n.val ≠ 63 := by decide +kernel
theorem plnB_pct (q : Bool) : plnB q 37 = false := by cases q <;> decide
theorem plnB_false {c : UInt8} (h : plnB false c = true) : c ≠ 63 := by
  have := pathB_ne ⟨c.toNat, UInt8.toNat_lt c⟩
  simp only [UInt8.ofNat_toNat] at this
  exact this (by simpa [plnB] using h)
theorem canO_pct (q : Bool) (a b : UInt8) (r : List UInt8) : canO q (37 :: a :: b :: r) = if okB a b then (canO q r).map (encB (valN a b) ++ ·) else none := by
  rw [canO]; simp
theorem canO_pct1 (q : Bool) (a : UInt8) : canO q [37, a] = none := by simp [canO]
theorem canO_pct0 (q : Bool) : canO q [37] = none := by simp [canO]
theorem canO_plain (q : Bool) {c : UInt8} (h : plnB q c = true) (t : List UInt8) : canO q (c :: t) = (canO q t).map (c :: ·) := by
  have hc : ¬ c = 37 := by rintro rfl; rw [plnB_pct] at h; cases h
  rw [canO.eq_def]; simp [hc, h]
theorem canO_bad (q : Bool) {c : UInt8} (h : plnB q c = false) (hc : c ≠ 37) (t : List UInt8) : canO q (c :: t) = none := by
  rw [canO.eq_def]; simp [hc, h]
/-- The induction along canO. -/
theorem canO_rec (q : Bool) (P : List UInt8 → Prop) (h0 : P []) (hp : ∀ a b r, okB a b = true → P r → P (37 :: a :: b :: r)) (hc : ∀ c t, plnB q c = true → P t → P (c :: t))
    : ∀ (n : Nat) (l x : List UInt8), l.length ≤ n → canO q l = some x → P l := by
  intro n
  induction n with
  | zero => intro l x hl _; cases l with
    | nil => exact h0
    | cons => simp at hl
  | succ n ih =>
    intro l x hl hx
    match l with
    | [] => exact h0
    | c :: t =>
      by_cases h37 : c = 37
      · subst h37
        match t with
        | [] => rw [canO_pct0] at hx; cases hx
        | [a] => rw [canO_pct1] at hx; cases hx
        | a :: b :: r =>
          rw [canO_pct] at hx
          by_cases hok : okB a b = true
          · rw [if_pos hok] at hx
            cases hr : canO q r with
            | none => rw [hr] at hx; cases hx
            | some y => exact hp a b r hok (ih r y (by simp at hl; omega) hr)
          · rw [if_neg hok] at hx; cases hx
      · by_cases hpl : plnB q c = true
        · rw [canO_plain q hpl] at hx
          cases hr : canO q t with
          | none => rw [hr] at hx; cases hx
          | some y => exact hc c t hpl (ih t y (by simpa using hl) hr)
        · rw [canO_bad q (by simpa using hpl) h37] at hx; cases hx
theorem canO_app {q : Bool} {a x : List UInt8} (h : canO q a = some x) (b : List UInt8) : canO q (a ++ b) = (canO q b).map (x ++ ·) := by
  have key := canO_rec q (fun l => ∀ x, canO q l = some x → canO q (l ++ b) = (canO q b).map (x ++ ·)) (fun x hx => ?_) (fun c d r hok ih x hx => ?_) (fun c t hpl ih x hx => ?_) a.length a x (Nat.le_refl _) h
  · exact key x h
  · simp [canO] at hx; subst hx; simp
  · rw [canO_pct, if_pos hok] at hx
    cases hr : canO q r with
    | none => rw [hr] at hx; cases hx
    | some y =>
      rw [hr] at hx; simp only [Option.map_some, Option.some.injEq] at hx; subst hx
      rw [List.cons_append, List.cons_append, List.cons_append, canO_pct, if_pos hok, ih y hr]
      cases canO q b <;> simp
  · rw [canO_plain q hpl] at hx
    cases hr : canO q t with
    | none => rw [hr] at hx; cases hx
    | some y =>
      rw [hr] at hx; simp only [Option.map_some, Option.some.injEq] at hx; subst hx
      rw [List.cons_append, canO_plain q hpl, ih y hr]
      cases canO q b <;> simp
theorem canO_app_plain {q : Bool} : ∀ (a : List UInt8), 37 ∉ a → ∀ b, canO q (a ++ b) = if a.all (plnB q) then (canO q b).map (a ++ ·) else none := by
  intro a
  induction a with
  | nil => intro _ b; simp
  | cons c t ih =>
    intro h b
    have hc : c ≠ 37 := fun e => h (by simp [e])
    have ht : 37 ∉ t := fun e => h (by simp [e])
    by_cases hp : plnB q c = true
    · rw [List.cons_append, canO_plain q hp, ih ht b]
      by_cases ha : t.all (plnB q) = true
      · rw [if_pos ha, if_pos (by simp [hp]; simpa using ha)]
        cases canO q b <;> rfl
      · rw [if_neg ha, if_neg (by simp [hp]; simpa using ha)]; rfl
    · rw [List.cons_append, canO_bad q (by simpa using hp) hc, if_neg (by simp [hp])]
theorem enc_self (q : Bool) (n : Nat) (h : n < 256) (h1 : 32 ≤ n) (h2 : n ≠ 127) (t : List UInt8) : canO q (encB n ++ t) = (canO q t).map (encB n ++ ·) := by
  unfold encB
  by_cases hu : unrB (UInt8.ofNat n) = true
  · rw [if_pos hu]
    have := (unr_fin ⟨n, h⟩ hu).2.2
    rw [List.singleton_append, canO_plain q (plnB_of_path this)]
    cases canO q t <;> rfl
  · rw [if_neg hu]
    obtain ⟨e1, e2⟩ := enc_fin ⟨n, h⟩ h1 h2 (by simpa using hu)
    simp only at e1 e2
    have : ([37, hexD (n / 16), hexD (n % 16)] : List UInt8) ++ t = 37 :: hexD (n / 16) :: hexD (n % 16) :: t := rfl
    rw [this, canO_pct, if_pos e1, e2]
    unfold encB; rw [if_neg hu]
theorem canO_idem {q : Bool} {l x : List UInt8} (h : canO q l = some x) : canO q x = some x := by
  have key := canO_rec q (fun l => ∀ x, canO q l = some x → canO q x = some x) (fun x hx => ?_) (fun c d r hok ih x hx => ?_) (fun c t hpl ih x hx => ?_) l.length l x (Nat.le_refl _) h
  · exact key x h
  · simp [canO] at hx; subst hx; rfl
  · rw [canO_pct, if_pos hok] at hx
    cases hr : canO q r with
    | none => rw [hr] at hx; cases hx
    | some y =>
      rw [hr] at hx; simp only [Option.map_some, Option.some.injEq] at hx; subst hx
      obtain ⟨h1, h2, h3, h4⟩ := okB_iff.mp hok
      rw [enc_self q _ (valN_lt h1 h2).1 h3 h4, ih y hr]; rfl
  · rw [canO_plain q hpl] at hx
    cases hr : canO q t with
    | none => rw [hr] at hx; cases hx
    | some y =>
      rw [hr] at hx; simp only [Option.map_some, Option.some.injEq] at hx; subst hx
      rw [canO_plain q hpl, ih y hr]; rfl
theorem enc_noq (n : Nat) (h : n < 256) : 63 ∉ encB n := by
  unfold encB
  by_cases hu : unrB (UInt8.ofNat n) = true
  · rw [if_pos hu]
    have := (unr_fin ⟨n, h⟩ hu).2.1
    simp only at this
    simpa using fun e => this e.symm
  · rw [if_neg hu]
    have a1 := hexD_fin ⟨n / 16, by omega⟩
    have a2 := hexD_fin ⟨n % 16, by omega⟩
    simp only at a1 a2
    simp only [List.mem_cons, List.not_mem_nil, or_false, not_or]
    exact ⟨by decide, fun e => a1 e.symm, fun e => a2 e.symm⟩
theorem canO_noq {l x : List UInt8} (h : canO false l = some x) : 63 ∉ x := by
  have key := canO_rec false (fun l => ∀ x, canO false l = some x → 63 ∉ x) (fun x hx => ?_) (fun c d r hok ih x hx => ?_) (fun c t hpl ih x hx => ?_) l.length l x (Nat.le_refl _) h
  · exact key x h
  · simp [canO] at hx; subst hx; simp
  · rw [canO_pct, if_pos hok] at hx
    cases hr : canO false r with
    | none => rw [hr] at hx; cases hx
    | some y =>
      rw [hr] at hx; simp only [Option.map_some, Option.some.injEq] at hx; subst hx
      obtain ⟨h1, h2, h3, h4⟩ := okB_iff.mp hok
      rw [List.mem_append, not_or]
      exact ⟨enc_noq _ (valN_lt h1 h2).1, ih y hr⟩
  · rw [canO_plain false hpl] at hx
    cases hr : canO false t with
    | none => rw [hr] at hx; cases hx
    | some y =>
      rw [hr] at hx; simp only [Option.map_some, Option.some.injEq] at hx; subst hx
      rw [List.mem_cons, not_or]
      exact ⟨fun e => plnB_false hpl e.symm, ih y hr⟩
theorem enc_len (n : Nat) : 1 ≤ (encB n).length ∧ (encB n).length ≤ 3 := by unfold encB; split <;> simp
theorem canO_len {q : Bool} {l x : List UInt8} (h : canO q l = some x) : x.length ≤ l.length := by
  have key := canO_rec q (fun l => ∀ x, canO q l = some x → x.length ≤ l.length) (fun x hx => ?_) (fun c d r hok ih x hx => ?_) (fun c t hpl ih x hx => ?_) l.length l x (Nat.le_refl _) h
  · exact key x h
  · simp [canO] at hx; subst hx; simp
  · rw [canO_pct, if_pos hok] at hx
    cases hr : canO q r with
    | none => rw [hr] at hx; cases hx
    | some y =>
      rw [hr] at hx; simp only [Option.map_some, Option.some.injEq] at hx; subst hx
      have := ih y hr; have := enc_len (valN c d)
      simp; omega
  · rw [canO_plain q hpl] at hx
    cases hr : canO q t with
    | none => rw [hr] at hx; cases hx
    | some y =>
      rw [hr] at hx; simp only [Option.map_some, Option.some.injEq] at hx; subst hx
      have := ih y hr; simp; omega
/-- The first byte stays, if it is a slash. -/
theorem canO_slash {q : Bool} {t x : List UInt8} (h : canO q (47 :: t) = some x) : ∃ y, canO q t = some y ∧ x = 47 :: y := by
  rw [canO_plain q (by cases q <;> decide)] at h
  cases hr : canO q t with
  | none => rw [hr] at h; cases h
  | some y => rw [hr] at h; simp only [Option.map_some, Option.some.injEq] at h; exact ⟨y, rfl, h.symm⟩
theorem cutL_ne (c : UInt8) (l : List UInt8) : cutL c l ≠ [] := by
  cases l with
  | nil => simp [cutL]
  | cons x t =>
    unfold cutL; split
    · simp
    · split <;> simp
theorem cutL_sep (c : UInt8) (t : List UInt8) : cutL c (c :: t) = [] :: cutL c t := by rw [cutL]; simp
theorem cutL_cons {c x : UInt8} (h : x ≠ c) {t p : List UInt8} {r : List (List UInt8)} (e : cutL c t = p :: r) : cutL c (x :: t) = (x :: p) :: r := by
  rw [cutL, if_neg h, e]
/-- A part without separators in front. -/
theorem cutL_part {c : UInt8} : ∀ {a : List UInt8}, c ∉ a → ∀ {t p : List UInt8} {r : List (List UInt8)}, cutL c t = p :: r → cutL c (a ++ t) = (a ++ p) :: r := by
  intro a
  induction a with
  | nil => intro _ t p r e; exact e
  | cons x a ih =>
    intro h t p r e
    exact cutL_cons (fun h' => h (by simp [h'])) (ih (fun h' => h (by simp [h'])) e)
theorem cutL_none {c : UInt8} {a : List UInt8} (h : c ∉ a) : cutL c a = [a] := by
  have := cutL_part h (t := []) (p := []) (r := []) rfl
  simpa using this
theorem cutL_app (c : UInt8) : ∀ (a b : List UInt8), cutL c (a ++ c :: b) = cutL c a ++ cutL c b := by
  intro a
  induction a with
  | nil => intro b; simp [cutL_sep, cutL]
  | cons x t ih =>
    intro b
    by_cases hx : x = c
    · subst hx; rw [List.cons_append, cutL_sep, cutL_sep, ih]; rfl
    · cases e : cutL c t with
      | nil => exact absurd e (cutL_ne c t)
      | cons p r =>
        rw [List.cons_append, cutL_cons hx e, cutL_cons (p := p) (r := r ++ cutL c b) hx (by rw [ih, e]; rfl)]; rfl
theorem cutL_noc (c : UInt8) : ∀ (l s : List UInt8), s ∈ cutL c l → c ∉ s := by
  intro l
  induction l with
  | nil => intro s h; simp [cutL] at h; subst h; simp
  | cons x t ih =>
    intro s h
    by_cases hx : x = c
    · subst hx; rw [cutL_sep] at h
      rcases List.mem_cons.mp h with rfl | h
      · simp
      · exact ih s h
    · cases e : cutL c t with
      | nil => exact absurd e (cutL_ne c t)
      | cons p r =>
        rw [cutL_cons hx e] at h
        rcases List.mem_cons.mp h with rfl | h
        · have := ih p (by rw [e]; simp)
          rw [List.mem_cons, not_or]; exact ⟨fun e => hx e.symm, this⟩
        · exact ih s (by rw [e]; exact List.mem_cons_of_mem _ h)
theorem slashed_cutL (l : List UInt8) : slashed (cutL 47 l) = 47 :: l := by
  induction l with
  | nil => rfl
  | cons x t ih =>
    by_cases hx : x = 47
    · subst hx; rw [cutL_sep]
      show 47 :: ([] ++ slashed (cutL 47 t)) = _
      rw [ih]; rfl
    · cases e : cutL 47 t with
      | nil => exact absurd e (cutL_ne 47 t)
      | cons p r =>
        rw [cutL_cons hx e]; rw [e] at ih
        have : slashed (p :: r) = 47 :: (p ++ slashed r) := by simp [slashed]
        rw [this] at ih
        have : slashed ((x :: p) :: r) = 47 :: x :: (p ++ slashed r) := by simp [slashed]
        rw [this, (List.cons.inj ih).2]
theorem slashed_cons (s : List UInt8) (r : List (List UInt8)) : slashed (s :: r) = 47 :: (s ++ slashed r) := by simp [slashed]
theorem slashed_app (a b : List (List UInt8)) : slashed (a ++ b) = slashed a ++ slashed b := by simp [slashed]
theorem cutL_slashed : ∀ (ls : List (List UInt8)), ls ≠ [] → (∀ s ∈ ls, 47 ∉ s) → cutL 47 (slashed ls).tail = ls := by
  intro ls
  induction ls with
  | nil => intro h; exact absurd rfl h
  | cons s r ih =>
    intro _ h
    rw [slashed_cons, List.tail_cons]
    have hs := h s (by simp)
    cases r with
    | nil => simp [slashed, cutL_none hs]
    | cons s' r' =>
      have := ih (by simp) (fun u hu => h u (by simp [hu]))
      rw [slashed_cons] at this ⊢
      rw [cutL_app, cutL_none hs]
      rw [List.tail_cons] at this
      rw [this]; rfl
theorem cutL_len (c : UInt8) (l : List UInt8) : (cutL c l).length ≤ l.length + 1 := by
  induction l with
  | nil => simp [cutL]
  | cons x t ih =>
    by_cases hx : x = c
    · subst hx; rw [cutL_sep]; simp; omega
    · cases e : cutL c t with
      | nil => exact absurd e (cutL_ne c t)
      | cons p r => rw [cutL_cons hx e]; rw [e] at ih; simp at *; omega

theorem cutL_part_le (c : UInt8) : ∀ (l s : List UInt8), s ∈ cutL c l → s.length ≤ l.length := by
  intro l
  induction l with
  | nil => intro s h; simp [cutL] at h; subst h; simp
  | cons x t ih =>
    intro s h
    by_cases hx : x = c
    · subst hx; rw [cutL_sep] at h
      rcases List.mem_cons.mp h with rfl | h
      · simp
      · have := ih s h; simp; omega
    · cases e : cutL c t with
      | nil => exact absurd e (cutL_ne c t)
      | cons p r =>
        rw [cutL_cons hx e] at h
        rcases List.mem_cons.mp h with rfl | h
        · have := ih p (by rw [e]; simp); simp; omega
        · have := ih s (by rw [e]; exact List.mem_cons_of_mem _ h); simp; omega
theorem dotsF_plain : ∀ (l out : List (List UInt8)), (∀ s ∈ l, dotB s = false) → dotsF l out = some (out ++ l) := by
  intro l
  induction l with
  | nil => intro out _; simp [dotsF]
  | cons s r ih =>
    intro out h
    have hs := h s (by simp)
    simp only [dotB, Bool.or_eq_false_iff, beq_eq_false_iff_ne] at hs
    rw [dotsF, if_neg hs.1, if_neg hs.2, ih _ (fun u hu => h u (by simp [hu]))]
    simp
/-- What the left segments have in common. -/
theorem dotsF_all (P : List UInt8 → Prop) (h0 : P []) : ∀ (l out x : List (List UInt8)), (∀ s ∈ out, P s) → (∀ s ∈ l, dotB s = false → P s) → dotsF l out = some x → ∀ s ∈ x, P s := by
  intro l
  induction l with
  | nil => intro out x ho _ hx; simp [dotsF] at hx; subst hx; exact ho
  | cons s r ih =>
    intro out x ho hl hx
    have hr : ∀ s ∈ r, dotB s = false → P s := fun u hu => hl u (by simp [hu])
    rw [dotsF] at hx
    by_cases h1 : s = [46]
    · rw [if_pos h1] at hx
      refine ih _ x ?_ hr hx
      split
      · intro u hu; rcases List.mem_append.mp hu with hu | hu
        · exact ho u hu
        · simp at hu; subst hu; exact h0
      · exact ho
    · rw [if_neg h1] at hx
      by_cases h2 : s = [46, 46]
      · rw [if_pos h2] at hx
        by_cases h3 : out = []
        · rw [if_pos h3] at hx; cases hx
        · rw [if_neg h3] at hx
          refine ih _ x ?_ hr hx
          split
          · intro u hu; rcases List.mem_append.mp hu with hu | hu
            · exact ho u ((List.dropLast_sublist _).mem hu)
            · simp at hu; subst hu; exact h0
          · intro u hu; exact ho u ((List.dropLast_sublist _).mem hu)
      · rw [if_neg h2] at hx
        refine ih _ x ?_ hr hx
        intro u hu; rcases List.mem_append.mp hu with hu | hu
        · exact ho u hu
        · simp at hu; subst hu; exact hl _ (by simp) (by simp [dotB, h1, h2])
/-- The last segment leaves one at the end. -/
theorem dotsF_ne : ∀ (l out x : List (List UInt8)), (l ≠ [] ∨ out ≠ []) → dotsF l out = some x → x ≠ [] := by
  intro l
  induction l with
  | nil => intro out x h hx; simp [dotsF] at hx; subst hx; simpa using h
  | cons s r ih =>
    intro out x _ hx
    rw [dotsF] at hx
    by_cases hr : r = []
    · subst hr
      split at hx
      · exact ih _ x (Or.inr (by simp)) hx
      · split at hx
        · split at hx
          · cases hx
          · exact ih _ x (Or.inr (by simp)) hx
        · exact ih _ x (Or.inr (by simp)) hx
    · split at hx
      · exact ih _ x (Or.inl hr) hx
      · split at hx
        · split at hx
          · cases hx
          · exact ih _ x (Or.inl hr) hx
        · exact ih _ x (Or.inl hr) hx
theorem dotsF_idem {l x : List (List UInt8)} (h : dotsF l [] = some x) : dotsF x [] = some x := by
  have := dotsF_all (fun s => dotB s = false) (by decide) l [] x (by simp) (fun s _ h => h) h
  simpa using dotsF_plain x [] this
theorem dotsF_dot {r : List (List UInt8)} (h : r ≠ []) (out : List (List UInt8)) : dotsF ([46] :: r) out = dotsF r out := by
  rw [dotsF, if_pos rfl, if_neg h]
theorem dotsF_back {r : List (List UInt8)} (h : r ≠ []) (s : List UInt8) (hs : dotB s = false) (out : List (List UInt8)) : dotsF (s :: [46, 46] :: r) out = dotsF r out := by
  simp only [dotB, Bool.or_eq_false_iff, beq_eq_false_iff_ne] at hs
  rw [dotsF, if_neg hs.1, if_neg hs.2, dotsF, if_neg (by decide), if_pos rfl, if_neg (by simp), if_neg h]
  simp
/-- Two tails that agree for all segments left so far agree behind any beginning, if both or none are empty. -/
theorem dotsF_congr {a b : List (List UInt8)} (hab : a = [] ↔ b = []) (h : ∀ out, dotsF a out = dotsF b out) : ∀ (l out : List (List UInt8)), dotsF (l ++ a) out = dotsF (l ++ b) out := by
  intro l
  induction l with
  | nil => exact h
  | cons s r ih =>
    intro out
    have e : (r ++ a = []) ↔ (r ++ b = []) := by simp only [List.append_eq_nil_iff, hab]
    rw [List.cons_append, List.cons_append, dotsF, dotsF]
    simp only [e, ih]

theorem lowB_fin : ∀ n : Fin 256, lowB (lowB (UInt8.ofNat n.val)) = lowB (UInt8.ofNat n.val) ∧ alnB (lowB (UInt8.ofNat n.val)) = alnB (UInt8.ofNat n.val) ∧ (lowB (UInt8.ofNat n.val) = 46 ↔ UInt8.ofNat n.val = 46) ∧ (lowB (UInt8.ofNat n.val) = 45 ↔ UInt8.ofNat n.val = 45) ∧ (lowB (UInt8.ofNat n.val) = 47 ↔ UInt8.ofNat n.val = 47) := by decide +kernel
theorem lowB_facts (c : UInt8) : lowB (lowB c) = lowB c ∧ alnB (lowB c) = alnB c ∧ (lowB c = 46 ↔ c = 46) ∧ (lowB c = 45 ↔ c = 45) ∧ (lowB c = 47 ↔ c = 47) := by
  have := lowB_fin ⟨c.toNat, UInt8.toNat_lt c⟩
  simpa only [UInt8.ofNat_toNat] using this
theorem lowS_idem (l : List UInt8) : lowS (lowS l) = lowS l := by
  unfold lowS; rw [List.map_map]; congr 1; funext c; exact (lowB_facts c).1
theorem cutL_low (l : List UInt8) : cutL 46 (lowS l) = (cutL 46 l).map lowS := by
  induction l with
  | nil => rfl
  | cons x t ih =>
    by_cases hx : x = 46
    · subst hx
      show cutL 46 (lowB 46 :: lowS t) = _
      rw [show lowB 46 = 46 by decide, cutL_sep, cutL_sep, ih]; rfl
    · cases e : cutL 46 t with
      | nil => exact absurd e (cutL_ne 46 t)
      | cons p r =>
        rw [e] at ih
        show cutL 46 (lowB x :: lowS t) = _
        rw [cutL_cons hx e, cutL_cons (p := lowS p) (r := r.map lowS) (fun h => hx ((lowB_facts x).2.2.1.mp h)) ih]; rfl
theorem lblB_low (l : List UInt8) : lblB (lowS l) = lblB l := by
  have e1 : (lowS l).isEmpty = l.isEmpty := by cases l <;> rfl
  have e2 : (lowS l).length = l.length := by simp [lowS]
  have h45 : ∀ o : Option UInt8, (o.map lowB != some 45) = (o != some 45) := by
    intro o; cases o with
    | none => rfl
    | some c =>
      rw [Bool.eq_iff_iff]; simp only [Option.map_some, bne_iff_ne, ne_eq, Option.some.injEq]
      rw [(lowB_facts c).2.2.2.1]
  have e3 : (lowS l).head? = l.head?.map lowB := by simp [lowS]
  have e4 : (lowS l).getLast? = l.getLast?.map lowB := by simp [lowS]
  have e5 : ((lowS l).all lblC) = l.all lblC := by
    unfold lowS; rw [List.all_map]; congr 1; funext c
    simp only [Function.comp, lblC]
    rw [(lowB_facts c).2.1]
    congr 1; rw [Bool.eq_iff_iff]; simp only [beq_iff_eq]; exact (lowB_facts c).2.2.2.1
  unfold lblB; rw [e1, e2, e3, e4, e5, h45, h45]
theorem hostO_low (l : List UInt8) : hostO (lowS l) = hostO l := by
  unfold hostO
  rw [cutL_low, lowS_idem, show (lowS l).length = l.length by simp [lowS], List.all_map]
  have : (lblB ∘ lowS) = lblB := by funext s; exact lblB_low s
  rw [this]
theorem hostO_some {l h : List UInt8} (e : hostO l = some h) : h = lowS l ∧ l.length ≤ 100 ∧ (cutL 46 l).all lblB = true := by
  unfold hostO at e; split at e
  · rename_i h'; exact ⟨by simpa using e.symm, h'⟩
  · cases e
theorem hostO_idem {l h : List UInt8} (e : hostO l = some h) : hostO h = some h := by
  rw [(hostO_some e).1, hostO_low, ← (hostO_some e).1]; exact e
theorem cutL_mem (c : UInt8) : ∀ (l : List UInt8) (x : UInt8), x ∈ l → x ≠ c → ∃ s ∈ cutL c l, x ∈ s := by
  intro l
  induction l with
  | nil => intro x h; cases h
  | cons y t ih =>
    intro x h hx
    by_cases hy : y = c
    · subst hy; rw [cutL_sep]
      rcases List.mem_cons.mp h with rfl | h
      · exact absurd rfl hx
      · obtain ⟨s, hs, hxs⟩ := ih x h hx; exact ⟨s, by simp [hs], hxs⟩
    · cases e : cutL c t with
      | nil => exact absurd e (cutL_ne c t)
      | cons p r =>
        rw [cutL_cons hy e]
        rcases List.mem_cons.mp h with rfl | h
        · exact ⟨x :: p, List.mem_cons_self, List.mem_cons_self⟩
        · obtain ⟨s, hs, hxs⟩ := ih x h hx
          rw [e] at hs
          rcases List.mem_cons.mp hs with rfl | hs
          · exact ⟨y :: s, List.mem_cons_self, List.mem_cons_of_mem _ hxs⟩
          · exact ⟨s, by simp [hs], hxs⟩
theorem host_noslash {l h : List UInt8} (e : hostO l = some h) : 47 ∉ h := by
  have e' := (hostO_some (hostO_idem e)).2.2
  intro hm
  obtain ⟨s, hs, hxs⟩ := cutL_mem 46 h 47 hm (by decide)
  have := List.all_eq_true.mp e' s hs
  simp only [lblB, Bool.and_eq_true, List.all_eq_true] at this
  exact absurd (this.2 47 hxs) (by decide)

theorem pathO_some {l x : List UInt8} (h : pathO l = some x) : ∃ t y out, l = 47 :: t ∧ canO false t = some y ∧ dotsF (cutL 47 y) [] = some out ∧ x = slashed out := by
  unfold pathO at h
  split at h
  · rename_i t
    cases hc : canO false (47 :: t) with
    | none => rw [hc] at h; cases h
    | some p =>
      obtain ⟨y, hy, rfl⟩ := canO_slash hc
      rw [hc] at h
      simp only [Option.bind_some, List.tail_cons] at h
      cases hd : dotsF (cutL 47 y) [] with
      | none => rw [hd] at h; cases h
      | some out => rw [hd] at h; exact ⟨t, y, out, rfl, hy, hd, by simpa using h.symm⟩
  · cases h
theorem pathO_mk {t y : List UInt8} {out : List (List UInt8)} (h1 : canO false t = some y) (h2 : dotsF (cutL 47 y) [] = some out) : pathO (47 :: t) = some (slashed out) := by
  unfold pathO
  rw [canO_plain false (by decide), h1]
  simp [h2]
/-- The bytes of a path without dot segments are bytes of the path, or slashes. -/
theorem mem_slashed {ls : List (List UInt8)} {c : UInt8} (h : c ∈ slashed ls) : c = 47 ∨ ∃ s ∈ ls, c ∈ s := by
  unfold slashed at h
  rw [List.mem_flatMap] at h
  obtain ⟨s, hs, hc⟩ := h
  rcases List.mem_cons.mp hc with rfl | hc
  · exact Or.inl rfl
  · exact Or.inr ⟨s, hs, hc⟩
theorem canO_plainAll {q : Bool} {l : List UInt8} (h : ∀ c ∈ l, plnB q c = true) : canO q l = some l := by
  induction l with
  | nil => rfl
  | cons c t ih => rw [canO_plain q (h c (by simp)), ih (fun u hu => h u (by simp [hu]))]; rfl
/-- Canonical parts joined by slashes are canonical. -/
theorem canO_slashed {ls : List (List UInt8)} (h : ∀ s ∈ ls, canO false s = some s) : canO false (slashed ls) = some (slashed ls) := by
  induction ls with
  | nil => rfl
  | cons s r ih =>
    rw [slashed_cons, canO_plain false (by decide), canO_app (h s (by simp)), ih (fun u hu => h u (by simp [hu]))]; rfl
/-- Each part of a canonical text is canonical: no encoded byte is cut, as a slash is none of its bytes. -/
theorem canO_parts : ∀ (n : Nat) (l : List UInt8), l.length ≤ n → canO false l = some l → ∀ s ∈ cutL 47 l, canO false s = some s := by
  intro n
  induction n with
  | zero => intro l hl _ s hs; cases l with
    | nil => simp [cutL] at hs; subst hs; rfl
    | cons => simp at hl
  | succ n ih =>
    intro l hl hc s hs
    match l with
    | [] => simp [cutL] at hs; subst hs; rfl
    | c :: t =>
      by_cases h37 : c = 37
      · subst h37
        match t with
        | [] => rw [canO_pct0] at hc; cases hc
        | [a] => rw [canO_pct1] at hc; cases hc
        | a :: b :: r =>
          rw [canO_pct] at hc
          by_cases hok : okB a b = true
          · rw [if_pos hok] at hc
            cases hr : canO false r with
            | none => rw [hr] at hc; cases hc
            | some y =>
              rw [hr] at hc; simp only [Option.map_some, Option.some.injEq] at hc
              obtain ⟨h1, h2, h3, h4⟩ := okB_iff.mp hok
              have hv := (valN_lt h1 h2).1
              have hlen := canO_len hr
              -- the encoded byte is written with three bytes
              have h3l : (encB (valN a b)).length = 3 := by
                have := congrArg List.length hc
                have := enc_len (valN a b)
                simp at *; omega
              have he : encB (valN a b) = [37, a, b] ∧ y = r := by
                have hcc : encB (valN a b) ++ y = [37, a, b] ++ r := hc
                exact List.append_inj hcc (by rw [h3l]; rfl)
              obtain ⟨he, rfl⟩ := he
              have ha : a ≠ 47 := by rintro rfl; exact absurd h1 (by decide)
              have hb : b ≠ 47 := by rintro rfl; exact absurd h2 (by decide)
              cases e : cutL 47 y with
              | nil => exact absurd e (cutL_ne 47 y)
              | cons p q =>
                have hcut : cutL 47 (37 :: a :: b :: y) = ([37, a, b] ++ p) :: q := cutL_part (a := [37, a, b]) (by simp; exact ⟨fun e => ha e.symm, fun e => hb e.symm⟩) e
                rw [hcut] at hs
                have ihy := ih y (by simp at hl; omega) hr
                rcases List.mem_cons.mp hs with rfl | hs
                · have hp := ihy p (by rw [e]; simp)
                  show canO false (37 :: a :: b :: p) = _
                  rw [canO_pct, if_pos hok, hp, he]; rfl
                · exact ihy s (by rw [e]; exact List.mem_cons_of_mem _ hs)
          · rw [if_neg hok] at hc; cases hc
      · by_cases hpl : plnB false c = true
        · rw [canO_plain false hpl] at hc
          cases hr : canO false t with
          | none => rw [hr] at hc; cases hc
          | some y =>
            rw [hr] at hc; simp only [Option.map_some, Option.some.injEq, List.cons.injEq, true_and] at hc; subst hc
            have iht := ih y (by simpa using hl) hr
            by_cases hcs : c = 47
            · subst hcs
              rw [cutL_sep] at hs
              rcases List.mem_cons.mp hs with rfl | hs
              · rfl
              · exact iht s hs
            · cases e : cutL 47 y with
              | nil => exact absurd e (cutL_ne 47 y)
              | cons p q =>
                rw [cutL_cons hcs e] at hs
                rcases List.mem_cons.mp hs with rfl | hs
                · rw [canO_plain false hpl, iht p (by rw [e]; simp)]; rfl
                · exact iht s (by rw [e]; exact List.mem_cons_of_mem _ hs)
        · rw [canO_bad false (by simpa using hpl) h37] at hc; cases hc
theorem pathO_facts {l x : List UInt8} (h : pathO l = some x) : pathO x = some x ∧ 63 ∉ x ∧ ∃ t, x = 47 :: t := by
  obtain ⟨t, y, out, rfl, hy, hd, rfl⟩ := pathO_some h
  have hyy := canO_idem hy
  have hparts := canO_parts y.length y (Nat.le_refl _) hyy
  have hcan := dotsF_all (fun s => canO false s = some s) rfl (cutL 47 y) [] out (by simp) (fun s hs _ => hparts s hs) hd
  have hno := dotsF_all (fun s => 47 ∉ s) (by simp) (cutL 47 y) [] out (by simp) (fun s hs _ => cutL_noc 47 y s hs) hd
  have hne := dotsF_ne (cutL 47 y) [] out (Or.inl (cutL_ne 47 y)) hd
  obtain ⟨t', ht'⟩ : ∃ t', slashed out = 47 :: t' := by
    cases out with
    | nil => exact absurd rfl hne
    | cons s r => exact ⟨_, slashed_cons s r⟩
  have hcs := canO_slashed hcan
  refine ⟨?_, canO_noq hcs, t', ht'⟩
  have hcut := cutL_slashed out hne hno
  rw [ht'] at hcs hcut ⊢
  rw [List.tail_cons] at hcut
  obtain ⟨y', hy', he⟩ := canO_slash hcs
  obtain rfl : t' = y' := (List.cons.inj he).2
  rw [pathO_mk hy' (by rw [hcut]; exact dotsF_idem hd), ← ht']
theorem cutC_no {c : UInt8} {l : List UInt8} (h : c ∉ l) : cutC c l = (l, [], false) := by
  induction l with
  | nil => rfl
  | cons x t ih =>
    have hc : x ≠ c := fun e => h (by simp [e])
    rw [cutC, if_neg hc, ih (fun e => h (by simp [e]))]
theorem cutC_at {c : UInt8} {l : List UInt8} (h : c ∉ l) (r : List UInt8) : cutC c (l ++ c :: r) = (l, r, true) := by
  induction l with
  | nil => simp [cutC]
  | cons x t ih =>
    have hc : x ≠ c := fun e => h (by simp [e])
    rw [List.cons_append, cutC, if_neg hc, ih (fun e => h (by simp [e]))]
theorem cutC_len (c : UInt8) (l : List UInt8) : (cutC c l).1.length ≤ l.length ∧ (cutC c l).2.1.length ≤ l.length := by
  induction l with
  | nil => simp [cutC]
  | cons x t ih => rw [cutC]; split <;> simp <;> omega
theorem cutC_off {c : UInt8} {l : List UInt8} (h : (cutC c l).2.2 = false) : (cutC c l).2.1 = [] := by
  induction l with
  | nil => rfl
  | cons x t ih =>
    rw [cutC] at h ⊢; split
    · rename_i hc; rw [if_pos hc] at h; cases h
    · rename_i hc; rw [if_neg hc] at h; exact ih h
theorem segL_slash (t : List UInt8) : segL (47 :: t) = cutL 47 t := by simp [segL, cutC]
theorem segL_len (l : List UInt8) : (segL l).length ≤ l.length + 1 := by
  unfold segL; split
  · have := cutL_len 47 (cutC 47 l).2.1; have := (cutC_len 47 l).2; omega
  · simp
theorem parseA_ok {h t : List UInt8} {a : Adr} (e : parseA h t = (0, a)) :
    hostO h = some a.h ∧ pathO (cutC 63 t).1 = some a.p ∧ canO true (cutC 63 t).2.1 = some a.q ∧ a.b = (cutC 63 t).2.2 ∧ a.text.length ≤ 1024 := by
  unfold parseA at e
  split at e
  · simp at e
  · rename_i h' hh
    split at e
    · rename_i p q hp hq
      split at e
      · rename_i hl
        simp only [Prod.mk.injEq, true_and] at e
        subst e
        exact ⟨hh, hp, hq, rfl, hl⟩
      · simp at e
    · simp at e
theorem parseA_mk {h t : List UInt8} {a : Adr} (h1 : hostO h = some a.h) (h2 : pathO (cutC 63 t).1 = some a.p) (h3 : canO true (cutC 63 t).2.1 = some a.q) (h4 : a.b = (cutC 63 t).2.2) (h5 : a.text.length ≤ 1024) : parseA h t = (0, a) := by
  obtain ⟨ah, ap, aq, ab⟩ := a
  simp only at h1 h2 h3 h4
  subst h4
  unfold parseA
  rw [h1, h2, h3]
  simp only
  rw [if_pos h5]
theorem parseA_zero {h t : List UInt8} (e : (parseA h t).1 ≠ 0) : (parseA h t).2 = .zero := by
  unfold parseA at *
  split
  · rfl
  · split
    · split
      · rename_i h' hh _ _ p q hp hq hl
        rw [hh, hp, hq] at e
        simp only at e
        rw [if_pos hl] at e
        exact absurd rfl e
      · rfl
    · rfl
theorem target_cut {a : Adr} (hp : 63 ∉ a.p) (hq : a.b = false → a.q = []) : cutC 63 a.target = (a.p, a.q, a.b) := by
  unfold Adr.target
  cases hb : a.b with
  | false => rw [if_neg (by simp), cutC_no hp, hq hb]
  | true => rw [if_pos rfl, cutC_at hp]
/-- The address that is parsed again is the same. -/
theorem parseA_again {h t : List UInt8} {a : Adr} (e : parseA h t = (0, a)) : parseA a.h a.target = (0, a) := by
  obtain ⟨h1, h2, h3, h4, h5⟩ := parseA_ok e
  obtain ⟨p1, p2, _⟩ := pathO_facts h2
  have hq : a.b = false → a.q = [] := by
    intro hb
    rw [h4] at hb
    rw [cutC_off hb] at h3
    simpa [canO] using h3.symm
  have hc := target_cut p2 hq
  exact parseA_mk (hostO_idem h1) (by rw [hc]; exact p1) (by rw [hc]; exact canO_idem h3) (by rw [hc]) h5
theorem validA_of {h t : List UInt8} {a : Adr} (e : parseA h t = (0, a)) : validA a = true := by
  unfold validA
  rw [parseA_again e]
  obtain ⟨h1, h2, h3, h4, h5⟩ := parseA_ok e
  cases hb : a.b with
  | true => simp
  | false =>
    rw [h4] at hb
    rw [cutC_off hb] at h3
    have : a.q = [] := by simpa [canO] using h3.symm
    simp [this]
theorem takeWhile_host {h : List UInt8} (hh : 47 ∉ h) (t : List UInt8) : (h ++ 47 :: t).takeWhile (· ≠ 47) = h := by
  rw [List.takeWhile_append_of_pos (by intro c hc; simp; rintro rfl; exact hh hc)]
  simp
theorem readO_of {h t : List UInt8} {a : Adr} (e : parseA h t = (0, a)) : readO a.text = some a := by
  obtain ⟨h1, h2, h3, h4, h5⟩ := parseA_ok e
  obtain ⟨_, _, t', ht'⟩ := pathO_facts h2
  have hno := host_noslash h1
  have hx : ∃ u, a.target = 47 :: u := by unfold Adr.target; rw [ht']; split <;> exact ⟨_, rfl⟩
  obtain ⟨u, hu⟩ := hx
  have htk : a.text.takeWhile (· ≠ 47) = a.h := by unfold Adr.text; rw [hu]; exact takeWhile_host hno u
  have hag := parseA_again e
  unfold readO
  simp only [htk]
  have hd : a.text.drop a.h.length = a.target := by unfold Adr.text; simp
  rw [hd, hag]; simp
theorem readO_some {l : List UInt8} {a : Adr} (h : readO l = some a) : validA a = true ∧ a.text = l := by
  unfold readO at h
  simp only at h
  split at h
  · rename_i hc
    simp only [Option.some.injEq] at h
    subst h
    refine ⟨validA_of (h := l.takeWhile (· ≠ 47)) (t := l.drop (l.takeWhile (· ≠ 47)).length) (Prod.ext hc.1 rfl), hc.2⟩
  · cases h
end Go.Proofs.YthjkneifffdglaaDoor
