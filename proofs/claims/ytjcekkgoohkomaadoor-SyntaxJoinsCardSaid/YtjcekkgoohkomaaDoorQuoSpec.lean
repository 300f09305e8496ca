/- Plain mathematics: what a quoted string is, and what it stands for. -/
import Derived.Test.YtjcekkgoohkomaaDoorScan
namespace Go.Proofs.YtjcekkgoohkomaaDoor

def esc (c : UInt8) : List UInt8 := if c = 34 ∨ c = 92 then [92, c] else [c]
def escS (l : List UInt8) : List UInt8 := l.flatMap esc
def quoS (l : List UInt8) : List UInt8 := 34 :: escS l ++ [34]
theorem escS_snoc (l : List UInt8) (c : UInt8) : escS (l ++ [c]) = escS l ++ esc c := by simp [escS]
theorem escS_le (l : List UInt8) : (escS l).length ≤ 2 * l.length := by
  induction l with
  | nil => simp [escS]
  | cons c t ih =>
    have : escS (c :: t) = esc c ++ escS t := rfl
    rw [this, List.length_append, List.length_cons]
    have : (esc c).length ≤ 2 := by unfold esc; split <;> simp
    omega
theorem escS_take (s : ByteArray) (k : Nat) (h : k < s.size) : escS (s.data.toList.take (k + 1)) = escS (s.data.toList.take k) ++ esc s[k] := by
  rw [take_snoc s k h, escS_snoc]
theorem escS_le_take (s : ByteArray) (k : Nat) : (escS (s.data.toList.take k)).length ≤ 2 * k := by
  have := escS_le (s.data.toList.take k)
  have := List.length_take_le k s.data.toList
  omega

/-- What the items stand for; 'true': behind a backslash. -/
def uq : Bool → List UInt8 → Option (List UInt8)
  | false, [] => some []
  | true, [] => none
  | false, c :: r => if c = 34 then none else if c = 92 then uq true r else (uq false r).map (c :: ·)
  | true, c :: r => (uq false r).map (c :: ·)
/-- The same, with the closing quote. -/
def rq : Bool → List UInt8 → Option (List UInt8)
  | _, [] => none
  | false, c :: r => if c = 34 then (if r = [] then some [] else none) else if c = 92 then rq true r else (rq false r).map (c :: ·)
  | true, c :: r => (rq false r).map (c :: ·)
theorem rq_uq (x : UInt8) : ∀ (l : List UInt8) (e : Bool), rq e (l ++ [x]) = if x = 34 then uq e l else none := by
  intro l
  induction l with
  | nil =>
    intro e
    cases e
    · by_cases h : x = 34
      · subst h; simp [rq, uq]
      · by_cases h2 : x = 92 <;> simp [rq, h]
    · simp [rq, uq]
  | cons c r ih =>
    intro e
    cases e
    · by_cases h : c = 34
      · subst h; simp [rq, uq]
      · by_cases h2 : c = 92
        · subst h2; simp only [List.cons_append, rq, uq, if_neg h, ih]; simp
        · simp only [List.cons_append, rq, uq, if_neg h, if_neg h2, ih]
          split <;> simp
    · simp only [List.cons_append, rq, uq, ih]
      split <;> simp

def unqO (l : List UInt8) : Option (List UInt8) := if ctlS l = true ∨ l.length < 2 ∨ l.headD 0 ≠ 34 then none else rq false (l.drop 1)

/-- Unquote of Quote: the escaped bytes stand for the bytes. -/
theorem uq_esc (l : List UInt8) : uq false (escS l) = some l := by
  induction l with
  | nil => rfl
  | cons c t ih =>
    have e : escS (c :: t) = esc c ++ escS t := rfl
    rw [e]
    unfold esc
    by_cases h : c = 34 ∨ c = 92
    · rw [if_pos h]
      show uq false (92 :: c :: escS t) = _
      simp [uq, ih]
    · rw [if_neg h]
      have h1 : c ≠ 34 := fun e => h (.inl e)
      have h2 : c ≠ 92 := fun e => h (.inr e)
      show uq false (c :: escS t) = _
      simp [uq, ih, h1, h2]
theorem ctl_esc (c : UInt8) (h : ctlB c = false) : ctlS (esc c) = false := by
  unfold esc ctlS
  split
  · simp [h]; decide
  · simp [h]
theorem ctl_escS (l : List UInt8) (h : ctlS l = false) : ctlS (escS l) = false := by
  induction l with
  | nil => rfl
  | cons c t ih =>
    have e : escS (c :: t) = esc c ++ escS t := rfl
    have h' : ctlB c = false ∧ ctlS t = false := by simpa [ctlS] using h
    rw [e]
    have a := ctl_esc c h'.1
    have b := ih h'.2
    unfold ctlS at *
    rw [List.any_append, a, b]; rfl
theorem unq_quo (l : List UInt8) (h : ctlS l = false) : unqO (quoS l) = some l := by
  have hc : ctlS (quoS l) = false := by
    have := ctl_escS l h
    unfold quoS ctlS at *
    simp [this]; decide
  unfold unqO
  rw [if_neg]
  · show rq false (escS l ++ [34]) = _
    rw [rq_uq, if_pos rfl, uq_esc]
  · rintro (h1 | h1 | h1)
    · rw [hc] at h1; cases h1
    · simp [quoS] at h1; omega
    · exact h1 rfl
/-- The state of the reader of items: out is what the items before j stand for. -/
def UInv (l out : List UInt8) (j : Nat) : Prop := j ≤ l.length ∧ out.length ≤ j ∧ uq false l = (uq false (l.drop j)).map (out ++ ·)
theorem UInv0 (l : List UInt8) : UInv l [] 0 := ⟨Nat.zero_le _, by simp, by simp⟩
theorem UInv.bad {l out : List UInt8} {j : Nat} (h : UInv l out j) (hj : j < l.length) (hc : l[j] = 34) : uq false l = none := by
  rw [h.2.2, List.drop_eq_getElem_cons hj, hc]; rfl
theorem UInv.step {l out : List UInt8} {j : Nat} (h : UInv l out j) (hj : j < l.length) (h34 : l[j] ≠ 34) (h92 : l[j] ≠ 92) : UInv l (out ++ [l[j]]) (j + 1) := by
  obtain ⟨_, h1, h2⟩ := h
  refine ⟨hj, by simp; omega, ?_⟩
  rw [h2, List.drop_eq_getElem_cons hj]
  generalize l.drop (j + 1) = r
  rw [uq, if_neg h34, if_neg h92]
  cases uq false r <;> simp
theorem UInv.last {l out : List UInt8} {j : Nat} (h : UInv l out j) (hj : j < l.length) (h92 : l[j] = 92) (hl : l.length ≤ j + 1) : uq false l = none := by
  rw [h.2.2, List.drop_eq_getElem_cons hj, h92, List.drop_eq_nil_of_le hl]; rfl
theorem UInv.two {l out : List UInt8} {j : Nat} (h : UInv l out j) (hj : j + 1 < l.length) (h92 : l[j] = 92) : UInv l (out ++ [l[j + 1]]) (j + 2) := by
  obtain ⟨_, h1, h2⟩ := h
  refine ⟨hj, by simp; omega, ?_⟩
  rw [h2, List.drop_eq_getElem_cons (by omega : j < l.length), List.drop_eq_getElem_cons hj, h92]
  show _ = Option.map _ (uq false (l.drop (j + 1 + 1)))
  generalize l.drop (j + 1 + 1) = r
  show Option.map _ (uq true (l[j + 1] :: r)) = _
  rw [uq]
  cases uq false r <;> simp
theorem UInv.done {l out : List UInt8} {j : Nat} (h : UInv l out j) (hj : l.length ≤ j) : uq false l = some out := by
  rw [h.2.2, List.drop_eq_nil_of_le hj]; simp [uq]
/-- The same for the reader that looks for the closing quote: l is the whole string, its first byte is read. -/
def RInv (l out : List UInt8) (i : Nat) : Prop :=
  1 ≤ i ∧ out.length ≤ i ∧ ((i ≤ l.length ∧ rq false (l.drop 1) = (rq false (l.drop i)).map (out ++ ·)) ∨ (i = l.length + 1 ∧ rq false (l.drop 1) = none))
theorem RInv0 (l : List UInt8) (h : 1 ≤ l.length) : RInv l [] 1 := ⟨Nat.le_refl _, by simp, .inl ⟨h, by simp⟩⟩
theorem RInv.eq {l out : List UInt8} {i : Nat} (h : RInv l out i) (hi : i ≤ l.length) : rq false (l.drop 1) = (rq false (l.drop i)).map (out ++ ·) := by
  rcases h.2.2 with h | h
  · exact h.2
  · omega
theorem RInv.step {l out : List UInt8} {i : Nat} (h : RInv l out i) (hi : i < l.length) (h34 : l[i] ≠ 34) (h92 : l[i] ≠ 92) : RInv l (out ++ [l[i]]) (i + 1) := by
  have e := h.eq (by omega)
  refine ⟨by omega, by have := h.2.1; simp; omega, .inl ⟨hi, ?_⟩⟩
  rw [e, List.drop_eq_getElem_cons hi]
  generalize l.drop (i + 1) = r
  rw [rq, if_neg h34, if_neg h92]
  cases rq false r <;> simp
theorem RInv.two {l out : List UInt8} {i : Nat} (h : RInv l out i) (hi : i + 1 < l.length) (h92 : l[i] = 92) : RInv l (out ++ [l[i + 1]]) (i + 2) := by
  have e := h.eq (by omega)
  refine ⟨by omega, by have := h.2.1; simp; omega, .inl ⟨hi, ?_⟩⟩
  rw [e, List.drop_eq_getElem_cons (by omega : i < l.length), List.drop_eq_getElem_cons hi, h92]
  show _ = Option.map _ (rq false (l.drop (i + 1 + 1)))
  generalize l.drop (i + 1 + 1) = r
  show Option.map _ (rq true (l[i + 1] :: r)) = _
  rw [rq]
  cases rq false r <;> simp
theorem RInv.last {l out : List UInt8} {i : Nat} (h : RInv l out i) (hi : i < l.length) (h92 : l[i] = 92) (hl : l.length ≤ i + 1) : RInv l out (i + 2) := by
  have e := h.eq (by omega)
  refine ⟨by omega, by have := h.2.1; omega, .inr ⟨by omega, ?_⟩⟩
  rw [e, List.drop_eq_getElem_cons hi, h92, List.drop_eq_nil_of_le hl]; rfl
theorem RInv.stop {l out : List UInt8} {i : Nat} (h : RInv l out i) (hi : i < l.length) (hc : l[i] = 34) : rq false (l.drop 1) = if i + 1 = l.length then some out else none := by
  rw [h.eq (by omega), List.drop_eq_getElem_cons hi, hc]
  by_cases hl : i + 1 = l.length
  · rw [if_pos hl, List.drop_eq_nil_of_le (by omega)]; simp [rq]
  · rw [if_neg hl]
    have : l.drop (i + 1) ≠ [] := by simp; omega
    simp [rq, this]
theorem RInv.past {l out : List UInt8} {i : Nat} (h : RInv l out i) (hi : l.length ≤ i) : rq false (l.drop 1) = none := by
  rcases h.2.2 with h | h
  · rw [h.2, List.drop_eq_nil_of_le hi]; rfl
  · exact h.2
end Go.Proofs.YtjcekkgoohkomaaDoor
