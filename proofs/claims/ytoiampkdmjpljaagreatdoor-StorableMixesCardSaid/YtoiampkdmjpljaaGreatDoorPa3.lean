import Derived.Test.YtoiampkdmjpljaaGreatDoorPa0
import Derived.Test.YtoiampkdmjpljaaGreatDoorPa1
import Derived.Test.YtoiampkdmjpljaaGreatDoorPa2
/- Plain mathematics: what a quoted string is, and what it stands for. -/
namespace Go.Proofs.YtoiampkdmjpljaaGreatDoor

def esc (c : UInt8) : List UInt8 := if c = 34 ∨ c = 92 then [92, c] else [c]
def escS (l : List UInt8) : List UInt8 := l.flatMap esc
def quoS (l : List UInt8) : List UInt8 := 34 :: escS l ++ [34]
theorem escS_snoc (l : List UInt8) (c : UInt8) : escS (l ++ [c]) = escS l ++ esc c := by simp [escS]
theorem escS_le (l : List UInt8) : (escS l).length ≤ 2 * l.length := by
  induction l with
  | nil => simp [escS]
  | cons c t ih =>
    have : escS (c :: t) = esc c ++ escS t := rfl
    rw [this, List.length_append, List.length_cons]
    have : (esc c).length ≤ 2 := by unfold esc; split <;> simp
    omega
theorem escS_take (s : ByteArray) (k : Nat) (h : k < s.size) : escS (s.data.toList.take (k + 1)) = escS (s.data.toList.take k) ++ esc s[k] := by
  rw [take_snoc s k h, escS_snoc]
theorem escS_le_take (s : ByteArray) (k : Nat) : (escS (s.data.toList.take k)).length ≤ 2 * k := by
  have := escS_le (s.data.toList.take k)
  have := List.length_take_le k s.data.toList
  omega

/-- What the items stand for; 'true': behind a backslash. -/
def uq : Bool → List UInt8 → Option (List UInt8)
  | false, [] => some []
  | true, [] => none
  | false, c :: r => if c = 34 then none else if c = 92 then uq true r else (uq false r).map (c :: ·)
  | true, c :: r => (uq false r).map (c :: ·)
/-- The same, with the closing quote. -/
def rq : Bool → List UInt8 → Option (List UInt8)
  | _, [] => none
  | false, c :: r => if c = 34 then (if r = [] then some [] else none) else if c = 92 then rq true r else (rq false r).map (c :: ·)
  | true, c :: r => (rq false r).map (c :: ·)
theorem rq_uq (x : UInt8) : ∀ (l : List UInt8) (e : Bool), rq e (l ++ [x]) = if x = 34 then uq e l else none := by
  intro l
  induction l with
  | nil =>
    intro e
    cases e
    · by_cases h : x = 34
      · subst h; simp [rq, uq]
      · by_cases h2 : x = 92 <;> simp [rq, h]
    · simp [rq, uq]
  | cons c r ih =>
    intro e
    cases e
    · by_cases h : c = 34
      · subst h; simp [rq, uq]
      · by_cases h2 : c = 92
        · subst h2; simp only [List.cons_append, rq, uq, if_neg h, ih]; simp
        · simp only [List.cons_append, rq, uq, if_neg h, if_neg h2, ih]
          split <;> simp
    · simp only [List.cons_append, rq, uq, ih]
      split <;> simp

def unqO (l : List UInt8) : Option (List UInt8) := if ctlS l = true ∨ l.length < 2 ∨ l.headD 0 ≠ 34 then none else rq false (l.drop 1)

/-- Unquote of Quote: the escaped bytes stand for the bytes. -/
theorem uq_esc (l : List UInt8) : uq false (escS l) = some l := by
  induction l with
  | nil => rfl
  | cons c t ih =>
    have e : escS (c :: t) = esc c ++ escS t := rfl
    rw [e]
    unfold esc
    by_cases h : c = 34 ∨ c = 92
    · rw [if_pos h]
      show uq false (92 :: c :: escS t) = _
      simp [uq, ih]
    · rw [if_neg h]
      have h1 : c ≠ 34 := fun e => h (.inl e)
      have h2 : c ≠ 92 := fun e => h (.inr e)
      show uq false (c :: escS t) = _
      simp [uq, ih, h1, h2]
theorem ctl_esc (c : UInt8) (h : ctlB c = false) : ctlS (esc c) = false := by
  unfold esc ctlS
  split
  · simp [h]; decide
  · simp [h]
theorem ctl_escS (l : List UInt8) (h : ctlS l = false) : ctlS (escS l) = false := by
  induction l with
  | nil => rfl
  | cons c t ih =>
    have e : escS (c :: t) = esc c ++ escS t := rfl
    have h' : ctlB c = false ∧ ctlS t = false := by simpa [ctlS] using h
    rw [e]
    have a := ctl_esc c h'.1
    have b := ih h'.2
    unfold ctlS at *
    rw [List.any_append, a, b]; rfl
theorem unq_quo (l : List UInt8) (h : ctlS l = false) : unqO (quoS l) = some l := by
  have hc : ctlS (quoS l) = false := by
    have := ctl_escS l h
    unfold quoS ctlS at *
    simp [this]; decide
  unfold unqO
  rw [if_neg]
  · show rq false (escS l ++ [34]) = _
    rw [rq_uq, if_pos rfl, uq_esc]
  · rintro (h1 | h1 | h1)
    · rw [hc] at h1; cases h1
    · simp [quoS] at h1; omega
    · exact h1 rfl
/-- The state of the reader of items: out is what the items before j stand for. -/
def UInv (l out : List UInt8) (j : Nat) : Prop := j ≤ l.length ∧ out.length ≤ j ∧ uq false l = (uq false (l.drop j)).map (out ++ ·)
theorem UInv0 (l : List UInt8) : UInv l [] 0 := ⟨Nat.zero_le _, by simp, by simp⟩
theorem UInv.bad {l out : List UInt8} {j : Nat} (h : UInv l out j) (hj : j < l.length) (hc : l[j] = 34) : uq false l = none := by
  rw [h.2.2, List.drop_eq_getElem_cons hj, hc]; rfl
theorem UInv.step {l out : List UInt8} {j : Nat} (h : UInv l out j) (hj : j < l.length) (h34 : l[j] ≠ 34) (h92 : l[j] ≠ 92) : UInv l (out ++ [l[j]]) (j + 1) := by
  obtain ⟨_, h1, h2⟩ := h
  refine ⟨hj, by simp; omega, ?_⟩
  rw [h2, List.drop_eq_getElem_cons hj]
  generalize l.drop (j + 1) = r
  rw [uq, if_neg h34, if_neg h92]
  cases uq false r <;> simp
theorem UInv.last {l out : List UInt8} {j : Nat} (h : UInv l out j) (hj : j < l.length) (h92 : l[j] = 92) (hl : l.length ≤ j + 1) : uq false l = none := by
  rw [h.2.2, List.drop_eq_getElem_cons hj, h92, List.drop_eq_nil_of_le hl]; rfl
theorem UInv.two {l out : List UInt8} {j : Nat} (h : UInv l out j) (hj : j + 1 < l.length) (h92 : l[j] = 92) : UInv l (out ++ [l[j + 1]]) (j + 2) := by
  obtain ⟨_, h1, h2⟩ := h
  refine ⟨hj, by simp; omega, ?_⟩
  rw [h2, List.drop_eq_getElem_cons (by omega : j < l.length), List.drop_eq_getElem_cons hj, h92]
  show _ = Option.map _ (uq false (l.drop (j + 1 + 1)))
  generalize l.drop (j + 1 + 1) = r
  show Option.map _ (uq true (l[j + 1] :: r)) = _
  rw [uq]
  cases uq false r <;> simp
theorem UInv.done {l out : List UInt8} {j : Nat} (h : UInv l out j) (hj : l.length ≤ j) : uq false l = some out := by
  rw [h.2.2, List.drop_eq_nil_of_le hj]; simp [uq]
/-- The same for the reader that looks for the closing quote: l is the whole string, its first byte is read. -/
def RInv (l out : List UInt8) (i : Nat) : Prop :=
  1 ≤ i ∧ out.length ≤ i ∧ ((i ≤ l.length ∧ rq false (l.drop 1) = (rq false (l.drop i)).map (out ++ ·)) ∨ (i = l.length + 1 ∧ rq false (l.drop 1) = none))
theorem RInv0 (l : List UInt8) (h : 1 ≤ l.length) : RInv l [] 1 := ⟨Nat.le_refl _, by simp, .inl ⟨h, by simp⟩⟩
theorem RInv.eq {l out : List UInt8} {i : Nat} (h : RInv l out i) (hi : i ≤ l.length) : rq false (l.drop 1) = (rq false (l.drop i)).map (out ++ ·) := by
  rcases h.2.2 with h | h
  · exact h.2
  · omega
theorem RInv.step {l out : List UInt8} {i : Nat} (h : RInv l out i) (hi : i < l.length) (h34 : l[i] ≠ 34) (h92 : l[i] ≠ 92) : RInv l (out ++ [l[i]]) (i + 1) := by
  have e := h.eq (by omega)
  refine ⟨by omega, by have := h.2.1; simp; omega, .inl ⟨hi, ?_⟩⟩
  rw [e, List.drop_eq_getElem_cons hi]
  generalize l.drop (i + 1) = r
  rw [rq, if_neg h34, if_neg h92]
  cases rq false r <;> simp
theorem RInv.two {l out : List UInt8} {i : Nat} (h : RInv l out i) (hi : i + 1 < l.length) (h92 : l[i] = 92) : RInv l (out ++ [l[i + 1]]) (i + 2) := by
  have e := h.eq (by omega)
  refine ⟨by omega, by have := h.2.1; simp; omega, .inl ⟨hi, ?_⟩⟩
  rw [e, List.drop_eq_getElem_cons (by omega : i < l.length), List.drop_eq_getElem_cons hi, h92]
  show _ = Option.map _ (rq false (l.drop (i + 1 + 1)))
  generalize l.drop (i + 1 + 1) = r
  show Option.map _ (rq true (l[i + 1] :: r)) = _
  rw [rq]
  cases rq false r <;> simp
theorem RInv.last {l out : List UInt8} {i : Nat} (h : RInv l out i) (hi : i < l.length) (h92 : l[i] = 92) (hl : l.length ≤ i + 1) : RInv l out (i + 2) := by
  have e := h.eq (by omega)
  refine ⟨by omega, by have := h.2.1; omega, .inr ⟨by omega, ?_⟩⟩
  rw [e, List.drop_eq_getElem_cons hi, h92, List.drop_eq_nil_of_le hl]; rfl
theorem RInv.stop {l out : List UInt8} {i : Nat} (h : RInv l out i) (hi : i < l.length) (hc : l[i] = 34) : rq false (l.drop 1) = if i + 1 = l.length then some out else none := by
  rw [h.eq (by omega), List.drop_eq_getElem_cons hi, hc]
  by_cases hl : i + 1 = l.length
  · rw [if_pos hl, List.drop_eq_nil_of_le (by omega)]; simp [rq]
  · rw [if_neg hl]
    have : l.drop (i + 1) ≠ [] := by simp; omega
    simp [rq, this]
theorem RInv.past {l out : List UInt8} {i : Nat} (h : RInv l out i) (hi : l.length ≤ i) : rq false (l.drop 1) = none := by
  rcases h.2.2 with h | h
  · rw [h.2, List.drop_eq_nil_of_le hi]; rfl
  · exact h.2
end Go.Proofs.YtoiampkdmjpljaaGreatDoor

/- A parameter, read: strings.Cut at the first equals sign; plain part and contract. -/
namespace Go.Proofs.YtoiampkdmjpljaaGreatDoor
open Go.RowKit

def cutE : List UInt8 → Option (List UInt8 × List UInt8)
  | [] => none
  | c :: r => if c = 61 then some ([], r) else (cutE r).map fun p => (c :: p.1, p.2)
theorem cutE_eq : ∀ {l a b : List UInt8}, cutE l = some (a, b) → l = a ++ 61 :: b ∧ 61 ∉ a := by
  intro l
  induction l with
  | nil => intro a b h; cases h
  | cons c r ih =>
    intro a b h
    unfold cutE at h
    split at h
    · rename_i hc
      simp only [Option.some.injEq, Prod.mk.injEq] at h
      obtain ⟨rfl, rfl⟩ := h
      exact ⟨by rw [hc]; rfl, by simp⟩
    · rename_i hc
      cases hr : cutE r with
      | none => rw [hr] at h; cases h
      | some p =>
        rw [hr] at h
        simp only [Option.map_some, Option.some.injEq, Prod.mk.injEq] at h
        obtain ⟨rfl, rfl⟩ := h
        obtain ⟨h1, h2⟩ := ih (a := p.1) (b := p.2) (by rw [hr])
        refine ⟨by rw [h1]; rfl, ?_⟩
        intro hm
        rcases List.mem_cons.mp hm with e | e
        · exact hc e.symm
        · exact h2 e
theorem index_none : ∀ {l : List UInt8}, cutE l = none → Lib.index l [61] = -1 := by
  intro l
  induction l with
  | nil => intro _; rfl
  | cons c r ih =>
    intro h
    unfold cutE at h
    split at h
    · cases h
    · rename_i hc
      have hr : cutE r = none := by cases hr : cutE r with
        | none => rfl
        | some p => rw [hr] at h; cases h
      have hp : ([61] : List UInt8).isPrefixOf (c :: r) = false := by simp [List.isPrefixOf]; exact fun e => hc e.symm
      unfold Lib.index
      rw [hp, ih hr]; rfl
theorem index_some : ∀ {l a b : List UInt8}, cutE l = some (a, b) → Lib.index l [61] = a.length := by
  intro l
  induction l with
  | nil => intro a b h; cases h
  | cons c r ih =>
    intro a b h
    unfold cutE at h
    split at h
    · rename_i hc
      simp only [Option.some.injEq, Prod.mk.injEq] at h
      obtain ⟨rfl, rfl⟩ := h
      subst hc
      unfold Lib.index
      simp [List.isPrefixOf]
    · rename_i hc
      cases hr : cutE r with
      | none => rw [hr] at h; cases h
      | some p =>
        rw [hr] at h
        simp only [Option.map_some, Option.some.injEq, Prod.mk.injEq] at h
        obtain ⟨rfl, rfl⟩ := h
        have hi := ih (a := p.1) (b := p.2) (by rw [hr])
        have hp : ([61] : List UInt8).isPrefixOf (c :: r) = false := by simp [List.isPrefixOf]; exact fun e => hc e.symm
        unfold Lib.index
        rw [hp, hi]
        have : ((p.1.length : Int) == -1) = false := by simp
        simp [this]
theorem cut_none {l : List UInt8} (h : cutE l = none) : Lib.cut l [61] = (l, [], false) := by
  unfold Lib.cut; rw [index_none h]; try rfl
theorem cut_some {l a b : List UInt8} (h : cutE l = some (a, b)) : Lib.cut l [61] = (a, b, true) := by
  unfold Lib.cut; rw [index_some h, if_pos (by omega)]
  have e := (cutE_eq h).1
  rw [e]; simp
theorem cutNone_any (s : ByteArray) (m : Int) (w : World) (hs : s.size ≤ 1000000) (hm : w.cell? ⟨0, 0, none⟩ = some (.int .i64 m)) (h : cutE s.data.toList = none) :
    Calls Tryz.prog 99 #[.string s, .string ⟨#[61]⟩] w fun e w' => e = .returned (.tuple #[.string s, .string (strB []), .bool false]) ∧ ∃ n, w' = w.drewN n := by
  refine (Tryz.strings_Cut s ⟨#[61]⟩ m w (by omega) hm).mono ?_
  rintro e w' ⟨he, hn⟩
  rw [cut_none h] at he
  have es : strB s.data.toList = s := strB_of s
  refine ⟨?_, hn⟩
  rw [he]
  show Ending.returned (.tuple #[.string (strB s.data.toList), .string (strB []), .bool false]) = _
  rw [es]
theorem cutSome_any (s : ByteArray) (m : Int) (w : World) (hs : s.size ≤ 1000000) (hm : w.cell? ⟨0, 0, none⟩ = some (.int .i64 m)) {a b : List UInt8} (h : cutE s.data.toList = some (a, b)) :
    Calls Tryz.prog 99 #[.string s, .string ⟨#[61]⟩] w fun e w' => e = .returned (.tuple #[.string (strB a), .string (strB b), .bool true]) ∧ ∃ n, w' = w.drewN n := by
  refine (Tryz.strings_Cut s ⟨#[61]⟩ m w (by omega) hm).mono ?_
  rintro e w' ⟨he, hn⟩
  rw [cut_some h] at he
  exact ⟨he, hn⟩

def paramO (l : List UInt8) : Option (List UInt8 × List UInt8) :=
  match cutE l with
  | none => none
  | some (n, v) => if tokS n = true then (if tokS v = true then some (lowS n, v) else (unqO v).map fun t => (lowS n, t)) else none
theorem cutE_len {l a b : List UInt8} (h : cutE l = some (a, b)) : a.length + b.length + 1 = l.length := by
  have := (cutE_eq h).1; rw [this]; simp; omega
end Go.Proofs.YtoiampkdmjpljaaGreatDoor

/- Slices of two-string structs in memory: those that a call makes, and those that it reads. -/
namespace Go.Proofs.YtoiampkdmjpljaaGreatDoor
open Go.RowKit

def flatP (ps : List (List UInt8 × List UInt8)) : List Value := ps.flatMap fun p => [strV p.1, strV p.2]
theorem flatP_len (ps : List (List UInt8 × List UInt8)) : (flatP ps).length = ps.length * 2 := by
  induction ps with
  | nil => rfl
  | cons p r ih =>
    have e : flatP (p :: r) = strV p.1 :: strV p.2 :: flatP r := rfl
    rw [e, List.length_cons, List.length_cons, ih, List.length_cons]; omega
/-- The value v is a slice of the call's own, of parameters of type T, that holds ps. -/
def OwnsP (T : TypeId) (B : Nat) (w : World) (v : Value) (ps : List (List UInt8 × List UInt8)) : Prop := w.ownsRow B T 2 v ps.length (flatP ps)
theorem OwnsP.nil (T : TypeId) (B : Nat) (w : World) : OwnsP T B w (.slice none 0 0) [] := World.ownsRow_nil _ _ _ _
theorem OwnsP.below {T : TypeId} {B : Nat} {w w' : World} {v : Value} {ps : List (List UInt8 × List UInt8)} (h : OwnsP T B w v ps) (hb : Below w.heap.size w w') : OwnsP T B w' v ps :=
  World.ownsRow.kept h (grown_of_below hb none) (by cases hv : v.ownBlock <;> simp)
theorem OwnsP.mono {T : TypeId} {B C : Nat} {w : World} {v : Value} {ps : List (List UInt8 × List UInt8)} (hBC : B ≤ C) (h : OwnsP T C w v ps) : OwnsP T B w v ps := by
  rcases h with ⟨hl, hv | ⟨g, cap, cur, hv, hb, hg, hn, hm, hs, ht⟩⟩
  · exact ⟨hl, .inl hv⟩
  · exact ⟨hl, .inr ⟨g, cap, cur, hv, Nat.le_trans hBC hb, hg, hn, hm, hs, ht⟩⟩
theorem OwnsP.snoc {T : TypeId} {B : Nat} {w : World} {v : Value} {ps : List (List UInt8 × List UInt8)} {p : List UInt8 × List UInt8} (h : w.ownsRow B T 2 v (ps.length + 1) (flatP ps ++ [strV p.1, strV p.2])) : OwnsP T B w v (ps ++ [p]) := by
  unfold OwnsP
  have e : flatP (ps ++ [p]) = flatP ps ++ [strV p.1, strV p.2] := by simp [flatP]
  rw [e, List.length_append]; exact h
theorem below_appendP {T : TypeId} {B : Nat} {a w w1 w2 : World} {v : Value} {ps : List (List UInt8 × List UInt8)} {o : Obj} (hB : Below B a w) (hBs : B ≤ w.heap.size) (hb1 : Below w.heap.size w w1) (hown : OwnsP T B w v ps)
    (hgrow : (w1.alloc o).grownBy w2 v.ownBlock) : Below B a w2 :=
  ((hB.trans (hb1.mono hBs)).alloc (by have := hb1.size; omega) o).grown hgrow (by have := hb1.size; simp; omega) (fun q hq => (World.ownsRow.lt hown q hq).1)
theorem flatP_at : ∀ (ps : List (List UInt8 × List UInt8)) (j : Nat) (p : List UInt8 × List UInt8), ps[j]? = some p → (flatP ps)[j * 2]? = some (strV p.1) ∧ (flatP ps)[j * 2 + 1]? = some (strV p.2) := by
  intro ps
  induction ps with
  | nil => intro j p h; simp at h
  | cons q r ih =>
    intro j p h
    cases j with
    | zero => simp at h; subst h; exact ⟨rfl, rfl⟩
    | succ j =>
      have := ih j p (by simpa using h)
      have e : flatP (q :: r) = strV q.1 :: strV q.2 :: flatP r := rfl
      rw [e, show (j + 1) * 2 = j * 2 + 1 + 1 by omega]
      exact ⟨by simpa using this.1, by simpa using this.2⟩
/-- The value v is a slice of parameters that reads as ps in the world w. -/
def ReadsP (w : World) (v : Value) (ps : List (List UInt8 × List UInt8)) : Prop :=
  ∃ ao cap, v = .slice ao ps.length cap ∧ ∀ j p, ps[j]? = some p → ∃ g, ao = some ⟨g, 0, none⟩ ∧ g < w.heap.size ∧ w.cell? ⟨g, j * 2, none⟩ = some (.string (strB p.1)) ∧ w.cell? ⟨g, j * 2 + 1, none⟩ = some (.string (strB p.2))
theorem OwnsP.reads {T : TypeId} {B : Nat} {w : World} {v : Value} {ps : List (List UInt8 × List UInt8)} (h : OwnsP T B w v ps) : ReadsP w v ps := by
  have h0 := h
  rcases h with ⟨hl, ⟨hv, hn⟩ | ⟨g, cap, cur, hv, hb, hg, hn, hm, hs, ht⟩⟩
  · have : ps = [] := List.eq_nil_of_length_eq_zero hn
    subst this
    exact ⟨none, 0, hv, fun j p h => by simp at h⟩
  · refine ⟨_, cap, hv, fun j p hj => ⟨g, rfl, ?_, ?_, ?_⟩⟩
    · exact (World.ownsRow.lt h0 g (by rw [hv]; rfl)).2
    all_goals
      subst hv
      have hj' : j < ps.length := (List.getElem?_eq_some_iff.mp hj).1
      have hf := flatP_at ps j p hj
    · rw [World.ownsRow.cellAt h0 (j * 2) (by omega), hf.1]
    · rw [World.ownsRow.cellAt h0 (j * 2 + 1) (by omega), hf.2]
theorem ReadsP.below {w w' : World} {v : Value} {ps : List (List UInt8 × List UInt8)} (h : ReadsP w v ps) (hb : Below w.heap.size w w') : ReadsP w' v ps := by
  obtain ⟨ao, cap, rfl, hc⟩ := h
  refine ⟨ao, cap, rfl, fun j p hj => ?_⟩
  obtain ⟨g, h1, h2, h3, h4⟩ := hc j p hj
  exact ⟨g, h1, Nat.lt_of_lt_of_le h2 hb.size, (hb.cell (p := ⟨g, j * 2, none⟩) h2).trans h3, (hb.cell (p := ⟨g, j * 2 + 1, none⟩) h2).trans h4⟩
/-- The value v, an argument, is a slice of parameters that reads as ps in the world w. -/
def ReadsQ (w : World) (v : Value) (ps : List (List UInt8 × List UInt8)) : Prop :=
  ∃ ao cap, v = .slice ao ps.length cap ∧ ∀ j p, ps[j]? = some p → ∃ g off, ao = some ⟨g, off, none⟩ ∧ g < w.heap.size ∧ w.cell? ⟨g, off + j * 2, none⟩ = some (.string (strB p.1)) ∧ w.cell? ⟨g, off + j * 2 + 1, none⟩ = some (.string (strB p.2))
theorem ReadsQ.below {w w' : World} {v : Value} {ps : List (List UInt8 × List UInt8)} (h : ReadsQ w v ps) (hb : Below w.heap.size w w') : ReadsQ w' v ps := by
  obtain ⟨ao, cap, rfl, hc⟩ := h
  refine ⟨ao, cap, rfl, fun j p hj => ?_⟩
  obtain ⟨g, off, h1, h2, h3, h4⟩ := hc j p hj
  exact ⟨g, off, h1, Nat.lt_of_lt_of_le h2 hb.size, (hb.cell (p := ⟨g, off + j * 2, none⟩) h2).trans h3, (hb.cell (p := ⟨g, off + j * 2 + 1, none⟩) h2).trans h4⟩
end Go.Proofs.YtoiampkdmjpljaaGreatDoor
