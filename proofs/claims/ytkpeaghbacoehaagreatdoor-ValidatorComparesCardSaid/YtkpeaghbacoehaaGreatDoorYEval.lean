/- Plain mathematics of chapter 10: what matches a state, and what Evaluate and UseRange decide. -/
import Derived.Test.YtkpeaghbacoehaaGreatDoorYSpec
import Derived.Test.YtkpeaghbacoehaaGreatDoorFSpec
import Derived.Test.YtkpeaghbacoehaaGreatDoorHText
namespace Go.Proofs.YtkpeaghbacoehaaGreatDoor

structure StV where
  ex : Bool
  ht : Bool
  hm : Bool
  tag : Tg
  md : Int
/-- A text is the date text of a second, or of none. -/
def DateIs (v : List UInt8) (d : Option Nat) : Prop := match d with
  | some n => isT n v
  | none => ∀ n, ¬ isT n v
theorem date_ex (v : List UInt8) : ∃ d, DateIs v d := by
  by_cases h : ∃ n, isT n v
  · obtain ⟨n, h⟩ := h; exact ⟨some n, h⟩
  · exact ⟨none, fun n hn => h ⟨n, hn⟩⟩
theorem DateIs.uniq {v : List UInt8} {d e : Option Nat} (h : DateIs v d) (g : DateIs v e) : d = e := by
  cases d with
  | none => cases e with
    | none => rfl
    | some n => exact absurd g (h n)
  | some n => cases e with
    | none => exact absurd h (g n)
    | some k => exact congrArg some (isT_inj h g)
theorem date_nil : DateIs [] none := fun n h => by have := (isT_parts h).1; simp at this
def nIM : List UInt8 := [105, 102, 45, 109, 97, 116, 99, 104]
def nIN : List UInt8 := [105, 102, 45, 110, 111, 110, 101, 45, 109, 97, 116, 99, 104]
def nIS : List UInt8 := [105, 102, 45, 109, 111, 100, 105, 102, 105, 101, 100, 45, 115, 105, 110, 99, 101]
def nIU : List UInt8 := [105, 102, 45, 117, 110, 109, 111, 100, 105, 102, 105, 101, 100, 45, 115, 105, 110, 99, 101]
def nIR : List UInt8 := [105, 102, 45, 114, 97, 110, 103, 101]
def mGET : List UInt8 := [71, 69, 84]
def mHEAD : List UInt8 := [72, 69, 65, 68]
def fnd (ps : Flds) (n : List UInt8) : Bool := decide (0 < (allL ps n).length)
def valF (ps : Flds) (n : List UInt8) : List UInt8 := getL (allL ps n)
theorem val_none {ps : Flds} {n : List UInt8} (h : fnd ps n = false) : valF ps n = [] := by
  unfold fnd at h
  have : allL ps n = [] := List.eq_nil_of_length_eq_zero (by simpa using h)
  unfold valF; rw [this]; rfl
/-- Two tags are the same, strongly (sg) or weakly. -/
def sameT (sg : Bool) (t u : Tg) : Bool := decide (t.2 = u.2) && (!sg || (!t.1 && !u.1))
def starL (v : List UInt8) : Bool := decide (trimB v = [42])
/-- The tags of a field's value, none where the value is refused. -/
def tagsL (v : List UInt8) : List Tg := (lstL v []).getD []
def mtL (v : List UInt8) (s : StV) (sg : Bool) : Bool := s.ex && (starL v || (s.ht && (tagsL v).any fun t => sameT sg t s.tag))
def laterL (s : StV) (d : Option Nat) : Bool := s.ex && s.hm && match d with
  | some n => decide ((n : Int) < s.md)
  | none => false
def sinceL (s : StV) (d : Option Nat) : Bool := s.ex && s.hm && match d with
  | some n => decide (s.md ≤ (n : Int))
  | none => false
def otherL (ps : Flds) (s : StV) (du : Option Nat) : Bool := if fnd ps nIM = true then !mtL (valF ps nIM) s true else laterL s du
def readsM (m : List UInt8) : Bool := decide (m = mGET) || decide (m = mHEAD)
def evalL (m : List UInt8) (ps : Flds) (s : StV) (du dm : Option Nat) : Int :=
  if otherL ps s du = true then 3
  else if fnd ps nIN = true then (if mtL (valF ps nIN) s false = true then (if readsM m = true then 2 else 3) else 1)
  else if readsM m = true ∧ sinceL s dm = true then 2 else 1
def useL (m : List UInt8) (ps : Flds) (s : StV) (dr : Option Nat) : Bool :=
  if m = mGET then (if fnd ps nIR = true then (match readTL (valF ps nIR) with
    | some t => s.ex && s.ht && sameT true t s.tag
    | none => s.ex && s.hm && (match dr with
      | some n => decide ((n : Int) = s.md)
      | none => false)) else true)
  else false
theorem evalL_range (m : List UInt8) (ps : Flds) (s : StV) (du dm : Option Nat) : evalL m ps s du dm = 1 ∨ evalL m ps s du dm = 2 ∧ readsM m = true ∨ evalL m ps s du dm = 3 := by
  unfold evalL
  split
  · exact .inr (.inr rfl)
  · split
    · split
      · split
        · rename_i h; exact .inr (.inl ⟨rfl, h⟩)
        · exact .inr (.inr rfl)
      · exact .inl rfl
    · split
      · rename_i h; exact .inr (.inl ⟨rfl, h.1⟩)
      · exact .inl rfl
end Go.Proofs.YtkpeaghbacoehaaGreatDoor
