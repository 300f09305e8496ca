/- The predicates on single bytes: what the code's isDigit, isControl, isTokenByte and the reference's tchar return, for every byte. -/
import Derived.Test.YthjkneifffdglaaDoorBase
import Derived.WalkKit
import Derived.WalkSpells
import Derived.WalkLawsBesides
namespace Go.Proofs.YthjkneifffdglaaDoor
open Go.RowKit

def digB (c : UInt8) : Bool := decide (48 ≤ c.toNat) && decide (c.toNat ≤ 57)
def ctlB (c : UInt8) : Bool := (decide (c.toNat < 32) && decide (c.toNat ≠ 9)) || decide (c.toNat = 127)
def tokB (c : UInt8) : Bool :=
  digB c || (decide (97 ≤ c.toNat) && decide (c.toNat ≤ 122)) || (decide (65 ≤ c.toNat) && decide (c.toNat ≤ 90)) ||
  [33, 35, 36, 37, 38, 39, 42, 43, 45, 46, 94, 95, 96, 124, 126].contains c.toNat
set_option maxHeartbeats 400000 in
theorem isDigit_any (c : UInt8) (w : World) :
    Calls Tryd.prog 49 #[.int .u8 (c.toNat : Int)] w fun e w' => e = .returned (.bool (digB c)) ∧ w = w' := by
  go_enter Tryd.func49, Tryd.ntmps49
  go_wp2
  all_goals
    go_ret
    refine ⟨ret_bool ?_, rfl⟩
    rw [Bool.eq_iff_iff]
    simp [digB] at *
    try omega

set_option maxHeartbeats 400000 in
theorem isControl_any (c : UInt8) (w : World) :
    Calls Tryd.prog 85 #[.int .u8 (c.toNat : Int)] w fun e w' => e = .returned (.bool (ctlB c)) ∧ w = w' := by
  go_enter Tryd.func85, Tryd.ntmps85
  go_wp2
  all_goals
    go_ret
    refine ⟨ret_bool ?_, rfl⟩
    rw [Bool.eq_iff_iff]
    simp [ctlB] at *
    try omega
def moreL : List Nat := [33, 35, 36, 37, 38, 39, 42, 43, 45, 46, 94, 95, 96, 124, 126]
def notYet (k : Nat) (c : UInt8) : Prop := ∀ x ∈ moreL.take k, ¬ c.toNat = x
theorem notYet0 (c : UInt8) : notYet 0 c := by intro x hx; simp at hx
theorem more_at : ∀ k : Fin 15, ((⟨#[33, 35, 36, 37, 38, 39, 42, 43, 45, 46, 94, 95, 96, 124, 126]⟩ : ByteArray)[k.val]'(k.isLt)).toNat = moreL[k.val]'(k.isLt) := by decide
theorem notYet_step {k : Nat} {c : UInt8} (hk : k < 15) (hn : notYet k c)
    (h : ((((⟨#[33, 35, 36, 37, 38, 39, 42, 43, 45, 46, 94, 95, 96, 124, 126]⟩ : ByteArray)[k]'(hk)).toNat : Int) == (c.toNat : Int)) = false) : notYet (k + 1) c := by
  have e := more_at ⟨k, hk⟩
  simp only at e
  rw [e] at h
  intro x hx
  rw [List.take_succ_eq_append_getElem (by simpa [moreL] using hk)] at hx
  rcases List.mem_append.mp hx with hx | hx
  · exact hn x hx
  · simp only [List.mem_singleton] at hx
    subst hx
    simp at h
    omega
theorem tok_yes {k : Nat} {c : UInt8} (hk : k < 15)
    (h : ((((⟨#[33, 35, 36, 37, 38, 39, 42, 43, 45, 46, 94, 95, 96, 124, 126]⟩ : ByteArray)[k]'(hk)).toNat : Int) == (c.toNat : Int)) = true) : true = tokB c := by
  have e := more_at ⟨k, hk⟩
  simp only at e
  rw [e] at h
  have hm : moreL.contains c.toNat = true := by
    rw [List.contains_iff_mem]
    have : c.toNat = moreL[k]'(hk) := by simp at h; omega
    rw [this]; exact List.getElem_mem _
  unfold tokB
  unfold moreL at hm
  rw [hm, Bool.or_true]
theorem tok_no {k : Nat} {c : UInt8} (hk : 15 ≤ k) (hn : notYet k c) (h1 : ¬ (48 ≤ c.toNat ∧ c.toNat ≤ 57)) (h2 : ¬ (97 ≤ c.toNat ∧ c.toNat ≤ 122)) (h3 : ¬ (65 ≤ c.toNat ∧ c.toNat ≤ 90)) : false = tokB c := by
  have hm : moreL.contains c.toNat = false := by
    rw [Bool.eq_false_iff]
    intro h
    rw [List.contains_iff_mem] at h
    have ht : moreL.take k = moreL := List.take_of_length_le (by simp [moreL]; omega)
    exact hn c.toNat (by rw [ht]; exact h) rfl
  unfold tokB digB
  unfold moreL at hm
  rw [hm, Bool.or_false, eq_comm, Bool.eq_false_iff]
  simp
  omega
end Go.Proofs.YthjkneifffdglaaDoor
