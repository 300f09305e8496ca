/- What isLabel says of a string: whether it is a label of a host. -/
import Derived.Test.YthjkneifffdglaaDoorAAln
namespace Go.Proofs.YthjkneifffdglaaDoor
open Go.RowKit

def okTo (p : UInt8 → Bool) (s : ByteArray) (k : Nat) : Prop := (s.data.toList.take k).all p = true
theorem okTo0 (p : UInt8 → Bool) (s : ByteArray) : okTo p s 0 := by simp [okTo]
theorem okTo_step {p : UInt8 → Bool} {s : ByteArray} {k : Nat} (h : k < s.size) (hn : okTo p s k) (hb : p s[k] = true) : okTo p s (k + 1) := by
  unfold okTo at *; rw [take_snoc s k h, List.all_append, hn]; simp [hb]
theorem okTo_no {p : UInt8 → Bool} {s : ByteArray} {k : Nat} (h : k < s.size) (hb : p s[k] = false) : s.data.toList.all p = false := by
  rw [Bool.eq_false_iff]; intro ha
  rw [List.all_eq_true] at ha
  rw [ha _ (get_mem s k h)] at hb; cases hb
theorem okTo_end {p : UInt8 → Bool} {s : ByteArray} {k : Nat} (h : s.size ≤ k) (hn : okTo p s k) : s.data.toList.all p = true := by
  unfold okTo at hn; rw [take_all s k h] at hn; exact hn
theorem head_at (s : ByteArray) (h : 0 < s.size) : s.data.toList.head? = some s[0] := by
  rw [List.head?_eq_getElem?, List.getElem?_eq_getElem (by simpa using h)]; rfl
theorem last_at (s : ByteArray) (h : 0 < s.size) : s.data.toList.getLast? = some (s[s.size - 1]'(by omega)) := by
  rw [List.getLast?_eq_getElem?, List.getElem?_eq_getElem (by simp; omega)]
  have : s.data.toList.length - 1 = s.size - 1 := by simp
  congr 1
theorem lbl_nil {s : ByteArray} (h : s.size = 0) : lblB s.data.toList = false := by
  have : s.data.toList = [] := List.eq_nil_of_length_eq_zero (by simpa using h)
  rw [this]; rfl
theorem lbl_long {s : ByteArray} (h : 63 < s.size) : lblB s.data.toList = false := by
  have : decide (s.data.toList.length ≤ 63) = false := by simp; omega
  unfold lblB; rw [this]; simp
theorem lbl_head {s : ByteArray} (h : 0 < s.size) (hc : s[0].toNat = 45) : lblB s.data.toList = false := by
  have e : s[0] = 45 := nat_of_u8 hc
  unfold lblB; rw [head_at s h, e]; simp
theorem lbl_last {s : ByteArray} (h : 0 < s.size) (hc : (s[s.size - 1]'(by omega)).toNat = 45) : lblB s.data.toList = false := by
  have e : (s[s.size - 1]'(by omega)) = 45 := nat_of_u8 hc
  unfold lblB; rw [last_at s h, e]; simp
theorem lbl_rest {s : ByteArray} (h : 0 < s.size) (h63 : s.size ≤ 63) (h0 : s[0].toNat ≠ 45) (h1 : (s[s.size - 1]'(by omega)).toNat ≠ 45) : lblB s.data.toList = s.data.toList.all lblC := by
  have a1 : s.data.toList.isEmpty = false := by
    cases e : s.data.toList with
    | nil => have : s.data.toList.length = 0 := by rw [e]; rfl
             rw [Array.length_toList] at this; have h' : s.size = 0 := this; omega
    | cons => rfl
  have a2 : decide (s.data.toList.length ≤ 63) = true := decide_eq_true (by rw [Array.length_toList]; exact h63)
  have e0 : (some s[0] != some (45 : UInt8)) = true := by simp; intro e; exact h0 (by rw [e]; rfl)
  have e1 : (some (s[s.size - 1]'(by omega)) != some (45 : UInt8)) = true := by simp; intro e; exact h1 (by rw [e]; rfl)
  unfold lblB; rw [a1, a2, head_at s h, last_at s h, e0, e1]; simp
theorem lblC_of {c : UInt8} (h : alnB c = true ∨ c.toNat = 45) : lblC c = true := by
  unfold lblC; rcases h with h | h
  · rw [h]; rfl
  · rw [nat_of_u8 (a := c) (b := 45) h]; simp
theorem lblC_not {c : UInt8} (h : alnB c = false) (h' : c.toNat ≠ 45) : lblC c = false := by
  unfold lblC; rw [h]; simp; intro e; exact h' (by rw [e]; rfl)

end Go.Proofs.YthjkneifffdglaaDoor
