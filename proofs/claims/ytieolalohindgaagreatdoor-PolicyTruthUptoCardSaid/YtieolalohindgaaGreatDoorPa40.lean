import Derived.Test.YtieolalohindgaaGreatDoorPa5
/- The reference's digits and numbers, in plain lists. -/
namespace Go.Proofs.YtieolalohindgaaGreatDoor

/-- k digits of n. -/
def dgs : Nat → Nat → List UInt8
  | 0, _ => []
  | k + 1, n => dig (n / 10 ^ k) :: dgs k n
theorem dgs_2 (n : Nat) : dgs 2 n = dd n := by simp [dgs, dd]
theorem dgs_4 (n : Nat) : dgs 4 n = d4 n := by simp [dgs, d4]
theorem dgs_len (k n : Nat) : (dgs k n).length = k := by
  induction k with
  | zero => rfl
  | succ k ih => simp [dgs, ih]
theorem div_pow_succ (n k : Nat) : n / 10 ^ k / 10 = n / 10 ^ (k + 1) := by rw [Nat.pow_succ, Nat.div_div_eq_div_mul]
def dgtB (c : UInt8) : Bool := decide (48 ≤ c.toNat ∧ c.toNat ≤ 57)
def rnv (l : List UInt8) : Nat := l.foldl (fun a c => 10 * a + (c.toNat - 48)) 0
theorem rnv_snoc (l : List UInt8) (c : UInt8) : rnv (l ++ [c]) = 10 * rnv l + (c.toNat - 48) := by unfold rnv; rw [List.foldl_append]; rfl
theorem rnv_from : ∀ (l : List UInt8) (a : Nat), l.all dgtB = true → l.foldl (fun a c => 10 * a + (c.toNat - 48)) a < (a + 1) * 10 ^ l.length := by
  intro l
  induction l with
  | nil => intro a _; simp
  | cons c r ih =>
    intro a h
    rw [List.all_cons, Bool.and_eq_true] at h
    have hc := of_decide_eq_true h.1
    have h1 := ih (10 * a + (c.toNat - 48)) h.2
    have h2 : (10 * a + (c.toNat - 48) + 1) * 10 ^ r.length ≤ (a + 1) * 10 * 10 ^ r.length := Nat.mul_le_mul_right _ (by omega)
    rw [List.foldl_cons, List.length_cons, Nat.pow_succ, Nat.mul_comm (10 ^ r.length) 10, ← Nat.mul_assoc]
    omega
theorem rnv_lt (l : List UInt8) (h : l.all dgtB = true) : rnv l < 10 ^ l.length := by
  have := rnv_from l 0 h
  simpa [rnv] using this
/-- What the reference's number makes of a text. -/
def rn (l : List UInt8) : Int := if l.all dgtB = true then rnv l else -1
theorem rn_yes {l : List UInt8} (h : l.all dgtB = true) : rn l = rnv l := by unfold rn; rw [if_pos h]
theorem rn_no {l : List UInt8} (h : l.all dgtB = false) : rn l = -1 := by unfold rn; rw [h]; rfl
theorem rn_bd (l : List UInt8) (k : Nat) (h : l.length = k) : -1 ≤ rn l ∧ rn l < (10 ^ k : Nat) := by
  have hp : 0 < 10 ^ k := Nat.pow_pos (by omega)
  unfold rn; split
  · have := rnv_lt l (by assumption); rw [h] at this; omega
  · omega
theorem rn_2 (l : List UInt8) (h : l.length = 2) : -1 ≤ rn l ∧ rn l ≤ 99 := by have := rn_bd l 2 h; omega
theorem rn_4 (l : List UInt8) (h : l.length = 4) : -1 ≤ rn l ∧ rn l ≤ 9999 := by have := rn_bd l 4 h; omega
theorem dgtB_dig (n : Nat) : dgtB (dig n) = true := by unfold dgtB; rw [dig_nat]; exact decide_eq_true (by omega)
theorem rn_dd (n : Nat) (h : n < 100) : rn (dd n) = n := by
  rw [rn_yes (by simp [dd, dgtB_dig])]
  simp [rnv, dd, dig_nat]; omega
theorem rn_d4 (n : Nat) (h : n < 10000) : rn (d4 n) = n := by
  rw [rn_yes (by simp [d4, dgtB_dig])]
  simp [rnv, d4, dig_nat]; omega
/-- Whether the bytes before k are digits, and what they spell. -/
theorem rn_step {l : List UInt8} {k : Nat} (h : k < l.length) : l.take (k + 1) = l.take k ++ [l[k]] := List.take_succ_eq_append_getElem h
theorem all_bad {l : List UInt8} {k : Nat} (h : k < l.length) (hb : dgtB l[k] = false) : l.all dgtB = false := by
  rw [List.all_eq_false]; exact ⟨l[k], List.getElem_mem h, by simp [hb]⟩
end Go.Proofs.YtieolalohindgaaGreatDoor
