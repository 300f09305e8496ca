import Derived.Test.YtoiampkdmjpljaaGreatDoorPa2
import Derived.Test.YtoiampkdmjpljaaGreatDoorPa6
import Derived.Test.YtoiampkdmjpljaaGreatDoorPa0
import Derived.Lib.Hide
/- What the reference's Lower returns. -/
namespace Go.Proofs.YtoiampkdmjpljaaGreatDoor
open Go.RowKit

def LowRel (s : ByteArray) (w : World) (o i : Value) (wr : World) : Prop :=
  ∃ k : Nat, i = .int .i64 k ∧ k ≤ s.size ∧ o = .string (strB (lowS (s.data.toList.take k))) ∧ Below w.heap.size w wr
set_option maxHeartbeats 2000000 in
set_option maxRecDepth 100000 in
theorem refLower_any (s : ByteArray) (w : World) (hs : s.size ≤ 1000000000) :
    Calls Tryz.prog 50 #[.string s] w fun e w' => e = .returned (.string (strB (lowS s.data.toList))) ∧ Below w.heap.size w w' := by
  go_enter Tryz.func50, Tryz.ntmps50
  go_wp2
  go_loopw [3, 8] (fun o i wr => LowRel s w o i wr) (fun _ i _ => s.size - (intOf i).toNat)
  case atStart => exact ⟨0, rfl, by omega, rfl, Below.refl _ _⟩
  case round =>
    obtain ⟨k, rfl, hk, rfl, hB⟩ := hrel
    have hsz := hB.size
    have hz : (strB (lowS (s.data.toList.take k))).size ≤ k := by rw [strB_size, lowS_len]; exact List.length_take_le _ _
    by_cases hlt : k < s.size
    · have hstep := lowS_take s k hlt
      have HS := Lib.hid hstep
      clear hstep
      by_cases h1 : 65 ≤ s[k].toNat
      · by_cases h2 : s[k].toNat ≤ 90
        · have hl := lowB_up h1 h2
          have hcv := fun W => conv_one ((s[k].toNat : Int) + 32) (lowB s[k]) (by rw [hl]; omega) W
          clear hl
          go_wp2
          go_roundw
          case rel => exact ⟨k + 1, by go_num, by omega, by rw [HS.out, strB_snoc], hB.alloc hsz _⟩
          case measure => simp [intOf]; omega
        · have hl : lowB s[k] = s[k] := lowB_not (by omega)
          have HLo := Lib.hid hl
          have hcv := fun W => conv_one (s[k].toNat : Int) s[k] rfl W
          clear hl
          go_wp2
          go_roundw
          case rel => exact ⟨k + 1, by go_num, by omega, by rw [HS.out, HLo.out, strB_snoc], hB.alloc hsz _⟩
          case measure => simp [intOf]; omega
      · have hl : lowB s[k] = s[k] := lowB_not (by omega)
        have HLo := Lib.hid hl
        have hcv := fun W => conv_one (s[k].toNat : Int) s[k] rfl W
        clear hl
        go_wp2
        go_roundw
        case rel => exact ⟨k + 1, by go_num, by omega, by rw [HS.out, HLo.out, strB_snoc], hB.alloc hsz _⟩
        case measure => simp [intOf]; omega
    · go_wp2
      go_ret
      exact ⟨by rw [take_all s k (by omega)]; rfl, hB⟩
end Go.Proofs.YtoiampkdmjpljaaGreatDoor

/- What the code's Name and Value, and the reference's, return, for every string. -/
namespace Go.Proofs.YtoiampkdmjpljaaGreatDoor
open Go.RowKit

abbrev errLarge : Value := .iface 49 (.int .i64 5)
abbrev errName : Value := .iface 49 (.int .i64 8)
/-- The number of the error of a name; 0 if it is one. -/
def nameC (l : List UInt8) : Nat := if tokS l = true then (if 64 < l.length then 5 else 0) else 8
def nameR (l : List UInt8) : List UInt8 := if nameC l = 0 then lowS l else []
def valueC (l : List UInt8) : Nat := if ctlS l = true then 2 else if 2048 < (trimB l).length then 5 else 0
def valueR (l : List UInt8) : List UInt8 := if valueC l = 0 then trimB l else []
def errV (c : Nat) : Value := if c = 0 then .nilIface else .iface 49 (.int .i64 c)

theorem trimB_le (l : List UInt8) : (trimB l).length ≤ l.length := by
  rw [trimB_eq]
  have h1 : (tL l).length ≤ l.length := (List.dropWhile_sublist _).length_le
  have h2 : (tR (tL l)).length ≤ (tL l).length := by
    unfold tR; rw [List.length_reverse]
    have := (List.dropWhile_sublist (p := blank) (l := (tL l).reverse)).length_le
    simpa using this
  omega
theorem size_list' (s : ByteArray) : s.data.toList.length = s.size := Array.length_toList
theorem ret_two {a b c d : Value} (h1 : a = c) (h2 : b = d) : Ending.returned (.tuple #[a, b]) = .returned (.tuple #[c, d]) := by rw [h1, h2]

end Go.Proofs.YtoiampkdmjpljaaGreatDoor

/- What the code's Number returns, for every string. -/
namespace Go.Proofs.YtoiampkdmjpljaaGreatDoor
open Go.RowKit

def allDig (s : ByteArray) (k : Nat) : Prop := (s.data.toList.take k).all digB = true
theorem allDig0 (s : ByteArray) : allDig s 0 := by simp [allDig]
theorem allDig_step {s : ByteArray} {k : Nat} (h : k < s.size) (hn : allDig s k) (hb : digB s[k] = true) : allDig s (k + 1) := by
  unfold allDig at *; rw [take_snoc s k h, List.all_append, hn]; simp [hb]
def numV (l : List UInt8) : Nat := l.foldl (fun n c => 10 * n + (c.toNat - 48)) 0
theorem numV_snoc (l : List UInt8) (c : UInt8) : numV (l ++ [c]) = 10 * numV l + (c.toNat - 48) := by simp [numV]
theorem fold_lt : ∀ (l : List UInt8) (a : Nat), l.all digB = true → l.foldl (fun n c => 10 * n + (c.toNat - 48)) a < (a + 1) * 10 ^ l.length := by
  intro l
  induction l with
  | nil => intro a _; simp
  | cons c t ih =>
    intro a h
    simp only [List.all_cons, Bool.and_eq_true] at h
    have hc := h.1
    simp [digB] at hc
    have := ih (10 * a + (c.toNat - 48)) h.2
    rw [List.foldl_cons, List.length_cons, Nat.pow_succ]
    refine Nat.lt_of_lt_of_le this ?_
    have e : (a + 1) * (10 ^ t.length * 10) = (10 * (a + 1)) * 10 ^ t.length := by
      rw [← Nat.mul_assoc, Nat.mul_right_comm, Nat.mul_comm (a + 1) 10]
    rw [e]
    exact Nat.mul_le_mul_right _ (by omega)
theorem numV_lt (l : List UInt8) (h : l.all digB = true) : numV l < 10 ^ l.length := by
  have := fold_lt l 0 h
  simpa [numV] using this
theorem numV_le (l : List UInt8) (h : l.all digB = true) (hl : l.length ≤ 15) : numV l < 1000000000000000 := by
  have h1 := numV_lt l h
  have h2 : 10 ^ l.length ≤ 10 ^ 15 := Nat.pow_le_pow_right (by omega) hl
  have h3 : (10 : Nat) ^ 15 = 1000000000000000 := by decide
  omega
theorem int_eq {k : IntKind} {a b : Int} (h : a = b) : Value.int k a = Value.int k b := by rw [h]
abbrev errForm' : Value := .iface 49 (.int .i64 2)
abbrev errLarge' : Value := .iface 49 (.int .i64 5)
def numR (s : ByteArray) : Value := if s.size ≤ 15 then .tuple #[.int .i64 (numV s.data.toList), .nilIface] else .tuple #[.int .i64 0, errLarge']
theorem numR_large {s : ByteArray} (h : 15 < s.size) : Ending.returned (.tuple #[.int .i64 0, errLarge']) = .returned (numR s) := by unfold numR; rw [if_neg (by omega)]
theorem numR_small {s : ByteArray} {l : List UInt8} (h : ¬ 15 < s.size) (hl : l = s.data.toList) : Ending.returned (.tuple #[.int .i64 (numV l), .nilIface]) = .returned (numR s) := by unfold numR; rw [if_pos (by omega), hl]
def numGood (s : ByteArray) : Prop := s.data.toList ≠ [] ∧ s.data.toList.all digB = true

theorem digit_not {s : ByteArray} {k : Nat} (h : k < s.size) (hb : ¬ digB s[k] = true) (hg : s.data.toList.all digB = true) : False := by
  rw [List.all_eq_true] at hg
  exact hb (hg _ (get_mem s k h))
theorem digB_of {s : ByteArray} {k : Nat} (h : k < s.size) (hg : s.data.toList.all digB = true) : 48 ≤ s[k].toNat ∧ s[k].toNat ≤ 57 := by
  rw [List.all_eq_true] at hg
  have := hg _ (get_mem s k h)
  simpa [digB] using this

end Go.Proofs.YtoiampkdmjpljaaGreatDoor
