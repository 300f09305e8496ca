/- What the code's Number returns, for every string. -/
import Derived.Test.YthjkneifffdglaaDoorScan
import Derived.Lib.Hide
namespace Go.Proofs.YthjkneifffdglaaDoor
open Go.RowKit

def allDig (s : ByteArray) (k : Nat) : Prop := (s.data.toList.take k).all digB = true
theorem allDig0 (s : ByteArray) : allDig s 0 := by simp [allDig]
theorem allDig_step {s : ByteArray} {k : Nat} (h : k < s.size) (hn : allDig s k) (hb : digB s[k] = true) : allDig s (k + 1) := by
  unfold allDig at *; rw [take_snoc s k h, List.all_append, hn]; simp [hb]
def numV (l : List UInt8) : Nat := l.foldl (fun n c => 10 * n + (c.toNat - 48)) 0
theorem numV_snoc (l : List UInt8) (c : UInt8) : numV (l ++ [c]) = 10 * numV l + (c.toNat - 48) := by simp [numV]
theorem fold_lt : ∀ (l : List UInt8) (a : Nat), l.all digB = true → l.foldl (fun n c => 10 * n + (c.toNat - 48)) a < (a + 1) * 10 ^ l.length := by
  intro l
  induction l with
  | nil => intro a _; simp
  | cons c t ih =>
    intro a h
    simp only [List.all_cons, Bool.and_eq_true] at h
    have hc := h.1
    simp [digB] at hc
    have := ih (10 * a + (c.toNat - 48)) h.2
    rw [List.foldl_cons, List.length_cons, Nat.pow_succ]
    refine Nat.lt_of_lt_of_le this ?_
    have e : (a + 1) * (10 ^ t.length * 10) = (10 * (a + 1)) * 10 ^ t.length := by
      rw [← Nat.mul_assoc, Nat.mul_right_comm, Nat.mul_comm (a + 1) 10]
    rw [e]
    exact Nat.mul_le_mul_right _ (by omega)
theorem numV_lt (l : List UInt8) (h : l.all digB = true) : numV l < 10 ^ l.length := by
  have := fold_lt l 0 h
  simpa [numV] using this
theorem numV_le (l : List UInt8) (h : l.all digB = true) (hl : l.length ≤ 15) : numV l < 1000000000000000 := by
  have h1 := numV_lt l h
  have h2 : 10 ^ l.length ≤ 10 ^ 15 := Nat.pow_le_pow_right (by omega) hl
  have h3 : (10 : Nat) ^ 15 = 1000000000000000 := by decide
  omega
theorem int_eq {k : IntKind} {a b : Int} (h : a = b) : Value.int k a = Value.int k b := by rw [h]
abbrev errForm' : Value := .iface 59 (.int .i64 2)
abbrev errLarge' : Value := .iface 59 (.int .i64 5)
def numR (s : ByteArray) : Value := if s.size ≤ 15 then .tuple #[.int .i64 (numV s.data.toList), .nilIface] else .tuple #[.int .i64 0, errLarge']
theorem numR_large {s : ByteArray} (h : 15 < s.size) : Ending.returned (.tuple #[.int .i64 0, errLarge']) = .returned (numR s) := by unfold numR; rw [if_neg (by omega)]
theorem numR_small {s : ByteArray} {l : List UInt8} (h : ¬ 15 < s.size) (hl : l = s.data.toList) : Ending.returned (.tuple #[.int .i64 (numV l), .nilIface]) = .returned (numR s) := by unfold numR; rw [if_pos (by omega), hl]
def numGood (s : ByteArray) : Prop := s.data.toList ≠ [] ∧ s.data.toList.all digB = true

theorem digit_not {s : ByteArray} {k : Nat} (h : k < s.size) (hb : ¬ digB s[k] = true) (hg : s.data.toList.all digB = true) : False := by
  rw [List.all_eq_true] at hg
  exact hb (hg _ (get_mem s k h))
theorem digB_of {s : ByteArray} {k : Nat} (h : k < s.size) (hg : s.data.toList.all digB = true) : 48 ≤ s[k].toNat ∧ s[k].toNat ≤ 57 := by
  rw [List.all_eq_true] at hg
  have := hg _ (get_mem s k h)
  simpa [digB] using this

set_option maxHeartbeats 1000000 in
theorem number_form (s : ByteArray) (w : World) (hs : s.size ≤ maxLen) (hg : ¬ numGood s) :
    Calls Tryd.prog 40 #[.string s] w fun e w' => e = .returned (.tuple #[.int .i64 0, errForm']) ∧ w = w' := by
  unfold maxLen at hs
  by_cases he : s.data.toList = []
  · have h1 : s.toList.isEmpty = true := by rw [ByteArray.toList_eq, he]; rfl
    have h2 : s.toList = [] := by rw [ByteArray.toList_eq, he]
    have HE := Lib.hid he
    have HG := Lib.hid hg
    clear he hg
    go_enter Tryd.func40, Tryd.ntmps40
    go_wp2
    go_ret2
    exact ⟨rfl, rfl⟩
  · have h1 : s.toList.isEmpty = false := by
      rw [ByteArray.toList_eq]
      cases h : s.data.toList with
      | nil => exact absurd h he
      | cons a t => rfl
    have HE := Lib.hid he
    have HG := Lib.hid hg
    clear he hg
    go_enter Tryd.func40, Tryd.ntmps40
    go_wp2
    go_loop [4] (fun i => ∃ k : Nat, k ≤ s.size ∧ i = .int .i64 k ∧ allDig s k) (fun i => s.size - (intOf i).toNat)
    case atStart => exact ⟨0, by omega, rfl, allDig0 s⟩
    case round =>
      obtain ⟨k, hk, rfl, hn⟩ := hrel
      by_cases hlt : k < s.size
      · by_cases hb : digB s[k] = true
        all_goals
          go_wp2_with (go_at_call 49; refine (isDigit_any _ _).mono ?_; rintro e w' ⟨rfl, rfl⟩)
        · go_round
          case rel => exact ⟨k + 1, by omega, by go_num, allDig_step hlt hn hb⟩
          case measure => simp [intOf]; omega
        · go_ret2
          exact ⟨rfl, rfl⟩
      · exfalso
        apply HG.out
        refine ⟨HE.out, ?_⟩
        unfold allDig at hn
        rwa [take_all s k (by omega)] at hn
set_option maxHeartbeats 1000000 in
theorem number_good (s : ByteArray) (w : World) (hs : s.size ≤ maxLen) (hg : numGood s) :
    Calls Tryd.prog 40 #[.string s] w fun e w' => e = .returned (numR s) ∧ w = w' := by
  unfold maxLen at hs
  obtain ⟨he, hg⟩ := hg
  have h1 : s.toList.isEmpty = false := by
    rw [ByteArray.toList_eq]
    cases h : s.data.toList with
    | nil => exact absurd h he
    | cons a t => rfl
  have HG := Lib.hid hg
  clear he hg
  go_enter Tryd.func40, Tryd.ntmps40
  go_wp2
  go_loop [4] (fun i => ∃ k : Nat, k ≤ s.size ∧ i = .int .i64 k) (fun i => s.size - (intOf i).toNat)
  case atStart => exact ⟨0, by omega, rfl⟩
  case round =>
    obtain ⟨k, hk, rfl⟩ := hrel
    by_cases hlt : k < s.size
    · by_cases hb : digB s[k] = true
      · go_wp2_with (go_at_call 49; refine (isDigit_any _ _).mono ?_; rintro e w' ⟨rfl, rfl⟩)
        go_round
        case rel => exact ⟨k + 1, by omega, by go_num⟩
        case measure => simp [intOf]; omega
      · exact (digit_not hlt hb HG.out).elim
    · by_cases h15 : 15 < s.size
      · go_wp2
        go_ret2
        exact ⟨numR_large h15, rfl⟩
      · go_wp2
        go_loop [5, 6] (fun n i => ∃ k : Nat, k ≤ s.size ∧ i = .int .i64 k ∧ n = .int .i64 (numV (s.data.toList.take k))) (fun _ i => s.size - (intOf i).toNat)
        case atStart => exact ⟨0, by omega, rfl, rfl⟩
        case round =>
          obtain ⟨j, hj, rfl, rfl⟩ := hrel
          by_cases hlj : j < s.size
          · have hd := digB_of hlj HG.out
            have hd1 := hd.1
            have hd2 := hd.2
            have hv : numV (s.data.toList.take j) < 1000000000000000 := numV_le _ (by
              rw [List.all_eq_true]; intro c hc
              have := HG.out; rw [List.all_eq_true] at this
              exact this c (List.mem_of_mem_take hc)) (by simp; omega)
            have hv2 : Hid (numV (s.data.toList.take (j + 1)) = 10 * numV (s.data.toList.take j) + (s[j].toNat - 48)) := by
              rw [take_snoc s j hlj]; exact numV_snoc _ _
            clear hd
            go_wp2
            go_round
            case rel => exact ⟨j + 1, by omega, by go_num, int_eq (by rw [hv2.out]; omega)⟩
            case measure => simp [intOf]; omega
          · go_wp2
            go_ret2
            exact ⟨numR_small h15 (take_all s j (by omega)), rfl⟩
theorem number_small (s : ByteArray) (w : World) (hg : numGood s) (h15 : s.size ≤ 15) :
    Calls Tryd.prog 40 #[.string s] w fun e w' => e = .returned (.tuple #[.int .i64 (numV s.data.toList), .nilIface]) ∧ w = w' := by
  refine (number_good s w (by unfold maxLen; omega) hg).mono ?_
  rintro e w' ⟨he, hw⟩
  exact ⟨by rw [he]; unfold numR; rw [if_pos h15], hw⟩
theorem number_large (s : ByteArray) (w : World) (hs : s.size ≤ maxLen) (hg : numGood s) (h15 : 15 < s.size) :
    Calls Tryd.prog 40 #[.string s] w fun e w' => e = .returned (.tuple #[.int .i64 0, errLarge']) ∧ w = w' := by
  refine (number_good s w hs hg).mono ?_
  rintro e w' ⟨he, hw⟩
  exact ⟨by rw [he]; unfold numR; rw [if_neg (by omega)], hw⟩
end Go.Proofs.YthjkneifffdglaaDoor
