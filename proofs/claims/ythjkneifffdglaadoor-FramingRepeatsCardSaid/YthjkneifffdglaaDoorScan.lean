/- Scans of a string: what the code's hasControl and Token and the reference's Control and Token return, for every string. -/
import Derived.Test.YthjkneifffdglaaDoorBytes
namespace Go.Proofs.YthjkneifffdglaaDoor
open Go.RowKit

def ctlS (l : List UInt8) : Bool := l.any ctlB
def tokS (l : List UInt8) : Bool := l.all tokB && !l.isEmpty

def noCtl (s : ByteArray) (k : Nat) : Prop := (s.data.toList.take k).any ctlB = false
theorem noCtl0 (s : ByteArray) : noCtl s 0 := by simp [noCtl]
theorem noCtl_step {s : ByteArray} {k : Nat} (h : k < s.size) (hn : noCtl s k) (hb : ctlB s[k] = false) : noCtl s (k + 1) := by
  unfold noCtl at *; rw [take_snoc s k h, List.any_append, hn]; simp [hb]
theorem ctl_yes {s : ByteArray} {k : Nat} (h : k < s.size) (hb : ctlB s[k] = true) : true = ctlS s.data.toList := by
  unfold ctlS; exact (List.any_eq_true.mpr ⟨_, get_mem s k h, hb⟩).symm
theorem ctl_no {s : ByteArray} {k : Nat} (h : s.size ≤ k) (hn : noCtl s k) : false = ctlS s.data.toList := by
  unfold noCtl at hn; rw [take_all s k h] at hn; exact hn.symm
def allTok (s : ByteArray) (k : Nat) : Prop := (s.data.toList.take k).all tokB = true
theorem allTok0 (s : ByteArray) : allTok s 0 := by simp [allTok]
theorem allTok_step {s : ByteArray} {k : Nat} (h : k < s.size) (hn : allTok s k) (hb : tokB s[k] = true) : allTok s (k + 1) := by
  unfold allTok at *; rw [take_snoc s k h, List.all_append, hn]; simp [hb]
theorem tokS_no {s : ByteArray} {k : Nat} (h : k < s.size) (hb : tokB s[k] = false) : false = tokS s.data.toList := by
  unfold tokS
  have : s.data.toList.all tokB = false := by
    rw [Bool.eq_false_iff]; intro ha
    rw [List.all_eq_true] at ha
    rw [ha _ (get_mem s k h)] at hb; cases hb
  rw [this]; rfl
theorem tokS_end {s : ByteArray} {k : Nat} (h : s.size ≤ k) (hn : allTok s k) : (!s.toList.isEmpty) = tokS s.data.toList := by
  unfold allTok at hn; rw [take_all s k h] at hn; unfold tokS; rw [hn, ByteArray.toList_eq]; rfl
theorem tokS_end2 {s : ByteArray} {k : Nat} (h : s.size ≤ k) (hn : allTok s k) : decide (0 < s.size) = tokS s.data.toList := by
  rw [← tokS_end h hn, ByteArray.toList_eq, Bool.eq_iff_iff]
  have hz : s.data.toList.length = s.size := by simp
  cases hl : s.data.toList with
  | nil => rw [hl] at hz; simp only [List.length_nil] at hz; simp [← hz]
  | cons a t => rw [hl] at hz; simp only [List.length_cons] at hz; simp; omega
theorem ctlB_mk {c : UInt8} (h : (c.toNat < 32 ∧ c.toNat ≠ 9) ∨ c.toNat = 127) : ctlB c = true := by simp [ctlB]; omega
theorem ctlB_not {c : UInt8} (h : 32 ≤ c.toNat ∨ c.toNat = 9) (h2 : ¬ c.toNat = 127) : ctlB c = false := by rw [Bool.eq_false_iff]; simp [ctlB]; omega

set_option maxHeartbeats 400000 in
theorem hasControl_any (s : ByteArray) (w : World) (hs : s.size ≤ maxLen) :
    Calls Tryd.prog 77 #[.string s] w fun e w' => e = .returned (.bool (ctlS s.data.toList)) ∧ w = w' := by
  unfold maxLen at hs
  go_enter Tryd.func77, Tryd.ntmps77
  go_wp2
  go_loop [3] (fun i => ∃ k : Nat, k ≤ s.size ∧ i = .int .i64 k ∧ noCtl s k) (fun i => s.size - (intOf i).toNat)
  case atStart => exact ⟨0, by omega, rfl, noCtl0 s⟩
  case round =>
    obtain ⟨k, hk, rfl, hn⟩ := hrel
    by_cases hlt : k < s.size
    · by_cases hb : ctlB s[k] = true
      all_goals
        go_wp2_with (go_at_call 85; refine (isControl_any _ _).mono ?_; rintro e w' ⟨rfl, rfl⟩)
      · go_ret
        exact ⟨ret_bool (ctl_yes hlt hb), rfl⟩
      · go_round
        case rel => exact ⟨k + 1, by omega, by go_num, noCtl_step hlt hn (by simpa using hb)⟩
        case measure => simp [intOf]; omega
    · go_wp2
      go_ret
      exact ⟨ret_bool (ctl_no (by omega) hn), rfl⟩
set_option maxHeartbeats 400000 in
theorem refControl_any (s : ByteArray) (w : World) (hs : s.size ≤ maxLen) :
    Calls Tryd.prog 65 #[.string s] w fun e w' => e = .returned (.bool (ctlS s.data.toList)) ∧ w = w' := by
  unfold maxLen at hs
  go_enter Tryd.func65, Tryd.ntmps65
  go_wp2
  go_loop [6] (fun i => ∃ k : Nat, k ≤ s.size ∧ i = .int .i64 k ∧ noCtl s k) (fun i => s.size - (intOf i).toNat)
  case atStart => exact ⟨0, by omega, rfl, noCtl0 s⟩
  case round =>
    obtain ⟨k, hk, rfl, hn⟩ := hrel
    by_cases hlt : k < s.size
    · go_wp2
      · go_round
        case rel => exact ⟨k + 1, by omega, by go_num, noCtl_step hlt hn (ctlB_not (by omega) (by omega))⟩
        case measure => simp [intOf]; omega
      · go_ret
        exact ⟨ret_bool (ctl_yes hlt (ctlB_mk (by omega))), rfl⟩
      · have h7 : ((s[k].toNat : Int) == 127) = true := by assumption
        simp only [beq_iff_eq] at h7
        go_ret
        exact ⟨ret_bool (ctl_yes hlt (ctlB_mk (by omega))), rfl⟩
      · have h7 : ((s[k].toNat : Int) == 127) = false := by assumption
        simp only [beq_eq_false_iff_ne] at h7
        go_round
        case rel => exact ⟨k + 1, by omega, by go_num, noCtl_step hlt hn (ctlB_not (by omega) (by omega))⟩
        case measure => simp [intOf]; omega
    · go_wp2
      go_ret
      exact ⟨ret_bool (ctl_no (by omega) hn), rfl⟩
end Go.Proofs.YthjkneifffdglaaDoor
