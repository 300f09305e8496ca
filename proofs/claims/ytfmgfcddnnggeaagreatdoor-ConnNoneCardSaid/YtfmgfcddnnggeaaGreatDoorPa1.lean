import Derived.Test.YtfmgfcddnnggeaaGreatDoorPa0
import Derived.WalkKit
import Derived.WalkSpells
import Derived.WalkLawsBesides
/- What Num returns where the statements call it. -/
namespace Go.Proofs.YtfmgfcddnnggeaaGreatDoor
open Go.RowKit

set_option maxHeartbeats 400000 in
set_option maxRecDepth 100000 in
theorem num_nil (w : World) : Calls Tryz.prog 15 #[.nilIface] w fun e w' => e = .returned (.int .i64 0) ∧ w = w' := by
  go_enter Tryz.func15, Tryz.ntmps15
  go_wp2
  go_ret
  exact ⟨rfl, rfl⟩
set_option maxHeartbeats 400000 in
set_option maxRecDepth 100000 in
theorem num_errno (a : Int) (w : World) : Calls Tryz.prog 15 #[.iface 32 (.int .i64 a)] w fun e w' => e = .returned (.int .i64 a) ∧ w = w' := by
  have hta : ∀ w : World, (Instr.typeAssert (.iface 32 (.int .i64 a)) 25 32 true).run Tryz.prog w = .ok (.tuple #[.int .i64 a, .bool true]) w := fun _ => by kernel_rfl
  go_enter Tryz.func15, Tryz.ntmps15
  go_wp2
  go_ret
  exact ⟨rfl, rfl⟩
end Go.Proofs.YtfmgfcddnnggeaaGreatDoor

/- The predicates on single bytes: what the code's isDigit, isControl, isTokenByte and the reference's tchar return, for every byte. -/
namespace Go.Proofs.YtfmgfcddnnggeaaGreatDoor
open Go.RowKit

def digB (c : UInt8) : Bool := decide (48 ≤ c.toNat) && decide (c.toNat ≤ 57)
def ctlB (c : UInt8) : Bool := (decide (c.toNat < 32) && decide (c.toNat ≠ 9)) || decide (c.toNat = 127)
def tokB (c : UInt8) : Bool :=
  digB c || (decide (97 ≤ c.toNat) && decide (c.toNat ≤ 122)) || (decide (65 ≤ c.toNat) && decide (c.toNat ≤ 90)) ||
  [33, 35, 36, 37, 38, 39, 42, 43, 45, 46, 94, 95, 96, 124, 126].contains c.toNat
set_option maxHeartbeats 400000 in
theorem isDigit_any (c : UInt8) (w : World) :
    Calls Tryz.prog 79 #[.int .u8 (c.toNat : Int)] w fun e w' => e = .returned (.bool (digB c)) ∧ w = w' := by
  go_enter Tryz.func79, Tryz.ntmps79
  go_wp2
  all_goals
    go_ret
    refine ⟨ret_bool ?_, rfl⟩
    rw [Bool.eq_iff_iff]
    simp [digB] at *
    try omega

set_option maxHeartbeats 400000 in
theorem isControl_any (c : UInt8) (w : World) :
    Calls Tryz.prog 69 #[.int .u8 (c.toNat : Int)] w fun e w' => e = .returned (.bool (ctlB c)) ∧ w = w' := by
  go_enter Tryz.func69, Tryz.ntmps69
  go_wp2
  all_goals
    go_ret
    refine ⟨ret_bool ?_, rfl⟩
    rw [Bool.eq_iff_iff]
    simp [ctlB] at *
    try omega
set_option maxHeartbeats 4000000 in
theorem isTokenByte_any (c : UInt8) (w : World) :
    Calls Tryz.prog 113 #[.int .u8 (c.toNat : Int)] w fun e w' => e = .returned (.bool (tokB c)) ∧ w = w' := by
  go_enter Tryz.func113, Tryz.ntmps113
  go_wp2
  all_goals
    go_ret
    refine ⟨ret_bool ?_, rfl⟩
    rw [Bool.eq_iff_iff]
    simp [tokB, digB] at *
    try omega
def moreL : List Nat := [33, 35, 36, 37, 38, 39, 42, 43, 45, 46, 94, 95, 96, 124, 126]
def notYet (k : Nat) (c : UInt8) : Prop := ∀ x ∈ moreL.take k, ¬ c.toNat = x
theorem notYet0 (c : UInt8) : notYet 0 c := by intro x hx; simp at hx
theorem more_at : ∀ k : Fin 15, ((⟨#[33, 35, 36, 37, 38, 39, 42, 43, 45, 46, 94, 95, 96, 124, 126]⟩ : ByteArray)[k.val]'(k.isLt)).toNat = moreL[k.val]'(k.isLt) := by decide
theorem notYet_step {k : Nat} {c : UInt8} (hk : k < 15) (hn : notYet k c)
    (h : ((((⟨#[33, 35, 36, 37, 38, 39, 42, 43, 45, 46, 94, 95, 96, 124, 126]⟩ : ByteArray)[k]'(hk)).toNat : Int) == (c.toNat : Int)) = false) : notYet (k + 1) c := by
  have e := more_at ⟨k, hk⟩
  simp only at e
  rw [e] at h
  intro x hx
  rw [List.take_succ_eq_append_getElem (by simpa [moreL] using hk)] at hx
  rcases List.mem_append.mp hx with hx | hx
  · exact hn x hx
  · simp only [List.mem_singleton] at hx
    subst hx
    simp at h
    omega
theorem tok_yes {k : Nat} {c : UInt8} (hk : k < 15)
    (h : ((((⟨#[33, 35, 36, 37, 38, 39, 42, 43, 45, 46, 94, 95, 96, 124, 126]⟩ : ByteArray)[k]'(hk)).toNat : Int) == (c.toNat : Int)) = true) : true = tokB c := by
  have e := more_at ⟨k, hk⟩
  simp only at e
  rw [e] at h
  have hm : moreL.contains c.toNat = true := by
    rw [List.contains_iff_mem]
    have : c.toNat = moreL[k]'(hk) := by simp at h; omega
    rw [this]; exact List.getElem_mem _
  unfold tokB
  unfold moreL at hm
  rw [hm, Bool.or_true]
theorem tok_no {k : Nat} {c : UInt8} (hk : 15 ≤ k) (hn : notYet k c) (h1 : ¬ (48 ≤ c.toNat ∧ c.toNat ≤ 57)) (h2 : ¬ (97 ≤ c.toNat ∧ c.toNat ≤ 122)) (h3 : ¬ (65 ≤ c.toNat ∧ c.toNat ≤ 90)) : false = tokB c := by
  have hm : moreL.contains c.toNat = false := by
    rw [Bool.eq_false_iff]
    intro h
    rw [List.contains_iff_mem] at h
    have ht : moreL.take k = moreL := List.take_of_length_le (by simp [moreL]; omega)
    exact hn c.toNat (by rw [ht]; exact h) rfl
  unfold tokB digB
  unfold moreL at hm
  rw [hm, Bool.or_false, eq_comm, Bool.eq_false_iff]
  simp
  omega
end Go.Proofs.YtfmgfcddnnggeaaGreatDoor

/- Scans of a string: what the code's hasControl and Token and the reference's Control and Token return, for every string. -/
namespace Go.Proofs.YtfmgfcddnnggeaaGreatDoor
open Go.RowKit

def ctlS (l : List UInt8) : Bool := l.any ctlB
def tokS (l : List UInt8) : Bool := l.all tokB && !l.isEmpty

def noCtl (s : ByteArray) (k : Nat) : Prop := (s.data.toList.take k).any ctlB = false
theorem noCtl0 (s : ByteArray) : noCtl s 0 := by simp [noCtl]
theorem noCtl_step {s : ByteArray} {k : Nat} (h : k < s.size) (hn : noCtl s k) (hb : ctlB s[k] = false) : noCtl s (k + 1) := by
  unfold noCtl at *; rw [take_snoc s k h, List.any_append, hn]; simp [hb]
theorem ctl_yes {s : ByteArray} {k : Nat} (h : k < s.size) (hb : ctlB s[k] = true) : true = ctlS s.data.toList := by
  unfold ctlS; exact (List.any_eq_true.mpr ⟨_, get_mem s k h, hb⟩).symm
theorem ctl_no {s : ByteArray} {k : Nat} (h : s.size ≤ k) (hn : noCtl s k) : false = ctlS s.data.toList := by
  unfold noCtl at hn; rw [take_all s k h] at hn; exact hn.symm
def allTok (s : ByteArray) (k : Nat) : Prop := (s.data.toList.take k).all tokB = true
theorem allTok0 (s : ByteArray) : allTok s 0 := by simp [allTok]
theorem allTok_step {s : ByteArray} {k : Nat} (h : k < s.size) (hn : allTok s k) (hb : tokB s[k] = true) : allTok s (k + 1) := by
  unfold allTok at *; rw [take_snoc s k h, List.all_append, hn]; simp [hb]
theorem tokS_no {s : ByteArray} {k : Nat} (h : k < s.size) (hb : tokB s[k] = false) : false = tokS s.data.toList := by
  unfold tokS
  have : s.data.toList.all tokB = false := by
    rw [Bool.eq_false_iff]; intro ha
    rw [List.all_eq_true] at ha
    rw [ha _ (get_mem s k h)] at hb; cases hb
  rw [this]; rfl
theorem tokS_end {s : ByteArray} {k : Nat} (h : s.size ≤ k) (hn : allTok s k) : (!s.toList.isEmpty) = tokS s.data.toList := by
  unfold allTok at hn; rw [take_all s k h] at hn; unfold tokS; rw [hn, ByteArray.toList_eq]; rfl
theorem tokS_end2 {s : ByteArray} {k : Nat} (h : s.size ≤ k) (hn : allTok s k) : decide (0 < s.size) = tokS s.data.toList := by
  rw [← tokS_end h hn, ByteArray.toList_eq, Bool.eq_iff_iff]
  have hz : s.data.toList.length = s.size := by simp
  cases hl : s.data.toList with
  | nil => rw [hl] at hz; simp only [List.length_nil] at hz; simp [← hz]
  | cons a t => rw [hl] at hz; simp only [List.length_cons] at hz; simp; omega
theorem ctlB_mk {c : UInt8} (h : (c.toNat < 32 ∧ c.toNat ≠ 9) ∨ c.toNat = 127) : ctlB c = true := by simp [ctlB]; omega
theorem ctlB_not {c : UInt8} (h : 32 ≤ c.toNat ∨ c.toNat = 9) (h2 : ¬ c.toNat = 127) : ctlB c = false := by rw [Bool.eq_false_iff]; simp [ctlB]; omega

set_option maxHeartbeats 400000 in
theorem hasControl_any (s : ByteArray) (w : World) (hs : s.size ≤ maxLen) :
    Calls Tryz.prog 58 #[.string s] w fun e w' => e = .returned (.bool (ctlS s.data.toList)) ∧ w = w' := by
  unfold maxLen at hs
  go_enter Tryz.func58, Tryz.ntmps58
  go_wp2
  go_loop [3] (fun i => ∃ k : Nat, k ≤ s.size ∧ i = .int .i64 k ∧ noCtl s k) (fun i => s.size - (intOf i).toNat)
  case atStart => exact ⟨0, by omega, rfl, noCtl0 s⟩
  case round =>
    obtain ⟨k, hk, rfl, hn⟩ := hrel
    by_cases hlt : k < s.size
    · by_cases hb : ctlB s[k] = true
      all_goals
        go_wp2_with (go_at_call 69; refine (isControl_any _ _).mono ?_; rintro e w' ⟨rfl, rfl⟩)
      · go_ret
        exact ⟨ret_bool (ctl_yes hlt hb), rfl⟩
      · go_round
        case rel => exact ⟨k + 1, by omega, by go_num, noCtl_step hlt hn (by simpa using hb)⟩
        case measure => simp [intOf]; omega
    · go_wp2
      go_ret
      exact ⟨ret_bool (ctl_no (by omega) hn), rfl⟩
set_option maxHeartbeats 400000 in
theorem token_any (s : ByteArray) (w : World) (hs : s.size ≤ maxLen) :
    Calls Tryz.prog 99 #[.string s] w fun e w' => e = .returned (.bool (tokS s.data.toList)) ∧ w = w' := by
  unfold maxLen at hs
  go_enter Tryz.func99, Tryz.ntmps99
  go_wp2
  go_loop [3] (fun i => ∃ k : Nat, k ≤ s.size ∧ i = .int .i64 k ∧ allTok s k) (fun i => s.size - (intOf i).toNat)
  case atStart => exact ⟨0, by omega, rfl, allTok0 s⟩
  case round =>
    obtain ⟨k, hk, rfl, hn⟩ := hrel
    by_cases hlt : k < s.size
    · by_cases hb : tokB s[k] = true
      all_goals
        go_wp2_with (go_at_call 113; refine (isTokenByte_any _ _).mono ?_; rintro e w' ⟨rfl, rfl⟩)
      · go_round
        case rel => exact ⟨k + 1, by omega, by go_num, allTok_step hlt hn hb⟩
        case measure => simp [intOf]; omega
      · go_ret
        exact ⟨ret_bool (tokS_no hlt (by simpa using hb)), rfl⟩
    · go_wp2
      go_ret
      exact ⟨ret_bool (tokS_end (by omega) hn), rfl⟩
end Go.Proofs.YtfmgfcddnnggeaaGreatDoor
