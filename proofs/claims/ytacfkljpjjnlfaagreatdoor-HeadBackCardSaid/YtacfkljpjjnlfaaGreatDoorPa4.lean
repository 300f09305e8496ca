import Derived.Test.YtacfkljpjjnlfaaGreatDoorPa3
import Derived.Lib.SlTrimSet
import Derived.Test.YtacfkljpjjnlfaaGreatDoorPa0
import Derived.Lib.Hide
/- Scans of a string: what the code's hasControl and Token and the reference's Control and Token return, for every string. -/
namespace Go.Proofs.YtacfkljpjjnlfaaGreatDoor
open Go.RowKit

def ctlS (l : List UInt8) : Bool := l.any ctlB
def tokS (l : List UInt8) : Bool := l.all tokB && !l.isEmpty

def noCtl (s : ByteArray) (k : Nat) : Prop := (s.data.toList.take k).any ctlB = false
theorem noCtl0 (s : ByteArray) : noCtl s 0 := by simp [noCtl]
theorem noCtl_step {s : ByteArray} {k : Nat} (h : k < s.size) (hn : noCtl s k) (hb : ctlB s[k] = false) : noCtl s (k + 1) := by
  unfold noCtl at *; rw [take_snoc s k h, List.any_append, hn]; simp [hb]
theorem ctl_yes {s : ByteArray} {k : Nat} (h : k < s.size) (hb : ctlB s[k] = true) : true = ctlS s.data.toList := by
  unfold ctlS; exact (List.any_eq_true.mpr ⟨_, get_mem s k h, hb⟩).symm
theorem ctl_no {s : ByteArray} {k : Nat} (h : s.size ≤ k) (hn : noCtl s k) : false = ctlS s.data.toList := by
  unfold noCtl at hn; rw [take_all s k h] at hn; exact hn.symm
def allTok (s : ByteArray) (k : Nat) : Prop := (s.data.toList.take k).all tokB = true
theorem allTok0 (s : ByteArray) : allTok s 0 := by simp [allTok]
theorem allTok_step {s : ByteArray} {k : Nat} (h : k < s.size) (hn : allTok s k) (hb : tokB s[k] = true) : allTok s (k + 1) := by
  unfold allTok at *; rw [take_snoc s k h, List.all_append, hn]; simp [hb]
theorem tokS_no {s : ByteArray} {k : Nat} (h : k < s.size) (hb : tokB s[k] = false) : false = tokS s.data.toList := by
  unfold tokS
  have : s.data.toList.all tokB = false := by
    rw [Bool.eq_false_iff]; intro ha
    rw [List.all_eq_true] at ha
    rw [ha _ (get_mem s k h)] at hb; cases hb
  rw [this]; rfl
theorem tokS_end {s : ByteArray} {k : Nat} (h : s.size ≤ k) (hn : allTok s k) : (!s.toList.isEmpty) = tokS s.data.toList := by
  unfold allTok at hn; rw [take_all s k h] at hn; unfold tokS; rw [hn, ByteArray.toList_eq]; rfl
theorem tokS_end2 {s : ByteArray} {k : Nat} (h : s.size ≤ k) (hn : allTok s k) : decide (0 < s.size) = tokS s.data.toList := by
  rw [← tokS_end h hn, ByteArray.toList_eq, Bool.eq_iff_iff]
  have hz : s.data.toList.length = s.size := by simp
  cases hl : s.data.toList with
  | nil => rw [hl] at hz; simp only [List.length_nil] at hz; simp [← hz]
  | cons a t => rw [hl] at hz; simp only [List.length_cons] at hz; simp; omega
theorem ctlB_mk {c : UInt8} (h : (c.toNat < 32 ∧ c.toNat ≠ 9) ∨ c.toNat = 127) : ctlB c = true := by simp [ctlB]; omega
theorem ctlB_not {c : UInt8} (h : 32 ≤ c.toNat ∨ c.toNat = 9) (h2 : ¬ c.toNat = 127) : ctlB c = false := by rw [Bool.eq_false_iff]; simp [ctlB]; omega

set_option maxHeartbeats 400000 in
theorem hasControl_any (s : ByteArray) (w : World) (hs : s.size ≤ maxLen) :
    Calls Tryz.prog 74 #[.string s] w fun e w' => e = .returned (.bool (ctlS s.data.toList)) ∧ w = w' := by
  unfold maxLen at hs
  go_enter Tryz.func74, Tryz.ntmps74
  go_wp2
  go_loop [3] (fun i => ∃ k : Nat, k ≤ s.size ∧ i = .int .i64 k ∧ noCtl s k) (fun i => s.size - (intOf i).toNat)
  case atStart => exact ⟨0, by omega, rfl, noCtl0 s⟩
  case round =>
    obtain ⟨k, hk, rfl, hn⟩ := hrel
    by_cases hlt : k < s.size
    · by_cases hb : ctlB s[k] = true
      all_goals
        go_wp2_with (go_at_call 99; refine (isControl_any _ _).mono ?_; rintro e w' ⟨rfl, rfl⟩)
      · go_ret
        exact ⟨ret_bool (ctl_yes hlt hb), rfl⟩
      · go_round
        case rel => exact ⟨k + 1, by omega, by go_num, noCtl_step hlt hn (by simpa using hb)⟩
        case measure => simp [intOf]; omega
    · go_wp2
      go_ret
      exact ⟨ret_bool (ctl_no (by omega) hn), rfl⟩
set_option maxHeartbeats 400000 in
theorem refControl_any (s : ByteArray) (w : World) (hs : s.size ≤ maxLen) :
    Calls Tryz.prog 88 #[.string s] w fun e w' => e = .returned (.bool (ctlS s.data.toList)) ∧ w = w' := by
  unfold maxLen at hs
  go_enter Tryz.func88, Tryz.ntmps88
  go_wp2
  go_loop [6] (fun i => ∃ k : Nat, k ≤ s.size ∧ i = .int .i64 k ∧ noCtl s k) (fun i => s.size - (intOf i).toNat)
  case atStart => exact ⟨0, by omega, rfl, noCtl0 s⟩
  case round =>
    obtain ⟨k, hk, rfl, hn⟩ := hrel
    by_cases hlt : k < s.size
    · go_wp2
      · go_round
        case rel => exact ⟨k + 1, by omega, by go_num, noCtl_step hlt hn (ctlB_not (by omega) (by omega))⟩
        case measure => simp [intOf]; omega
      · go_ret
        exact ⟨ret_bool (ctl_yes hlt (ctlB_mk (by omega))), rfl⟩
      · have h7 : ((s[k].toNat : Int) == 127) = true := by assumption
        simp only [beq_iff_eq] at h7
        go_ret
        exact ⟨ret_bool (ctl_yes hlt (ctlB_mk (by omega))), rfl⟩
      · have h7 : ((s[k].toNat : Int) == 127) = false := by assumption
        simp only [beq_eq_false_iff_ne] at h7
        go_round
        case rel => exact ⟨k + 1, by omega, by go_num, noCtl_step hlt hn (ctlB_not (by omega) (by omega))⟩
        case measure => simp [intOf]; omega
    · go_wp2
      go_ret
      exact ⟨ret_bool (ctl_no (by omega) hn), rfl⟩
set_option maxHeartbeats 400000 in
theorem token_any (s : ByteArray) (w : World) (hs : s.size ≤ maxLen) :
    Calls Tryz.prog 93 #[.string s] w fun e w' => e = .returned (.bool (tokS s.data.toList)) ∧ w = w' := by
  unfold maxLen at hs
  go_enter Tryz.func93, Tryz.ntmps93
  go_wp2
  go_loop [3] (fun i => ∃ k : Nat, k ≤ s.size ∧ i = .int .i64 k ∧ allTok s k) (fun i => s.size - (intOf i).toNat)
  case atStart => exact ⟨0, by omega, rfl, allTok0 s⟩
  case round =>
    obtain ⟨k, hk, rfl, hn⟩ := hrel
    by_cases hlt : k < s.size
    · by_cases hb : tokB s[k] = true
      all_goals
        go_wp2_with (go_at_call 113; refine (isTokenByte_any _ _).mono ?_; rintro e w' ⟨rfl, rfl⟩)
      · go_round
        case rel => exact ⟨k + 1, by omega, by go_num, allTok_step hlt hn hb⟩
        case measure => simp [intOf]; omega
      · go_ret
        exact ⟨ret_bool (tokS_no hlt (by simpa using hb)), rfl⟩
    · go_wp2
      go_ret
      exact ⟨ret_bool (tokS_end (by omega) hn), rfl⟩
set_option maxHeartbeats 400000 in
theorem refToken_any (s : ByteArray) (w : World) (hs : s.size ≤ maxLen) :
    Calls Tryz.prog 87 #[.string s] w fun e w' => e = .returned (.bool (tokS s.data.toList)) ∧ w = w' := by
  unfold maxLen at hs
  go_enter Tryz.func87, Tryz.ntmps87
  go_wp2
  go_loop [6] (fun i => ∃ k : Nat, k ≤ s.size ∧ i = .int .i64 k ∧ allTok s k) (fun i => s.size - (intOf i).toNat)
  case atStart => exact ⟨0, by omega, rfl, allTok0 s⟩
  case round =>
    obtain ⟨k, hk, rfl, hn⟩ := hrel
    by_cases hlt : k < s.size
    · by_cases hb : tokB s[k] = true
      all_goals
        go_wp2_with (go_at_call 111; refine (tchar_any _ _).mono ?_; rintro e w' ⟨rfl, rfl⟩)
      · go_round
        case rel => exact ⟨k + 1, by omega, by go_num, allTok_step hlt hn hb⟩
        case measure => simp [intOf]; omega
      · go_ret
        exact ⟨ret_bool (tokS_no hlt (by simpa using hb)), rfl⟩
    · go_wp2
      go_ret
      exact ⟨ret_bool (tokS_end2 (by omega) hn), rfl⟩
end Go.Proofs.YtacfkljpjjnlfaaGreatDoor

/- Plain mathematics: the parts of a list of bytes between separators outside of quoted parts; nothing of the program. -/
namespace Go.Proofs.YtacfkljpjjnlfaaGreatDoor

inductive St where
  | out | inn | esc

def scan (b : UInt8) : St → List UInt8 → List UInt8 → Option (List (List UInt8))
  | .out, cur, [] => some [cur]
  | .inn, _, [] => none
  | .esc, _, [] => none
  | .out, cur, c :: r => if c = 34 then scan b .inn (cur ++ [c]) r else if c = b then (scan b .out [] r).map (cur :: ·) else scan b .out (cur ++ [c]) r
  | .inn, cur, c :: r => if c = 34 then scan b .out (cur ++ [c]) r else if c = 92 then scan b .esc (cur ++ [c]) r else scan b .inn (cur ++ [c]) r
  | .esc, cur, c :: r => scan b .inn (cur ++ [c]) r

def stOf (q : Bool) : St := if q then .inn else .out

/-- After the bytes before k, with the part that began at st, 'acc' are the parts that are done. -/
def Inv (b : UInt8) (L : List UInt8) (acc : List (List UInt8)) (st k : Nat) (q : Bool) : Prop :=
  st ≤ k ∧ st ≤ L.length ∧ (k ≤ L.length ∨ (k = L.length + 1 ∧ q = true)) ∧ acc.length ≤ k ∧
  scan b .out [] L = (scan b (stOf q) ((L.drop st).take (k - st)) (L.drop k)).map (acc ++ ·)

theorem Inv0 (b : UInt8) (L : List UInt8) : Inv b L [] 0 0 false := by
  refine ⟨Nat.le_refl _, Nat.zero_le _, .inl (Nat.zero_le _), Nat.le_refl _, ?_⟩
  simp [stOf]
theorem drop_cons (L : List UInt8) (k : Nat) (h : k < L.length) : L.drop k = L[k] :: L.drop (k + 1) := by
  rw [List.drop_eq_getElem_cons h]
theorem seg_snoc (L : List UInt8) (st k : Nat) (hs : st ≤ k) (h : k < L.length) : (L.drop st).take (k + 1 - st) = (L.drop st).take (k - st) ++ [L[k]] := by
  have e : k + 1 - st = (k - st) + 1 := by omega
  rw [e, List.take_succ_eq_append_getElem (by simp; omega), List.getElem_drop]
  have e2 : st + (k - st) = k := by omega
  simp only [e2]

theorem Inv.quote {b : UInt8} {L acc st k q} (h : Inv b L acc st k q) (hk : k < L.length) (hc : L[k] = 34) : Inv b L acc st (k + 1) (!q) := by
  obtain ⟨h1, h2, h3, h4, h5⟩ := h
  refine ⟨by omega, h2, .inl (by omega), by omega, ?_⟩
  rw [h5, drop_cons L k hk, seg_snoc L st k h1 hk, hc]
  generalize L.drop (k + 1) = r
  cases q <;> simp [stOf, scan]
theorem Inv.escape {b : UInt8} {L acc st k} (h : Inv b L acc st k true) (hk : k < L.length) (hc : L[k] = 92) : Inv b L acc st (k + 2) true := by
  obtain ⟨h1, h2, h3, h4, h5⟩ := h
  refine ⟨by omega, h2, ?_, by omega, ?_⟩
  · by_cases h : k + 2 ≤ L.length
    · exact .inl h
    · exact .inr ⟨by omega, rfl⟩
  rw [h5, drop_cons L k hk, hc]
  by_cases h : k + 1 < L.length
  · have e := seg_snoc L st (k + 1) (by omega) h
    rw [seg_snoc L st k h1 hk, hc] at e
    rw [drop_cons L (k + 1) h, show k + 2 - st = k + 1 + 1 - st by omega, e]
    show _ = Option.map _ (scan b (stOf true) _ (L.drop (k + 1 + 1)))
    generalize L.drop (k + 1 + 1) = r
    simp [stOf, scan]
  · have e1 : L.drop (k + 1) = [] := List.drop_eq_nil_of_le (by omega)
    have e2 : L.drop (k + 2) = [] := List.drop_eq_nil_of_le (by omega)
    rw [e1, e2]
    simp [stOf, scan]
theorem Inv.cut {b : UInt8} {L acc st k} (h : Inv b L acc st k false) (hk : k < L.length) (hc : L[k] = b) (h34 : L[k] ≠ 34) :
    Inv b L (acc ++ [(L.drop st).take (k - st)]) (k + 1) (k + 1) false := by
  obtain ⟨h1, h2, h3, h4, h5⟩ := h
  refine ⟨by omega, by omega, .inl (by omega), by simp; omega, ?_⟩
  rw [h5, drop_cons L k hk, Nat.sub_self, List.take_zero]
  generalize L.drop (k + 1) = r
  show Option.map _ (scan b .out _ _) = Option.map _ (scan b .out [] r)
  rw [scan, if_neg h34, if_pos hc]
  cases scan b St.out [] r <;> simp
theorem Inv.other {b : UInt8} {L acc st k q} (h : Inv b L acc st k q) (hk : k < L.length) (h34 : L[k] ≠ 34) (h92 : q = true → L[k] ≠ 92) (hb : q = false → L[k] ≠ b) : Inv b L acc st (k + 1) q := by
  obtain ⟨h1, h2, h3, h4, h5⟩ := h
  refine ⟨by omega, h2, .inl (by omega), by omega, ?_⟩
  rw [h5, drop_cons L k hk, seg_snoc L st k h1 hk]
  generalize L.drop (k + 1) = r
  cases q
  · simp [stOf, scan, h34, hb rfl]
  · simp [stOf, scan, h34, h92 rfl]
theorem Inv.open' {b : UInt8} {L acc st k} (h : Inv b L acc st k true) (hk : L.length ≤ k) : scan b .out [] L = none := by
  obtain ⟨h1, h2, h3, h4, h5⟩ := h
  rw [h5, List.drop_eq_nil_of_le hk]; simp [stOf, scan]
theorem Inv.done {b : UInt8} {L acc st k} (h : Inv b L acc st k false) (hk : L.length ≤ k) : scan b .out [] L = some (acc ++ [L.drop st]) := by
  obtain ⟨h1, h2, h3, h4, h5⟩ := h
  have : k = L.length := by
    rcases h3 with h3 | ⟨_, h3⟩
    · omega
    · cases h3
  subst this
  rw [h5, List.drop_eq_nil_of_le hk, List.take_of_length_le (by simp)]; simp [stOf, scan]

def trimB (l : List UInt8) : List UInt8 := Lib.trimS l [32, 9]
end Go.Proofs.YtacfkljpjjnlfaaGreatDoor

/- What the code's Trim returns. -/
namespace Go.Proofs.YtacfkljpjjnlfaaGreatDoor
open Go.RowKit

abbrev errForm : Value := .iface 64 (.int .i64 2)
theorem trim_any (s : ByteArray) (w : World) (hs : s.size ≤ 9223372036854775807) :
    Calls Tryz.prog 114 #[.string s, .string ⟨#[32, 9]⟩] w fun e w' => e = .returned (.string ⟨(trimB s.data.toList).toArray⟩) ∧ Below w.heap.size w w' :=
  Any.strings_Trim_laid Tryz.lays160 (by kernel_rfl) s ⟨#[32, 9]⟩ w hs (by decide) (ascii_of_all (by decide))

set_option maxHeartbeats 400000 in
set_option maxRecDepth 100000 in
theorem trimA_any (s : ByteArray) (w : World) (hs : s.size ≤ 9223372036854775807) :
    Calls Tryz.prog 94 #[.string s] w fun e w' => e = .returned (.string (strB (trimB s.data.toList))) ∧ Below w.heap.size w w' := by
  go_enter Tryz.func94, Tryz.ntmps94
  go_wp2_with fail
  refine (trim_any s _ hs).mono ?_
  rintro e w1 ⟨rfl, hb⟩
  go_wp2_with fail
  go_ret
  exact ⟨rfl, hb⟩
end Go.Proofs.YtacfkljpjjnlfaaGreatDoor
