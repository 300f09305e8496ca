import Derived.Test.YtieolalohindgaaGreatDoorProg
import Derived.WalkKit
import Derived.WalkSpells
import Derived.WalkLawsBesides
import Derived.Lib.Hide
import Derived.Lib.SlTrimSet
import Derived.OwnWalk
import Derived.Below
import Derived.Maps.AppendAt
/- What all texts of a seat share: strings as lists of bytes, slices of strings that a call makes or reads, worlds that leave old blocks as they were. -/
namespace Go.Proofs.YtieolalohindgaaGreatDoor
open Go.RowKit

theorem ret_bool {a b : Bool} (h : a = b) : Ending.returned (.bool a) = .returned (.bool b) := by rw [h]

theorem take_snoc (s : ByteArray) (k : Nat) (h : k < s.size) : s.data.toList.take (k + 1) = s.data.toList.take k ++ [s[k]] := by
  rw [List.take_succ_eq_append_getElem (by simpa using h)]; rfl
theorem get_mem (s : ByteArray) (k : Nat) (h : k < s.size) : s[k] ∈ s.data.toList := by
  have : s[k] = s.data.toList[k]'(by simpa using h) := rfl
  rw [this]; exact List.getElem_mem _
theorem take_all (s : ByteArray) (k : Nat) (h : s.size ≤ k) : s.data.toList.take k = s.data.toList := List.take_of_length_le (by simpa using h)
theorem Tryz.infoS : (Tryz.prog.info? 9).map (fun i => (i.zero, i.size, i.bytes)) = some (some (.string ByteArray.empty), 1, 16) := by kernel_rfl

def strB (l : List UInt8) : ByteArray := ⟨l.toArray⟩
abbrev strV (l : List UInt8) : Value := .string (strB l)
/-- The value v is a slice of the call's own (its cells lie in blocks from B on) that holds these strings. -/
def OwnsS (B : Nat) (w : World) (v : Value) (ls : List (List UInt8)) : Prop :=
  w.ownsRow B 9 1 v ls.length (ls.map strV)

theorem seg_list (s : ByteArray) (x k : Nat) : (s.extract x k).data.toList = (s.data.toList.drop x).take (k - x) := by
  exact Lib.extract_data s x k
theorem below_drewN {B : Nat} {a w : World} (h : Below B a w) (n : Nat) : Below B a (w.drewN n) := ⟨h.os, h.tape, h.output, h.size, h.block⟩
theorem grown_of_below {a w : World} (h : Below a.heap.size a w) (row : Option Nat) : a.grownBy w row := ⟨h.os, h.tape, h.output, h.size, fun i hi _ => h.block i hi⟩
theorem OwnsS.below {B : Nat} {w w' : World} {v : Value} {ls : List (List UInt8)} (h : OwnsS B w v ls) (hb : Below w.heap.size w w') : OwnsS B w' v ls :=
  World.ownsRow.kept h (grown_of_below hb none) (by cases hv : v.ownBlock <;> simp)

theorem OwnsS.snoc {B : Nat} {w : World} {v : Value} {ls : List (List UInt8)} {l : List UInt8} (h : w.ownsRow B 9 1 v (ls.length + 1) (ls.map strV ++ [strV l])) : OwnsS B w v (ls ++ [l]) := by
  unfold OwnsS; rw [List.length_append, List.map_append]; exact h
theorem below_append {B : Nat} {a w w1 w2 : World} {v : Value} {ls : List (List UInt8)} {o : Obj} (hB : Below B a w) (hBs : B ≤ w.heap.size) (hb1 : Below w.heap.size w w1) (hown : OwnsS B w v ls)
    (hgrow : (w1.alloc o).grownBy w2 v.ownBlock) : Below B a w2 :=
  ((hB.trans (hb1.mono hBs)).alloc (by have := hb1.size; omega) o).grown hgrow (by have := hb1.size; simp; omega) (fun q hq => (World.ownsRow.lt hown q hq).1)

theorem below_new (w : World) (o : Obj) : Below w.heap.size w (w.alloc o) := (Below.refl _ _).alloc (Nat.le_refl _) o
theorem nat_of_u8 {a b : UInt8} (h : a.toNat = b.toNat) : a = b := UInt8.toNat_inj.mp h

theorem strB_size (l : List UInt8) : (strB l).size = l.length := by show l.toArray.size = _; simp
theorem strB_list (l : List UInt8) : (strB l).data.toList = l := by simp [strB]
theorem strB_of (s : ByteArray) : strB s.data.toList = s := by apply ByteArray.ext; simp [strB]
theorem strB_ext {s : ByteArray} {l : List UInt8} (h : s.data.toList = l) : s = strB l := by rw [← h, strB_of]
theorem strB_snoc (l : List UInt8) (c : UInt8) : strB l ++ ⟨#[c]⟩ = strB (l ++ [c]) := by apply ByteArray.ext; simp [strB]
theorem strB_app (l : List UInt8) (s : ByteArray) : strB l ++ s = strB (l ++ s.data.toList) := by apply ByteArray.ext; simp [strB]
theorem one_byte (s : ByteArray) (k : Nat) (h : k < s.size) : (s.extract k (k + 1)).data.toList = [s[k]] := by
  rw [seg_list, show k + 1 - k = 1 by omega, List.drop_eq_getElem_cons (by simpa using h)]; rfl
/-- A slice of the call's own, opened: nil and empty, or a block with its cells. -/
theorem OwnsS.open' {B : Nat} {w : World} {v : Value} {ls : List (List UInt8)} (h : OwnsS B w v ls) :
    (v = .slice none 0 0 ∧ ls = []) ∨ ∃ g cap, v = .slice (some ⟨g, 0, none⟩) ls.length cap ∧ B ≤ g ∧ g < w.heap.size ∧ (∀ j l, ls[j]? = some l → w.cell? ⟨g, j, none⟩ = some (.string (strB l))) := by
  have h0 := h
  rcases h with ⟨hl, ⟨hv, hn⟩ | ⟨g, cap, cur, hv, hb, hg, hn, hm, hs, ht⟩⟩
  · exact .inl ⟨hv, List.eq_nil_of_length_eq_zero hn⟩
  · refine .inr ⟨g, cap, hv, hb, ?_, ?_⟩
    · have := World.ownsRow.lt h0 g (by rw [hv]; rfl)
      exact this.2
    · intro j l hj
      subst hv
      have hj' : j < ls.length := (List.getElem?_eq_some_iff.mp hj).1
      have := World.ownsRow.cellAt h0 j (by omega)
      rw [this, List.getElem?_map, hj]; rfl

theorem OwnsS.mono {B C : Nat} {w : World} {v : Value} {ls : List (List UInt8)} (hBC : B ≤ C) (h : OwnsS C w v ls) : OwnsS B w v ls := by
  rcases h with ⟨hl, hv | ⟨g, cap, cur, hv, hb, hg, hn, hm, hs, ht⟩⟩
  · exact ⟨hl, .inl hv⟩
  · exact ⟨hl, .inr ⟨g, cap, cur, hv, Nat.le_trans hBC hb, hg, hn, hm, hs, ht⟩⟩
theorem empty_yes {l : List UInt8} (h : l = []) : (strB l).toList.isEmpty = true := by subst h; rw [ByteArray.toList_eq]; rfl
theorem empty_no {l : List UInt8} (h : l ≠ []) : (strB l).toList.isEmpty = false := by
  rw [ByteArray.toList_eq]
  cases l with
  | nil => exact absurd rfl h
  | cons a t => rfl

/-- The value v is a slice of strings that reads as ls in the world w. -/
def ReadsS (w : World) (v : Value) (ls : List (List UInt8)) : Prop :=
  ∃ ao cap, v = .slice ao ls.length cap ∧ ∀ j l, ls[j]? = some l → ∃ g off, ao = some ⟨g, off, none⟩ ∧ g < w.heap.size ∧ w.cell? ⟨g, off + j, none⟩ = some (.string (strB l))
theorem OwnsS.reads {B : Nat} {w : World} {v : Value} {ls : List (List UInt8)} (h : OwnsS B w v ls) : ReadsS w v ls := by
  rcases h.open' with ⟨rfl, rfl⟩ | ⟨g, cap, rfl, _, hg, hc⟩
  · exact ⟨none, 0, rfl, fun j l h => by simp at h⟩
  · exact ⟨_, cap, rfl, fun j l hj => ⟨g, 0, rfl, hg, by rw [Nat.zero_add]; exact hc j l hj⟩⟩
theorem ReadsS.below {w w' : World} {v : Value} {ls : List (List UInt8)} (h : ReadsS w v ls) (hb : Below w.heap.size w w') : ReadsS w' v ls := by
  obtain ⟨ao, cap, rfl, hc⟩ := h
  refine ⟨ao, cap, rfl, fun j l hj => ?_⟩
  obtain ⟨g, off, h1, h2, h3⟩ := hc j l hj
  exact ⟨g, off, h1, Nat.lt_of_lt_of_le h2 hb.size, (hb.cell (p := ⟨g, off + j, none⟩) h2).trans h3⟩
theorem strB_inj {a b : List UInt8} (h : strB a = strB b) : a = b := by
  have := congrArg (fun s : ByteArray => s.data.toList) h
  simpa [strB] using this

end Go.Proofs.YtieolalohindgaaGreatDoor

/- The predicates on single bytes: what the code's isDigit, isControl, isTokenByte and the reference's tchar return, for every byte. -/
namespace Go.Proofs.YtieolalohindgaaGreatDoor
open Go.RowKit

def digB (c : UInt8) : Bool := decide (48 ≤ c.toNat) && decide (c.toNat ≤ 57)
def ctlB (c : UInt8) : Bool := (decide (c.toNat < 32) && decide (c.toNat ≠ 9)) || decide (c.toNat = 127)
def tokB (c : UInt8) : Bool :=
  digB c || (decide (97 ≤ c.toNat) && decide (c.toNat ≤ 122)) || (decide (65 ≤ c.toNat) && decide (c.toNat ≤ 90)) ||
  [33, 35, 36, 37, 38, 39, 42, 43, 45, 46, 94, 95, 96, 124, 126].contains c.toNat
set_option maxHeartbeats 400000 in
theorem isDigit_any (c : UInt8) (w : World) :
    Calls Tryz.prog 97 #[.int .u8 (c.toNat : Int)] w fun e w' => e = .returned (.bool (digB c)) ∧ w = w' := by
  go_enter Tryz.func97, Tryz.ntmps97
  go_wp2
  all_goals
    go_ret
    refine ⟨ret_bool ?_, rfl⟩
    rw [Bool.eq_iff_iff]
    simp [digB] at *
    try omega

set_option maxHeartbeats 400000 in
theorem isControl_any (c : UInt8) (w : World) :
    Calls Tryz.prog 110 #[.int .u8 (c.toNat : Int)] w fun e w' => e = .returned (.bool (ctlB c)) ∧ w = w' := by
  go_enter Tryz.func110, Tryz.ntmps110
  go_wp2
  all_goals
    go_ret
    refine ⟨ret_bool ?_, rfl⟩
    rw [Bool.eq_iff_iff]
    simp [ctlB] at *
    try omega
def moreL : List Nat := [33, 35, 36, 37, 38, 39, 42, 43, 45, 46, 94, 95, 96, 124, 126]
def notYet (k : Nat) (c : UInt8) : Prop := ∀ x ∈ moreL.take k, ¬ c.toNat = x
theorem notYet0 (c : UInt8) : notYet 0 c := by intro x hx; simp at hx
theorem more_at : ∀ k : Fin 15, ((⟨#[33, 35, 36, 37, 38, 39, 42, 43, 45, 46, 94, 95, 96, 124, 126]⟩ : ByteArray)[k.val]'(k.isLt)).toNat = moreL[k.val]'(k.isLt) := by decide
theorem notYet_step {k : Nat} {c : UInt8} (hk : k < 15) (hn : notYet k c)
    (h : ((((⟨#[33, 35, 36, 37, 38, 39, 42, 43, 45, 46, 94, 95, 96, 124, 126]⟩ : ByteArray)[k]'(hk)).toNat : Int) == (c.toNat : Int)) = false) : notYet (k + 1) c := by
  have e := more_at ⟨k, hk⟩
  simp only at e
  rw [e] at h
  intro x hx
  rw [List.take_succ_eq_append_getElem (by simpa [moreL] using hk)] at hx
  rcases List.mem_append.mp hx with hx | hx
  · exact hn x hx
  · simp only [List.mem_singleton] at hx
    subst hx
    simp at h
    omega
theorem tok_yes {k : Nat} {c : UInt8} (hk : k < 15)
    (h : ((((⟨#[33, 35, 36, 37, 38, 39, 42, 43, 45, 46, 94, 95, 96, 124, 126]⟩ : ByteArray)[k]'(hk)).toNat : Int) == (c.toNat : Int)) = true) : true = tokB c := by
  have e := more_at ⟨k, hk⟩
  simp only at e
  rw [e] at h
  have hm : moreL.contains c.toNat = true := by
    rw [List.contains_iff_mem]
    have : c.toNat = moreL[k]'(hk) := by simp at h; omega
    rw [this]; exact List.getElem_mem _
  unfold tokB
  unfold moreL at hm
  rw [hm, Bool.or_true]
theorem tok_no {k : Nat} {c : UInt8} (hk : 15 ≤ k) (hn : notYet k c) (h1 : ¬ (48 ≤ c.toNat ∧ c.toNat ≤ 57)) (h2 : ¬ (97 ≤ c.toNat ∧ c.toNat ≤ 122)) (h3 : ¬ (65 ≤ c.toNat ∧ c.toNat ≤ 90)) : false = tokB c := by
  have hm : moreL.contains c.toNat = false := by
    rw [Bool.eq_false_iff]
    intro h
    rw [List.contains_iff_mem] at h
    have ht : moreL.take k = moreL := List.take_of_length_le (by simp [moreL]; omega)
    exact hn c.toNat (by rw [ht]; exact h) rfl
  unfold tokB digB
  unfold moreL at hm
  rw [hm, Bool.or_false, eq_comm, Bool.eq_false_iff]
  simp
  omega
end Go.Proofs.YtieolalohindgaaGreatDoor

/- Scans of a string: what the code's hasControl and Token and the reference's Control and Token return, for every string. -/
namespace Go.Proofs.YtieolalohindgaaGreatDoor
open Go.RowKit

def ctlS (l : List UInt8) : Bool := l.any ctlB
def tokS (l : List UInt8) : Bool := l.all tokB && !l.isEmpty

def noCtl (s : ByteArray) (k : Nat) : Prop := (s.data.toList.take k).any ctlB = false
theorem noCtl0 (s : ByteArray) : noCtl s 0 := by simp [noCtl]
theorem noCtl_step {s : ByteArray} {k : Nat} (h : k < s.size) (hn : noCtl s k) (hb : ctlB s[k] = false) : noCtl s (k + 1) := by
  unfold noCtl at *; rw [take_snoc s k h, List.any_append, hn]; simp [hb]
theorem ctl_yes {s : ByteArray} {k : Nat} (h : k < s.size) (hb : ctlB s[k] = true) : true = ctlS s.data.toList := by
  unfold ctlS; exact (List.any_eq_true.mpr ⟨_, get_mem s k h, hb⟩).symm
theorem ctl_no {s : ByteArray} {k : Nat} (h : s.size ≤ k) (hn : noCtl s k) : false = ctlS s.data.toList := by
  unfold noCtl at hn; rw [take_all s k h] at hn; exact hn.symm
def allTok (s : ByteArray) (k : Nat) : Prop := (s.data.toList.take k).all tokB = true
theorem allTok0 (s : ByteArray) : allTok s 0 := by simp [allTok]
theorem allTok_step {s : ByteArray} {k : Nat} (h : k < s.size) (hn : allTok s k) (hb : tokB s[k] = true) : allTok s (k + 1) := by
  unfold allTok at *; rw [take_snoc s k h, List.all_append, hn]; simp [hb]
theorem tokS_no {s : ByteArray} {k : Nat} (h : k < s.size) (hb : tokB s[k] = false) : false = tokS s.data.toList := by
  unfold tokS
  have : s.data.toList.all tokB = false := by
    rw [Bool.eq_false_iff]; intro ha
    rw [List.all_eq_true] at ha
    rw [ha _ (get_mem s k h)] at hb; cases hb
  rw [this]; rfl
theorem tokS_end {s : ByteArray} {k : Nat} (h : s.size ≤ k) (hn : allTok s k) : (!s.toList.isEmpty) = tokS s.data.toList := by
  unfold allTok at hn; rw [take_all s k h] at hn; unfold tokS; rw [hn, ByteArray.toList_eq]; rfl
theorem tokS_end2 {s : ByteArray} {k : Nat} (h : s.size ≤ k) (hn : allTok s k) : decide (0 < s.size) = tokS s.data.toList := by
  rw [← tokS_end h hn, ByteArray.toList_eq, Bool.eq_iff_iff]
  have hz : s.data.toList.length = s.size := by simp
  cases hl : s.data.toList with
  | nil => rw [hl] at hz; simp only [List.length_nil] at hz; simp [← hz]
  | cons a t => rw [hl] at hz; simp only [List.length_cons] at hz; simp; omega
theorem ctlB_mk {c : UInt8} (h : (c.toNat < 32 ∧ c.toNat ≠ 9) ∨ c.toNat = 127) : ctlB c = true := by simp [ctlB]; omega
theorem ctlB_not {c : UInt8} (h : 32 ≤ c.toNat ∨ c.toNat = 9) (h2 : ¬ c.toNat = 127) : ctlB c = false := by rw [Bool.eq_false_iff]; simp [ctlB]; omega

set_option maxHeartbeats 400000 in
theorem hasControl_any (s : ByteArray) (w : World) (hs : s.size ≤ maxLen) :
    Calls Tryz.prog 92 #[.string s] w fun e w' => e = .returned (.bool (ctlS s.data.toList)) ∧ w = w' := by
  unfold maxLen at hs
  go_enter Tryz.func92, Tryz.ntmps92
  go_wp2
  go_loop [3] (fun i => ∃ k : Nat, k ≤ s.size ∧ i = .int .i64 k ∧ noCtl s k) (fun i => s.size - (intOf i).toNat)
  case atStart => exact ⟨0, by omega, rfl, noCtl0 s⟩
  case round =>
    obtain ⟨k, hk, rfl, hn⟩ := hrel
    by_cases hlt : k < s.size
    · by_cases hb : ctlB s[k] = true
      all_goals
        go_wp2_with (go_at_call 110; refine (isControl_any _ _).mono ?_; rintro e w' ⟨rfl, rfl⟩)
      · go_ret
        exact ⟨ret_bool (ctl_yes hlt hb), rfl⟩
      · go_round
        case rel => exact ⟨k + 1, by omega, by go_num, noCtl_step hlt hn (by simpa using hb)⟩
        case measure => simp [intOf]; omega
    · go_wp2
      go_ret
      exact ⟨ret_bool (ctl_no (by omega) hn), rfl⟩
set_option maxHeartbeats 400000 in
theorem refControl_any (s : ByteArray) (w : World) (hs : s.size ≤ maxLen) :
    Calls Tryz.prog 116 #[.string s] w fun e w' => e = .returned (.bool (ctlS s.data.toList)) ∧ w = w' := by
  unfold maxLen at hs
  go_enter Tryz.func116, Tryz.ntmps116
  go_wp2
  go_loop [6] (fun i => ∃ k : Nat, k ≤ s.size ∧ i = .int .i64 k ∧ noCtl s k) (fun i => s.size - (intOf i).toNat)
  case atStart => exact ⟨0, by omega, rfl, noCtl0 s⟩
  case round =>
    obtain ⟨k, hk, rfl, hn⟩ := hrel
    by_cases hlt : k < s.size
    · go_wp2
      · go_round
        case rel => exact ⟨k + 1, by omega, by go_num, noCtl_step hlt hn (ctlB_not (by omega) (by omega))⟩
        case measure => simp [intOf]; omega
      · go_ret
        exact ⟨ret_bool (ctl_yes hlt (ctlB_mk (by omega))), rfl⟩
      · have h7 : ((s[k].toNat : Int) == 127) = true := by assumption
        simp only [beq_iff_eq] at h7
        go_ret
        exact ⟨ret_bool (ctl_yes hlt (ctlB_mk (by omega))), rfl⟩
      · have h7 : ((s[k].toNat : Int) == 127) = false := by assumption
        simp only [beq_eq_false_iff_ne] at h7
        go_round
        case rel => exact ⟨k + 1, by omega, by go_num, noCtl_step hlt hn (ctlB_not (by omega) (by omega))⟩
        case measure => simp [intOf]; omega
    · go_wp2
      go_ret
      exact ⟨ret_bool (ctl_no (by omega) hn), rfl⟩
end Go.Proofs.YtieolalohindgaaGreatDoor
