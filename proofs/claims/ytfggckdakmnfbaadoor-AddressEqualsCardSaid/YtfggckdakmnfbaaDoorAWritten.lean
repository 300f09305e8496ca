/- What the law's written returns of a piece. -/
import Derived.Test.YtfggckdakmnfbaaDoorAPieces
import Derived.Test.YtfggckdakmnfbaaDoorAToken
import Derived.Test.YtfggckdakmnfbaaDoorAEqSpec
import Derived.BigQuiet
namespace Go.Proofs.YtfggckdakmnfbaaDoor
open Go.RowKit

abbrev pcV (t : ByteArray) (e : UInt8) (l : Bool) (b : UInt8) : Value := .agg #[.string t, .int .u8 (e.toNat : Int), .bool l, .int .u8 (b.toNat : Int)]
/-- A hexadecimal digit, in lower case if l. -/
def dgt (l : Bool) (n : Nat) : UInt8 := if n < 10 then UInt8.ofNat (48 + n) else if l then UInt8.ofNat (87 + n) else UInt8.ofNat (55 + n)
def digitsB (l : Bool) : ByteArray := if l then ⟨#[48, 49, 50, 51, 52, 53, 54, 55, 56, 57, 97, 98, 99, 100, 101, 102]⟩ else ⟨#[48, 49, 50, 51, 52, 53, 54, 55, 56, 57, 65, 66, 67, 68, 69, 70]⟩
theorem digits_at (l : Bool) (n : Nat) (h : n < 16) : (digitsB l).extract n (n + 1) = strB [dgt l n] := by
  have : ∀ (l : Bool) (m : Fin 16), ((digitsB l).extract m.val (m.val + 1)).data.toList = [dgt l m.val] := by decide +kernel
  exact strB_ext (this l ⟨n, h⟩)
theorem dgt_hex : ∀ (l : Bool) (c : Fin 256), unrB (UInt8.ofNat c.val) = true → okB (dgt l (c.val / 16)) (dgt l (c.val % 16)) = true ∧ valN (dgt l (c.val / 16)) (dgt l (c.val % 16)) = c.val ∧ dgt l (c.val / 16) ≠ 63 ∧ dgt l (c.val % 16) ≠ 63 := by decide +kernel
/-- The text with the byte at i encoded. -/
def encT (l : Bool) (t : List UInt8) (i : Nat) (c : UInt8) : List UInt8 := t.take i ++ 37 :: dgt l (c.toNat / 16) :: dgt l (c.toNat % 16) :: t.drop (i + 1)
theorem wr_encT {l : Bool} {t : ByteArray} {i : Nat} (hi : i < t.size) (h1 : 37 ∉ t.data.toList) (h2 : 63 ∉ t.data.toList) (hu : unrB t[i] = true) : Wr t.data.toList (encT l t.data.toList i t[i]) := by
  have hs : t.data.toList = t.data.toList.take i ++ t[i] :: t.data.toList.drop (i + 1) := by
    have h3 : t.data.toList.drop i = t[i] :: t.data.toList.drop (i + 1) := by
      rw [List.drop_eq_getElem_cons (by simpa using hi)]; rfl
    rw [← h3, List.take_append_drop]
  obtain ⟨a1, a2, a3, a4⟩ := dgt_hex l ⟨t[i].toNat, UInt8.toNat_lt _⟩ (by simpa using hu)
  have := wr_enc (pre := t.data.toList.take i) (post := t.data.toList.drop (i + 1)) (c := t[i]) (by rw [← hs]; exact h1) (by rw [← hs]; exact h2) hu a1 a2 a3 a4
  rw [← hs] at this
  exact this
theorem tok_unr : ∀ c : Fin 256, tokB (UInt8.ofNat c.val) = true → ([37, 42, 43, 33, 35, 36, 38, 39, 94, 96, 124] : List Nat).contains c.val = false → unrB (UInt8.ofNat c.val) = true := by decide +kernel
theorem enc_text (l : Bool) (t : ByteArray) (i : Nat) (x y : UInt8) (hx : (digitsB l).extract (x.toNat / 16) (x.toNat / 16 + 1) = strB [dgt l (x.toNat / 16)]) (hy : (digitsB l).extract (y.toNat % 16) (y.toNat % 16 + 1) = strB [dgt l (y.toNat % 16)]) :
    Value.string (t.extract 0 i ++ ⟨#[37]⟩ ++ (digitsB l).extract (x.toNat / 16) (x.toNat / 16 + 1) ++ (digitsB l).extract (y.toNat % 16) (y.toNat % 16 + 1) ++ t.extract (i + 1) t.size) = .string (strB (t.data.toList.take i ++ 37 :: dgt l (x.toNat / 16) :: dgt l (y.toNat % 16) :: t.data.toList.drop (i + 1))) := by
  rw [hx, hy]
  refine congrArg Value.string ?_
  apply strB_ext
  have e1 : (t.extract 0 i).data.toList = t.data.toList.take i := by rw [seg_list]; simp
  have e2 : (t.extract (i + 1) t.size).data.toList = t.data.toList.drop (i + 1) := by
    rw [seg_list, List.take_of_length_le (by rw [List.length_drop, Array.length_toList]; exact Nat.le_refl _)]
  simp only [ByteArray.data_append, Array.toList_append, e1, e2]
  simp [strB]
set_option maxHeartbeats 1000000 in
set_option maxRecDepth 100000 in
theorem written_any (t : ByteArray) (e : UInt8) (l : Bool) (b : UInt8) (w : World) (ht : t.size ≤ 40) :
    Calls Tryd.prog 12 #[pcV t e l b] w fun en w' => ∃ x, en = .returned (.string (strB x)) ∧ Below w.heap.size w w' ∧ (x = t.data.toList ∨ ∃ (i : Nat) (hi : i < t.size), unrB t[i] = true ∧ x = encT l t.data.toList i t[i]) := by
  by_cases hz : t.size = 0
  · have hz' : ((t.size : Int) == 0) = true := beq_iff_eq.mpr (by omega)
    have hl : t.data.toList = [] := List.eq_nil_of_length_eq_zero (by rw [Array.length_toList]; exact hz)
    have HL := Lib.hid hl
    clear hz hl
    go_enter Tryd.func12, Tryd.ntmps12
    go_wp2
    go_ret
    exact ⟨[], rfl, below_new _ _, Or.inl HL.out.symm⟩
  · have hz' : ((t.size : Int) == 0) = false := beq_eq_false_iff_ne.mpr (by omega)
    have hz0 : 0 < t.size := by omega
    obtain ⟨i, hi⟩ : ∃ i, i = e.toNat % t.size := ⟨_, rfl⟩
    have hit : i < t.size := by rw [hi]; exact Nat.mod_lt _ hz0
    have hne : ¬ ((t.size : Int) = 0) := by omega
    have hw : wrap64 (e.toNat : Int) = (e.toNat : Int) := by have := UInt8.toNat_lt e; unfold wrap64; omega
    have htw : (wrap64 (e.toNat : Int)).tmod (t.size : Int) = (i : Int) := by rw [hw, hi]; rfl
    clear hi hz hw
    have hone : (t.extract i (i + 1)).data.toList = [t[i]] := one_byte t i hit
    have hos : (t.extract i (i + 1)).size ≤ maxLen := by rw [ByteArray.size_extract]; unfold maxLen; omega
    have htk : tokS (t.extract i (i + 1)).data.toList = tokB t[i] := by rw [hone]; simp [tokS]
    have HTK := Lib.hid (fun w => refToken_any (t.extract i (i + 1)) w hos)
    rw [htk] at HTK
    have HUN := Lib.hid (tok_unr ⟨t[i].toNat, UInt8.toNat_lt _⟩)
    clear hone hos htk
    cases hb : tokB t[i] with
    | false =>
      rw [hb] at HTK
      clear hb
      cases l
      all_goals
        go_enter Tryd.func12, Tryd.ntmps12
        go_wp2_with (go_at_call 31; refine (HTK.out _).mono ?_; rintro en w' ⟨rfl, rfl⟩)
        go_ret
        exact ⟨t.data.toList, by rw [strB_of]; rfl, below_new _ _, Or.inl rfl⟩
    | true =>
      rw [hb] at HTK
      have HB := Lib.hid hb
      clear hb
      by_cases h37 : t[i].toNat = 37
      · have hc37 : ((t[i].toNat : Int) != 37) = false := by rw [h37]; rfl
        clear h37
        cases l
        all_goals
          go_enter Tryd.func12, Tryd.ntmps12
          go_wp2_with (go_at_call 31; refine (HTK.out _).mono ?_; rintro en w' ⟨rfl, rfl⟩)
          go_ret
          exact ⟨t.data.toList, by rw [strB_of]; rfl, below_new _ _, Or.inl rfl⟩
      have hc37 : ((t[i].toNat : Int) != 37) = true := by simp; omega
      by_cases h42 : t[i].toNat = 42
      · have hc42 : ((t[i].toNat : Int) != 42) = false := by rw [h42]; rfl
        clear h42
        cases l
        all_goals
          go_enter Tryd.func12, Tryd.ntmps12
          go_wp2_with (go_at_call 31; refine (HTK.out _).mono ?_; rintro en w' ⟨rfl, rfl⟩)
          go_ret
          exact ⟨t.data.toList, by rw [strB_of]; rfl, below_new _ _, Or.inl rfl⟩
      have hc42 : ((t[i].toNat : Int) != 42) = true := by simp; omega
      by_cases h43 : t[i].toNat = 43
      · have hc43 : ((t[i].toNat : Int) != 43) = false := by rw [h43]; rfl
        clear h43
        cases l
        all_goals
          go_enter Tryd.func12, Tryd.ntmps12
          go_wp2_with (go_at_call 31; refine (HTK.out _).mono ?_; rintro en w' ⟨rfl, rfl⟩)
          go_ret
          exact ⟨t.data.toList, by rw [strB_of]; rfl, below_new _ _, Or.inl rfl⟩
      have hc43 : ((t[i].toNat : Int) != 43) = true := by simp; omega
      by_cases h33 : t[i].toNat = 33
      · have hc33 : ((t[i].toNat : Int) != 33) = false := by rw [h33]; rfl
        clear h33
        cases l
        all_goals
          go_enter Tryd.func12, Tryd.ntmps12
          go_wp2_with (go_at_call 31; refine (HTK.out _).mono ?_; rintro en w' ⟨rfl, rfl⟩)
          go_ret
          exact ⟨t.data.toList, by rw [strB_of]; rfl, below_new _ _, Or.inl rfl⟩
      have hc33 : ((t[i].toNat : Int) != 33) = true := by simp; omega
      by_cases h35 : t[i].toNat = 35
      · have hc35 : ((t[i].toNat : Int) != 35) = false := by rw [h35]; rfl
        clear h35
        cases l
        all_goals
          go_enter Tryd.func12, Tryd.ntmps12
          go_wp2_with (go_at_call 31; refine (HTK.out _).mono ?_; rintro en w' ⟨rfl, rfl⟩)
          go_ret
          exact ⟨t.data.toList, by rw [strB_of]; rfl, below_new _ _, Or.inl rfl⟩
      have hc35 : ((t[i].toNat : Int) != 35) = true := by simp; omega
      by_cases h36 : t[i].toNat = 36
      · have hc36 : ((t[i].toNat : Int) != 36) = false := by rw [h36]; rfl
        clear h36
        cases l
        all_goals
          go_enter Tryd.func12, Tryd.ntmps12
          go_wp2_with (go_at_call 31; refine (HTK.out _).mono ?_; rintro en w' ⟨rfl, rfl⟩)
          go_ret
          exact ⟨t.data.toList, by rw [strB_of]; rfl, below_new _ _, Or.inl rfl⟩
      have hc36 : ((t[i].toNat : Int) != 36) = true := by simp; omega
      by_cases h38 : t[i].toNat = 38
      · have hc38 : ((t[i].toNat : Int) != 38) = false := by rw [h38]; rfl
        clear h38
        cases l
        all_goals
          go_enter Tryd.func12, Tryd.ntmps12
          go_wp2_with (go_at_call 31; refine (HTK.out _).mono ?_; rintro en w' ⟨rfl, rfl⟩)
          go_ret
          exact ⟨t.data.toList, by rw [strB_of]; rfl, below_new _ _, Or.inl rfl⟩
      have hc38 : ((t[i].toNat : Int) != 38) = true := by simp; omega
      by_cases h39 : t[i].toNat = 39
      · have hc39 : ((t[i].toNat : Int) != 39) = false := by rw [h39]; rfl
        clear h39
        cases l
        all_goals
          go_enter Tryd.func12, Tryd.ntmps12
          go_wp2_with (go_at_call 31; refine (HTK.out _).mono ?_; rintro en w' ⟨rfl, rfl⟩)
          go_ret
          exact ⟨t.data.toList, by rw [strB_of]; rfl, below_new _ _, Or.inl rfl⟩
      have hc39 : ((t[i].toNat : Int) != 39) = true := by simp; omega
      by_cases h94 : t[i].toNat = 94
      · have hc94 : ((t[i].toNat : Int) != 94) = false := by rw [h94]; rfl
        clear h94
        cases l
        all_goals
          go_enter Tryd.func12, Tryd.ntmps12
          go_wp2_with (go_at_call 31; refine (HTK.out _).mono ?_; rintro en w' ⟨rfl, rfl⟩)
          go_ret
          exact ⟨t.data.toList, by rw [strB_of]; rfl, below_new _ _, Or.inl rfl⟩
      have hc94 : ((t[i].toNat : Int) != 94) = true := by simp; omega
      by_cases h96 : t[i].toNat = 96
      · have hc96 : ((t[i].toNat : Int) != 96) = false := by rw [h96]; rfl
        clear h96
        cases l
        all_goals
          go_enter Tryd.func12, Tryd.ntmps12
          go_wp2_with (go_at_call 31; refine (HTK.out _).mono ?_; rintro en w' ⟨rfl, rfl⟩)
          go_ret
          exact ⟨t.data.toList, by rw [strB_of]; rfl, below_new _ _, Or.inl rfl⟩
      have hc96 : ((t[i].toNat : Int) != 96) = true := by simp; omega
      by_cases h124 : t[i].toNat = 124
      · have hc124 : ((t[i].toNat : Int) != 124) = false := by rw [h124]; rfl
        clear h124
        cases l
        all_goals
          go_enter Tryd.func12, Tryd.ntmps12
          go_wp2_with (go_at_call 31; refine (HTK.out _).mono ?_; rintro en w' ⟨rfl, rfl⟩)
          go_ret
          exact ⟨t.data.toList, by rw [strB_of]; rfl, below_new _ _, Or.inl rfl⟩
      have hc124 : ((t[i].toNat : Int) != 124) = true := by simp; omega
      have hu : unrB t[i] = true := by
        have h := HUN.out (by simpa using HB.out) (by simp; omega)
        simpa using h
      have HU := Lib.hid hu
      clear hu h37 h42 h43 h33 h35 h36 h38 h39 h94 h96 h124
      have hc256 := UInt8.toNat_lt t[i]
      have hq1 : t[i].toNat / 16 < 16 := by omega
      have hq2 : t[i].toNat % 16 < 16 := by omega
      have HT := Lib.hid (enc_text l t i t[i] t[i] (digits_at l _ hq1) (digits_at l _ hq2))
      have hs1 : ((digitsB l).extract (t[i].toNat / 16) (t[i].toNat / 16 + 1)).size = 1 := by rw [digits_at l _ hq1]; rfl
      have hs2 : ((digitsB l).extract (t[i].toNat % 16) (t[i].toNat % 16 + 1)).size = 1 := by rw [digits_at l _ hq2]; rfl
      cases l
      all_goals
        unfold digitsB at hs1 hs2
        simp only [Bool.false_eq_true, if_false, if_true] at hs1 hs2
        go_enter Tryd.func12, Tryd.ntmps12
        go_wp2_with (go_at_call 31; refine (HTK.out _).mono ?_; rintro en w' ⟨rfl, rfl⟩)
        go_quiet (fail)
        go_wp2
        go_ret
        exact ⟨encT _ _ _ _, congrArg Ending.returned HT.out, below_drewN (below_new _ _) _, Or.inr ⟨i, hit, HU.out, rfl⟩⟩
end Go.Proofs.YtfggckdakmnfbaaDoor
