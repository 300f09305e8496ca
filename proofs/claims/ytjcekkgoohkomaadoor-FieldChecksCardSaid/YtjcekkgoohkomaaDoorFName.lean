/- What the code's Name and Value, and the reference's, return, for every string. -/
import Derived.Test.YtjcekkgoohkomaaDoorLower
import Derived.Test.YtjcekkgoohkomaaDoorNum
import Derived.Test.YtjcekkgoohkomaaDoorTrim
import Derived.Test.YtjcekkgoohkomaaDoorRefLower
namespace Go.Proofs.YtjcekkgoohkomaaDoor
open Go.RowKit

abbrev errLarge : Value := .iface 34 (.int .i64 5)
abbrev errName : Value := .iface 34 (.int .i64 8)
/-- The number of the error of a name; 0 if it is one. -/
def nameC (l : List UInt8) : Nat := if tokS l = true then (if 64 < l.length then 5 else 0) else 8
def nameR (l : List UInt8) : List UInt8 := if nameC l = 0 then lowS l else []
def valueC (l : List UInt8) : Nat := if ctlS l = true then 2 else if 2048 < (trimB l).length then 5 else 0
def valueR (l : List UInt8) : List UInt8 := if valueC l = 0 then trimB l else []
def errV (c : Nat) : Value := if c = 0 then .nilIface else .iface 34 (.int .i64 c)

theorem trimB_le (l : List UInt8) : (trimB l).length ≤ l.length := by
  rw [trimB_eq]
  have h1 : (tL l).length ≤ l.length := (List.dropWhile_sublist _).length_le
  have h2 : (tR (tL l)).length ≤ (tL l).length := by
    unfold tR; rw [List.length_reverse]
    have := (List.dropWhile_sublist (p := blank) (l := (tL l).reverse)).length_le
    simpa using this
  omega
theorem size_list' (s : ByteArray) : s.data.toList.length = s.size := Array.length_toList
theorem ret_two {a b c d : Value} (h1 : a = c) (h2 : b = d) : Ending.returned (.tuple #[a, b]) = .returned (.tuple #[c, d]) := by rw [h1, h2]

set_option maxHeartbeats 400000 in
set_option maxRecDepth 100000 in
theorem name_any (s : ByteArray) (w : World) (hs : s.size ≤ 1000000000) :
    Calls Tryd.prog 14 #[.string s] w fun e w' => e = .returned (.tuple #[.string (strB (nameR s.data.toList)), errV (nameC s.data.toList)]) ∧ Below w.heap.size w w' := by
  have hz := size_list' s
  cases ht : tokS s.data.toList with
  | false =>
    have hc : nameC s.data.toList = 8 := by unfold nameC; rw [if_neg (by rw [ht]; simp)]
    have HT := Lib.hid ht
    have HC := Lib.hid hc
    clear ht hc
    go_enter Tryd.func14, Tryd.ntmps14
    go_wp2_with fail
    refine (token_any s _ (by unfold maxLen; omega)).mono ?_
    rintro e w' ⟨rfl, rfl⟩
    rw [HT.out]
    go_wp2_with fail
    go_ret2
    exact ⟨by unfold nameR; rw [HC.out]; rfl, Below.refl _ _⟩
  | true =>
    have HT := Lib.hid ht
    by_cases hl : 64 < s.size
    · have hc : nameC s.data.toList = 5 := by unfold nameC; rw [if_pos ht, if_pos (by omega)]
      have HC := Lib.hid hc
      clear ht hc
      go_enter Tryd.func14, Tryd.ntmps14
      go_wp2_with fail
      refine (token_any s _ (by unfold maxLen; omega)).mono ?_
      rintro e w' ⟨rfl, rfl⟩
      rw [HT.out]
      go_wp2_with fail
      go_ret2
      exact ⟨by unfold nameR; rw [HC.out]; rfl, Below.refl _ _⟩
    · have hc : nameC s.data.toList = 0 := by unfold nameC; rw [if_pos ht, if_neg (by omega)]
      have HC := Lib.hid hc
      clear ht hc
      go_enter Tryd.func14, Tryd.ntmps14
      go_wp2_with fail
      refine (token_any s _ (by unfold maxLen; omega)).mono ?_
      rintro e w' ⟨rfl, rfl⟩
      rw [HT.out]
      go_wp2_with fail
      refine (lower_any s _ hs).mono ?_
      rintro e w' ⟨rfl, hB⟩
      go_wp2_with fail
      go_ret2
      exact ⟨by unfold nameR; rw [HC.out]; rfl, hB⟩
set_option maxHeartbeats 400000 in
set_option maxRecDepth 100000 in
theorem refName_any (s : ByteArray) (w : World) (hs : s.size ≤ 1000000000) :
    Calls Tryd.prog 16 #[.string s] w fun e w' => e = .returned (.tuple #[.string (strB (nameR s.data.toList)), .int .i64 (nameC s.data.toList)]) ∧ Below w.heap.size w w' := by
  have hz := size_list' s
  cases ht : tokS s.data.toList with
  | false =>
    have hc : nameC s.data.toList = 8 := by unfold nameC; rw [if_neg (by rw [ht]; simp)]
    have HT := Lib.hid ht
    have HC := Lib.hid hc
    clear ht hc
    go_enter Tryd.func16, Tryd.ntmps16
    go_wp2_with fail
    refine (refToken_any s _ (by unfold maxLen; omega)).mono ?_
    rintro e w' ⟨rfl, rfl⟩
    rw [HT.out]
    go_wp2_with fail
    go_ret2
    exact ⟨by unfold nameR; rw [HC.out]; rfl, Below.refl _ _⟩
  | true =>
    have HT := Lib.hid ht
    by_cases hl : 64 < s.size
    · have hc : nameC s.data.toList = 5 := by unfold nameC; rw [if_pos ht, if_pos (by omega)]
      have HC := Lib.hid hc
      clear ht hc
      go_enter Tryd.func16, Tryd.ntmps16
      go_wp2_with fail
      refine (refToken_any s _ (by unfold maxLen; omega)).mono ?_
      rintro e w' ⟨rfl, rfl⟩
      rw [HT.out]
      go_wp2_with fail
      go_ret2
      exact ⟨by unfold nameR; rw [HC.out]; rfl, Below.refl _ _⟩
    · have hc : nameC s.data.toList = 0 := by unfold nameC; rw [if_pos ht, if_neg (by omega)]
      have HC := Lib.hid hc
      clear ht hc
      go_enter Tryd.func16, Tryd.ntmps16
      go_wp2_with fail
      refine (refToken_any s _ (by unfold maxLen; omega)).mono ?_
      rintro e w' ⟨rfl, rfl⟩
      rw [HT.out]
      go_wp2_with fail
      refine (refLower_any s _ hs).mono ?_
      rintro e w' ⟨rfl, hB⟩
      go_wp2_with fail
      go_ret2
      exact ⟨by unfold nameR; rw [HC.out]; rfl, hB⟩

set_option maxHeartbeats 400000 in
set_option maxRecDepth 100000 in
theorem value_any (s : ByteArray) (w : World) (hs : s.size ≤ 1000000000) :
    Calls Tryd.prog 15 #[.string s] w fun e w' => e = .returned (.tuple #[.string (strB (valueR s.data.toList)), errV (valueC s.data.toList)]) ∧ Below w.heap.size w w' := by
  have hz := size_list' s
  have ht := trimB_le s.data.toList
  have hts : (strB (trimB s.data.toList)).size = (trimB s.data.toList).length := strB_size _
  cases hc : ctlS s.data.toList with
  | true =>
    have hv : valueC s.data.toList = 2 := by unfold valueC; rw [if_pos hc]
    have HT := Lib.hid hc
    have HC := Lib.hid hv
    clear hc hv
    go_enter Tryd.func15, Tryd.ntmps15
    go_wp2_with fail
    refine (hasControl_any s _ (by unfold maxLen; omega)).mono ?_
    rintro e w' ⟨rfl, rfl⟩
    rw [HT.out]
    go_wp2_with fail
    go_ret2
    exact ⟨by unfold valueR; rw [HC.out]; rfl, Below.refl _ _⟩
  | false =>
    have HT := Lib.hid hc
    by_cases hl : 2048 < (trimB s.data.toList).length
    · have hv : valueC s.data.toList = 5 := by unfold valueC; rw [if_neg (by rw [hc]; simp), if_pos hl]
      have HC := Lib.hid hv
      clear hc hv
      go_enter Tryd.func15, Tryd.ntmps15
      go_wp2_with fail
      refine (hasControl_any s _ (by unfold maxLen; omega)).mono ?_
      rintro e w' ⟨rfl, rfl⟩
      rw [HT.out]
      go_wp2_with fail
      refine (trimA_any s _ (by omega)).mono ?_
      rintro e w' ⟨rfl, hB⟩
      go_wp2_with fail
      go_ret2
      exact ⟨by unfold valueR; rw [HC.out]; rfl, hB⟩
    · have hv : valueC s.data.toList = 0 := by unfold valueC; rw [if_neg (by rw [hc]; simp), if_neg hl]
      have HC := Lib.hid hv
      clear hc hv
      go_enter Tryd.func15, Tryd.ntmps15
      go_wp2_with fail
      refine (hasControl_any s _ (by unfold maxLen; omega)).mono ?_
      rintro e w' ⟨rfl, rfl⟩
      rw [HT.out]
      go_wp2_with fail
      refine (trimA_any s _ (by omega)).mono ?_
      rintro e w' ⟨rfl, hB⟩
      go_wp2_with fail
      go_ret2
      exact ⟨by unfold valueR; rw [HC.out]; rfl, hB⟩
set_option maxHeartbeats 400000 in
set_option maxRecDepth 100000 in
theorem refValue_any (s : ByteArray) (w : World) (hs : s.size ≤ 1000000) :
    Calls Tryd.prog 17 #[.string s] w fun e w' => e = .returned (.tuple #[.string (strB (valueR s.data.toList)), .int .i64 (valueC s.data.toList)]) ∧ w = w' := by
  have hz := size_list' s
  have ht := trimB_le s.data.toList
  have hts : (strB (trimB s.data.toList)).size = (trimB s.data.toList).length := strB_size _
  have hT := refTrim_any s.data.toList w (by omega)
  rw [strB_of] at hT
  cases hc : ctlS s.data.toList with
  | true =>
    have hv : valueC s.data.toList = 2 := by unfold valueC; rw [if_pos hc]
    have HT := Lib.hid hc
    have HC := Lib.hid hv
    clear hc hv hT
    go_enter Tryd.func17, Tryd.ntmps17
    go_wp2_with fail
    refine (refControl_any s _ (by unfold maxLen; omega)).mono ?_
    rintro e w' ⟨rfl, rfl⟩
    rw [HT.out]
    go_wp2_with fail
    go_ret2
    exact ⟨by unfold valueR; rw [HC.out]; rfl, rfl⟩
  | false =>
    have HT := Lib.hid hc
    by_cases hl : 2048 < (trimB s.data.toList).length
    · have hv : valueC s.data.toList = 5 := by unfold valueC; rw [if_neg (by rw [hc]; simp), if_pos hl]
      have HC := Lib.hid hv
      clear hc hv
      go_enter Tryd.func17, Tryd.ntmps17
      go_wp2_with fail
      refine (refControl_any s _ (by unfold maxLen; omega)).mono ?_
      rintro e w' ⟨rfl, rfl⟩
      rw [HT.out]
      go_wp2_with fail
      refine hT.mono ?_
      rintro e w' ⟨rfl, rfl⟩
      go_wp2_with fail
      go_ret2
      exact ⟨by unfold valueR; rw [HC.out]; rfl, rfl⟩
    · have hv : valueC s.data.toList = 0 := by unfold valueC; rw [if_neg (by rw [hc]; simp), if_neg hl]
      have HC := Lib.hid hv
      clear hc hv
      go_enter Tryd.func17, Tryd.ntmps17
      go_wp2_with fail
      refine (refControl_any s _ (by unfold maxLen; omega)).mono ?_
      rintro e w' ⟨rfl, rfl⟩
      rw [HT.out]
      go_wp2_with fail
      refine hT.mono ?_
      rintro e w' ⟨rfl, rfl⟩
      go_wp2_with fail
      go_ret2
      exact ⟨by unfold valueR; rw [HC.out]; rfl, rfl⟩
end Go.Proofs.YtjcekkgoohkomaaDoor
