/- What the code's Name and Value, and the reference's, return, for every string. -/
import Derived.Test.YthjkneifffdglaaDoorLower
import Derived.Test.YthjkneifffdglaaDoorNum
import Derived.Test.YthjkneifffdglaaDoorTrim
import Derived.Test.YthjkneifffdglaaDoorRefLower
namespace Go.Proofs.YthjkneifffdglaaDoor
open Go.RowKit

abbrev errLarge : Value := .iface 59 (.int .i64 5)
abbrev errName : Value := .iface 59 (.int .i64 8)
/-- The number of the error of a name; 0 if it is one. -/
def nameC (l : List UInt8) : Nat := if tokS l = true then (if 64 < l.length then 5 else 0) else 8
def nameR (l : List UInt8) : List UInt8 := if nameC l = 0 then lowS l else []
def valueC (l : List UInt8) : Nat := if ctlS l = true then 2 else if 2048 < (trimB l).length then 5 else 0
def valueR (l : List UInt8) : List UInt8 := if valueC l = 0 then trimB l else []
def errV (c : Nat) : Value := if c = 0 then .nilIface else .iface 59 (.int .i64 c)

theorem trimB_le (l : List UInt8) : (trimB l).length ≤ l.length := by
  rw [trimB_eq]
  have h1 : (tL l).length ≤ l.length := (List.dropWhile_sublist _).length_le
  have h2 : (tR (tL l)).length ≤ (tL l).length := by
    unfold tR; rw [List.length_reverse]
    have := (List.dropWhile_sublist (p := blank) (l := (tL l).reverse)).length_le
    simpa using this
  omega
theorem size_list' (s : ByteArray) : s.data.toList.length = s.size := Array.length_toList
theorem ret_two {a b c d : Value} (h1 : a = c) (h2 : b = d) : Ending.returned (.tuple #[a, b]) = .returned (.tuple #[c, d]) := by rw [h1, h2]

end Go.Proofs.YthjkneifffdglaaDoor
