/-
  NARROWER THAN 'FOR EVERY INPUT', by the rows' own cells (each row's printed sentence says how): StorableReasons: laid · StorablePasses: laid · StorableForbids: laid · StorableAuthorizes: laid · StorableUpdates: laid · StorableKeeps: laid · StorableMixes: laid · StorableMethods: laid.
  DERIVED. THE GIVEN ROWS OF THIS SEAT. 8 by the template 'for every input the law returns true; each argument reads behind the call as it read before'; 0 by the template 'total and deterministic' (their statements: YtoiampkdmjpljaaGreatDoorTotals.lean).
  GIVEN WITH THE SEED: the statements are not yours to turn. If you find one false, say at which input.
  Laid BY PROGRAM, IN A SANDBOX (cutbox-rows.mjs): the forced cells as the released guide's own fill.sh prints them over the translation 119e12dc7b2ce53b… (all of the seat's roots in one cut). By AI agents, Wed Nov 11 2026. No macro, syntax, notation, axiom, sorry.
-/
import Derived.Test.YtoiampkdmjpljaaGreatDoorChecked
import GoSem.PinnedTables
import GoSem.Claim
import GoSem.ClaimJoined
import GoSem.ClaimMapViews
import Derived.JoinedTies
import Derived.KernelRfl
namespace Go.Proofs.YtoiampkdmjpljaaGreatDoor
/- THE CELL 'sum', in the pinned program and in every row, IS THE sha256 OF THE DUMP (.gsa) THAT YtoiampkdmjpljaaGreatDoorProg.lean LOADS. Nothing in Lean hashes anything: it is a label: what it is worth is what the hold of that sum in a sandbox is worth. -/
noncomputable def Tryz.pinned : Pinned := { name := "ytoiampkdmjpljaagreatdoor", sum := "119e12dc7b2ce53b948addd7bc856286187283fa2dcbb5f46bfda0f6625bded6", checked := Tryz.checked }
namespace Rows
def none {H : Type} : Left H := { results := [], args := [] }

/- WHAT THE LISTED PACKAGE-LEVEL VARIABLES READ AS WHEN THE CALL BEGINS. Each datum BY PROGRAM (the guide's laid-datum.mjs) off the statement by which the dump's own 'gosem.cut.vars' lays the variable. In a bare row this is a premise. The card (YtoiampkdmjpljaaGreatDoorCards.lean) ties it to the program's text. -/
def laid_math_bits_deBruijn32tab {H : Type} : DataW H := .agg [.lit (.int .u8 0), .lit (.int .u8 1), .lit (.int .u8 28), .lit (.int .u8 2), .lit (.int .u8 29), .lit (.int .u8 14), .lit (.int .u8 24), .lit (.int .u8 3), .lit (.int .u8 30), .lit (.int .u8 22), .lit (.int .u8 20), .lit (.int .u8 15), .lit (.int .u8 25), .lit (.int .u8 17), .lit (.int .u8 4), .lit (.int .u8 8), .lit (.int .u8 31), .lit (.int .u8 27), .lit (.int .u8 13), .lit (.int .u8 23), .lit (.int .u8 21), .lit (.int .u8 19), .lit (.int .u8 16), .lit (.int .u8 7), .lit (.int .u8 26), .lit (.int .u8 12), .lit (.int .u8 18), .lit (.int .u8 6), .lit (.int .u8 11), .lit (.int .u8 5), .lit (.int .u8 10), .lit (.int .u8 9)]
def laid_math_bits_deBruijn64tab {H : Type} : DataW H := .agg [.lit (.int .u8 0), .lit (.int .u8 1), .lit (.int .u8 56), .lit (.int .u8 2), .lit (.int .u8 57), .lit (.int .u8 49), .lit (.int .u8 28), .lit (.int .u8 3), .lit (.int .u8 61), .lit (.int .u8 58), .lit (.int .u8 42), .lit (.int .u8 50), .lit (.int .u8 38), .lit (.int .u8 29), .lit (.int .u8 17), .lit (.int .u8 4), .lit (.int .u8 62), .lit (.int .u8 47), .lit (.int .u8 59), .lit (.int .u8 36), .lit (.int .u8 45), .lit (.int .u8 43), .lit (.int .u8 51), .lit (.int .u8 22), .lit (.int .u8 53), .lit (.int .u8 39), .lit (.int .u8 33), .lit (.int .u8 30), .lit (.int .u8 24), .lit (.int .u8 18), .lit (.int .u8 12), .lit (.int .u8 5), .lit (.int .u8 63), .lit (.int .u8 55), .lit (.int .u8 48), .lit (.int .u8 27), .lit (.int .u8 60), .lit (.int .u8 41), .lit (.int .u8 37), .lit (.int .u8 16), .lit (.int .u8 46), .lit (.int .u8 35), .lit (.int .u8 44), .lit (.int .u8 21), .lit (.int .u8 52), .lit (.int .u8 32), .lit (.int .u8 23), .lit (.int .u8 11), .lit (.int .u8 54), .lit (.int .u8 26), .lit (.int .u8 40), .lit (.int .u8 15), .lit (.int .u8 34), .lit (.int .u8 20), .lit (.int .u8 31), .lit (.int .u8 10), .lit (.int .u8 25), .lit (.int .u8 14), .lit (.int .u8 19), .lit (.int .u8 9), .lit (.int .u8 13), .lit (.int .u8 8), .lit (.int .u8 7), .lit (.int .u8 6)]
def laid_internal_strconv_uint64pow10 {H : Type} : DataW H := .agg [.lit (.int .u64 1), .lit (.int .u64 10), .lit (.int .u64 100), .lit (.int .u64 1000), .lit (.int .u64 10000), .lit (.int .u64 100000), .lit (.int .u64 1000000), .lit (.int .u64 10000000), .lit (.int .u64 100000000), .lit (.int .u64 1000000000), .lit (.int .u64 10000000000), .lit (.int .u64 100000000000), .lit (.int .u64 1000000000000), .lit (.int .u64 10000000000000), .lit (.int .u64 100000000000000), .lit (.int .u64 1000000000000000), .lit (.int .u64 10000000000000000), .lit (.int .u64 100000000000000000), .lit (.int .u64 1000000000000000000), .lit (.int .u64 10000000000000000000)]
def laid_unicode_utf8_acceptRanges {H : Type} : DataW H := .agg [.agg [.lit (.int .u8 128), .lit (.int .u8 191)], .agg [.lit (.int .u8 160), .lit (.int .u8 191)], .agg [.lit (.int .u8 128), .lit (.int .u8 159)], .agg [.lit (.int .u8 144), .lit (.int .u8 191)], .agg [.lit (.int .u8 128), .lit (.int .u8 143)], .agg [.lit (.int .u8 0), .lit (.int .u8 0)], .agg [.lit (.int .u8 0), .lit (.int .u8 0)], .agg [.lit (.int .u8 0), .lit (.int .u8 0)], .agg [.lit (.int .u8 0), .lit (.int .u8 0)], .agg [.lit (.int .u8 0), .lit (.int .u8 0)], .agg [.lit (.int .u8 0), .lit (.int .u8 0)], .agg [.lit (.int .u8 0), .lit (.int .u8 0)], .agg [.lit (.int .u8 0), .lit (.int .u8 0)], .agg [.lit (.int .u8 0), .lit (.int .u8 0)], .agg [.lit (.int .u8 0), .lit (.int .u8 0)], .agg [.lit (.int .u8 0), .lit (.int .u8 0)]]
def laid_strconv_ErrRange {H : Type} : DataW H := .iface "*errors.errorString" (.ptr (.agg [.lit (.string [118, 97, 108, 117, 101, 32, 111, 117, 116, 32, 111, 102, 32, 114, 97, 110, 103, 101])]))
def laid_strconv_ErrSyntax {H : Type} : DataW H := .iface "*errors.errorString" (.ptr (.agg [.lit (.string [105, 110, 118, 97, 108, 105, 100, 32, 115, 121, 110, 116, 97, 120])]))
def laid_quayside_httpdate_weekdayNames {H : Type} : DataW H := .agg [.lit (.string [83, 117, 110]), .lit (.string [77, 111, 110]), .lit (.string [84, 117, 101]), .lit (.string [87, 101, 100]), .lit (.string [84, 104, 117]), .lit (.string [70, 114, 105]), .lit (.string [83, 97, 116])]
def laid_quayside_httpdate_monthNames {H : Type} : DataW H := .agg [.lit (.string [74, 97, 110]), .lit (.string [70, 101, 98]), .lit (.string [77, 97, 114]), .lit (.string [65, 112, 114]), .lit (.string [77, 97, 121]), .lit (.string [74, 117, 110]), .lit (.string [74, 117, 108]), .lit (.string [65, 117, 103]), .lit (.string [83, 101, 112]), .lit (.string [79, 99, 116]), .lit (.string [78, 111, 118]), .lit (.string [68, 101, 99])]
/-- One of Go's own tables, pinned by name: the form's constant. -/
def laid_unicode_utf8_first : DataW Unit := Go.Pinned.utf8First

/-- 'quaysidelaw15.StorableReasons': WHATEVER THE INPUT: true; the input reads as it did. -/
def storableReasonsSpec : ChangeSpec := { name := "storableReasons", fn := fun _ => fun
  | [d] => { results := [.lit (.bool true)], args := [d] }
  | _ => none }
def storableReasonsRow : OpenClaim := { program := "ytoiampkdmjpljaagreatdoor", sum := "119e12dc7b2ce53b948addd7bc856286187283fa2dcbb5f46bfda0f6625bded6", func := "quayside/quaysidelaw15.StorableReasons", spec := "storableReasons", inPlace := ["internal/bytealg.IndexByteString", "internal/bytealg.IndexString", "internal/abi.NoEscape", "internal/bytealg.MakeNoZero"], unfollowed := true, recurses := true, named := ["unicode/utf8.first", "unicode/utf8.acceptRanges", "internal/bytealg.MaxLen", "strconv.ErrSyntax", "strconv.ErrRange", "internal/strconv.uint64pow10", "math/bits.deBruijn32tab", "math/bits.deBruijn64tab", "quayside/httpdate.monthNames", "quayside/httpdate.weekdayNames"], apart := false, laid := [("math/bits.deBruijn32tab", laid_math_bits_deBruijn32tab), ("math/bits.deBruijn64tab", laid_math_bits_deBruijn64tab), ("internal/strconv.uint64pow10", laid_internal_strconv_uint64pow10), ("unicode/utf8.acceptRanges", laid_unicode_utf8_acceptRanges), ("strconv.ErrRange", laid_strconv_ErrRange), ("strconv.ErrSyntax", laid_strconv_ErrSyntax), ("quayside/httpdate.weekdayNames", laid_quayside_httpdate_weekdayNames), ("quayside/httpdate.monthNames", laid_quayside_httpdate_monthNames), ("unicode/utf8.first", laid_unicode_utf8_first)] }
def StorableReasonsSaid : Prop := storableReasonsRow.holds Tryz.pinned (OpenSpec.ofChange storableReasonsSpec)

/-- ITS FALSE NEIGHBOUR: 'it returns false'. Refute it at one input. -/
def storableReasonsWrong : ChangeSpec := { name := "storableReasons", fn := fun _ => fun
  | [d] => { results := [.lit (.bool false)], args := [d] }
  | _ => none }
def StorableReasonsWrongFalsely : Prop := storableReasonsRow.holds Tryz.pinned (OpenSpec.ofChange storableReasonsWrong)

/-- 'quaysidelaw15.StorablePasses': WHATEVER THE INPUT: true; the input reads as it did. -/
def storablePassesSpec : ChangeSpec := { name := "storablePasses", fn := fun _ => fun
  | [d] => { results := [.lit (.bool true)], args := [d] }
  | _ => none }
def storablePassesRow : OpenClaim := { program := "ytoiampkdmjpljaagreatdoor", sum := "119e12dc7b2ce53b948addd7bc856286187283fa2dcbb5f46bfda0f6625bded6", func := "quayside/quaysidelaw15.StorablePasses", spec := "storablePasses", inPlace := ["internal/bytealg.IndexByteString", "internal/bytealg.IndexString", "internal/abi.NoEscape", "internal/bytealg.MakeNoZero"], unfollowed := true, recurses := true, named := ["unicode/utf8.first", "unicode/utf8.acceptRanges", "internal/bytealg.MaxLen", "strconv.ErrSyntax", "strconv.ErrRange", "internal/strconv.uint64pow10", "math/bits.deBruijn32tab", "math/bits.deBruijn64tab", "quayside/httpdate.monthNames", "quayside/httpdate.weekdayNames"], apart := false, laid := [("math/bits.deBruijn32tab", laid_math_bits_deBruijn32tab), ("math/bits.deBruijn64tab", laid_math_bits_deBruijn64tab), ("internal/strconv.uint64pow10", laid_internal_strconv_uint64pow10), ("unicode/utf8.acceptRanges", laid_unicode_utf8_acceptRanges), ("strconv.ErrRange", laid_strconv_ErrRange), ("strconv.ErrSyntax", laid_strconv_ErrSyntax), ("quayside/httpdate.weekdayNames", laid_quayside_httpdate_weekdayNames), ("quayside/httpdate.monthNames", laid_quayside_httpdate_monthNames), ("unicode/utf8.first", laid_unicode_utf8_first)] }
def StorablePassesSaid : Prop := storablePassesRow.holds Tryz.pinned (OpenSpec.ofChange storablePassesSpec)

/-- ITS FALSE NEIGHBOUR: 'it returns false'. Refute it at one input. -/
def storablePassesWrong : ChangeSpec := { name := "storablePasses", fn := fun _ => fun
  | [d] => { results := [.lit (.bool false)], args := [d] }
  | _ => none }
def StorablePassesWrongFalsely : Prop := storablePassesRow.holds Tryz.pinned (OpenSpec.ofChange storablePassesWrong)

/-- 'quaysidelaw15.StorableForbids': WHATEVER THE INPUT: true; the input reads as it did. -/
def storableForbidsSpec : ChangeSpec := { name := "storableForbids", fn := fun _ => fun
  | [d1, d2] => { results := [.lit (.bool true)], args := [d1, d2] }
  | _ => none }
def storableForbidsRow : OpenClaim := { program := "ytoiampkdmjpljaagreatdoor", sum := "119e12dc7b2ce53b948addd7bc856286187283fa2dcbb5f46bfda0f6625bded6", func := "quayside/quaysidelaw15.StorableForbids", spec := "storableForbids", inPlace := ["internal/bytealg.IndexByteString", "internal/bytealg.IndexString", "internal/abi.NoEscape", "internal/bytealg.MakeNoZero"], unfollowed := true, recurses := true, named := ["unicode/utf8.first", "unicode/utf8.acceptRanges", "internal/bytealg.MaxLen", "strconv.ErrSyntax", "strconv.ErrRange", "internal/strconv.uint64pow10", "math/bits.deBruijn32tab", "math/bits.deBruijn64tab", "quayside/httpdate.monthNames", "quayside/httpdate.weekdayNames"], apart := false, laid := [("math/bits.deBruijn32tab", laid_math_bits_deBruijn32tab), ("math/bits.deBruijn64tab", laid_math_bits_deBruijn64tab), ("internal/strconv.uint64pow10", laid_internal_strconv_uint64pow10), ("unicode/utf8.acceptRanges", laid_unicode_utf8_acceptRanges), ("strconv.ErrRange", laid_strconv_ErrRange), ("strconv.ErrSyntax", laid_strconv_ErrSyntax), ("quayside/httpdate.weekdayNames", laid_quayside_httpdate_weekdayNames), ("quayside/httpdate.monthNames", laid_quayside_httpdate_monthNames), ("unicode/utf8.first", laid_unicode_utf8_first)] }
def StorableForbidsSaid : Prop := storableForbidsRow.holds Tryz.pinned (OpenSpec.ofChange storableForbidsSpec)

/-- ITS FALSE NEIGHBOUR: 'it returns false'. Refute it at one input. -/
def storableForbidsWrong : ChangeSpec := { name := "storableForbids", fn := fun _ => fun
  | [d1, d2] => { results := [.lit (.bool false)], args := [d1, d2] }
  | _ => none }
def StorableForbidsWrongFalsely : Prop := storableForbidsRow.holds Tryz.pinned (OpenSpec.ofChange storableForbidsWrong)

/-- 'quaysidelaw15.StorableAuthorizes': WHATEVER THE INPUT: true; the input reads as it did. -/
def storableAuthorizesSpec : ChangeSpec := { name := "storableAuthorizes", fn := fun _ => fun
  | [d1, d2] => { results := [.lit (.bool true)], args := [d1, d2] }
  | _ => none }
def storableAuthorizesRow : OpenClaim := { program := "ytoiampkdmjpljaagreatdoor", sum := "119e12dc7b2ce53b948addd7bc856286187283fa2dcbb5f46bfda0f6625bded6", func := "quayside/quaysidelaw15.StorableAuthorizes", spec := "storableAuthorizes", inPlace := ["internal/bytealg.IndexByteString", "internal/bytealg.IndexString", "internal/abi.NoEscape", "internal/bytealg.MakeNoZero"], unfollowed := true, recurses := true, named := ["unicode/utf8.first", "unicode/utf8.acceptRanges", "internal/bytealg.MaxLen", "strconv.ErrSyntax", "strconv.ErrRange", "internal/strconv.uint64pow10", "math/bits.deBruijn32tab", "math/bits.deBruijn64tab", "quayside/httpdate.monthNames", "quayside/httpdate.weekdayNames"], apart := false, laid := [("math/bits.deBruijn32tab", laid_math_bits_deBruijn32tab), ("math/bits.deBruijn64tab", laid_math_bits_deBruijn64tab), ("internal/strconv.uint64pow10", laid_internal_strconv_uint64pow10), ("unicode/utf8.acceptRanges", laid_unicode_utf8_acceptRanges), ("strconv.ErrRange", laid_strconv_ErrRange), ("strconv.ErrSyntax", laid_strconv_ErrSyntax), ("quayside/httpdate.weekdayNames", laid_quayside_httpdate_weekdayNames), ("quayside/httpdate.monthNames", laid_quayside_httpdate_monthNames), ("unicode/utf8.first", laid_unicode_utf8_first)] }
def StorableAuthorizesSaid : Prop := storableAuthorizesRow.holds Tryz.pinned (OpenSpec.ofChange storableAuthorizesSpec)

/-- ITS FALSE NEIGHBOUR: 'it returns false'. Refute it at one input. -/
def storableAuthorizesWrong : ChangeSpec := { name := "storableAuthorizes", fn := fun _ => fun
  | [d1, d2] => { results := [.lit (.bool false)], args := [d1, d2] }
  | _ => none }
def StorableAuthorizesWrongFalsely : Prop := storableAuthorizesRow.holds Tryz.pinned (OpenSpec.ofChange storableAuthorizesWrong)

/-- 'quaysidelaw15.StorableUpdates': WHATEVER THE INPUT: true; the input reads as it did. -/
def storableUpdatesSpec : ChangeSpec := { name := "storableUpdates", fn := fun _ => fun
  | [d1, d2] => { results := [.lit (.bool true)], args := [d1, d2] }
  | _ => none }
def storableUpdatesRow : OpenClaim := { program := "ytoiampkdmjpljaagreatdoor", sum := "119e12dc7b2ce53b948addd7bc856286187283fa2dcbb5f46bfda0f6625bded6", func := "quayside/quaysidelaw15.StorableUpdates", spec := "storableUpdates", inPlace := ["internal/bytealg.IndexByteString", "internal/bytealg.IndexString", "internal/abi.NoEscape", "internal/bytealg.MakeNoZero"], unfollowed := true, recurses := true, named := ["unicode/utf8.first", "unicode/utf8.acceptRanges", "internal/bytealg.MaxLen", "strconv.ErrSyntax", "strconv.ErrRange", "internal/strconv.uint64pow10", "math/bits.deBruijn32tab", "math/bits.deBruijn64tab", "quayside/httpdate.monthNames", "quayside/httpdate.weekdayNames"], apart := false, laid := [("math/bits.deBruijn32tab", laid_math_bits_deBruijn32tab), ("math/bits.deBruijn64tab", laid_math_bits_deBruijn64tab), ("internal/strconv.uint64pow10", laid_internal_strconv_uint64pow10), ("unicode/utf8.acceptRanges", laid_unicode_utf8_acceptRanges), ("strconv.ErrRange", laid_strconv_ErrRange), ("strconv.ErrSyntax", laid_strconv_ErrSyntax), ("quayside/httpdate.weekdayNames", laid_quayside_httpdate_weekdayNames), ("quayside/httpdate.monthNames", laid_quayside_httpdate_monthNames), ("unicode/utf8.first", laid_unicode_utf8_first)] }
def StorableUpdatesSaid : Prop := storableUpdatesRow.holds Tryz.pinned (OpenSpec.ofChange storableUpdatesSpec)

/-- ITS FALSE NEIGHBOUR: 'it returns false'. Refute it at one input. -/
def storableUpdatesWrong : ChangeSpec := { name := "storableUpdates", fn := fun _ => fun
  | [d1, d2] => { results := [.lit (.bool false)], args := [d1, d2] }
  | _ => none }
def StorableUpdatesWrongFalsely : Prop := storableUpdatesRow.holds Tryz.pinned (OpenSpec.ofChange storableUpdatesWrong)

/-- 'quaysidelaw15.StorableKeeps': WHATEVER THE INPUT: true; the input reads as it did. -/
def storableKeepsSpec : ChangeSpec := { name := "storableKeeps", fn := fun _ => fun
  | [d1, d2] => { results := [.lit (.bool true)], args := [d1, d2] }
  | _ => none }
def storableKeepsRow : OpenClaim := { program := "ytoiampkdmjpljaagreatdoor", sum := "119e12dc7b2ce53b948addd7bc856286187283fa2dcbb5f46bfda0f6625bded6", func := "quayside/quaysidelaw15.StorableKeeps", spec := "storableKeeps", inPlace := ["internal/bytealg.IndexByteString", "internal/bytealg.IndexString", "internal/abi.NoEscape", "internal/bytealg.MakeNoZero", "internal/bytealg.abigen_runtime_cmpstring"], unfollowed := true, recurses := true, named := ["unicode/utf8.first", "unicode/utf8.acceptRanges", "internal/bytealg.MaxLen", "strconv.ErrSyntax", "strconv.ErrRange", "internal/strconv.uint64pow10", "math/bits.deBruijn32tab", "math/bits.deBruijn64tab", "quayside/httpdate.monthNames", "quayside/httpdate.weekdayNames"], apart := false, laid := [("math/bits.deBruijn32tab", laid_math_bits_deBruijn32tab), ("math/bits.deBruijn64tab", laid_math_bits_deBruijn64tab), ("internal/strconv.uint64pow10", laid_internal_strconv_uint64pow10), ("unicode/utf8.acceptRanges", laid_unicode_utf8_acceptRanges), ("strconv.ErrRange", laid_strconv_ErrRange), ("strconv.ErrSyntax", laid_strconv_ErrSyntax), ("quayside/httpdate.weekdayNames", laid_quayside_httpdate_weekdayNames), ("quayside/httpdate.monthNames", laid_quayside_httpdate_monthNames), ("unicode/utf8.first", laid_unicode_utf8_first)] }
def StorableKeepsSaid : Prop := storableKeepsRow.holds Tryz.pinned (OpenSpec.ofChange storableKeepsSpec)

/-- ITS FALSE NEIGHBOUR: 'it returns false'. Refute it at one input. -/
def storableKeepsWrong : ChangeSpec := { name := "storableKeeps", fn := fun _ => fun
  | [d1, d2] => { results := [.lit (.bool false)], args := [d1, d2] }
  | _ => none }
def StorableKeepsWrongFalsely : Prop := storableKeepsRow.holds Tryz.pinned (OpenSpec.ofChange storableKeepsWrong)

/-- 'quaysidelaw15.StorableMixes': WHATEVER THE INPUT: true; the input reads as it did. -/
def storableMixesSpec : ChangeSpec := { name := "storableMixes", fn := fun _ => fun
  | [d1, d2, d3] => { results := [.lit (.bool true)], args := [d1, d2, d3] }
  | _ => none }
def storableMixesRow : OpenClaim := { program := "ytoiampkdmjpljaagreatdoor", sum := "119e12dc7b2ce53b948addd7bc856286187283fa2dcbb5f46bfda0f6625bded6", func := "quayside/quaysidelaw15.StorableMixes", spec := "storableMixes", inPlace := ["internal/bytealg.IndexByteString", "internal/bytealg.IndexString", "internal/abi.NoEscape", "internal/bytealg.MakeNoZero"], unfollowed := true, recurses := true, named := ["unicode/utf8.first", "unicode/utf8.acceptRanges", "internal/bytealg.MaxLen", "strconv.ErrSyntax", "strconv.ErrRange", "internal/strconv.uint64pow10", "math/bits.deBruijn32tab", "math/bits.deBruijn64tab", "quayside/httpdate.monthNames", "quayside/httpdate.weekdayNames"], apart := false, laid := [("math/bits.deBruijn32tab", laid_math_bits_deBruijn32tab), ("math/bits.deBruijn64tab", laid_math_bits_deBruijn64tab), ("internal/strconv.uint64pow10", laid_internal_strconv_uint64pow10), ("unicode/utf8.acceptRanges", laid_unicode_utf8_acceptRanges), ("strconv.ErrRange", laid_strconv_ErrRange), ("strconv.ErrSyntax", laid_strconv_ErrSyntax), ("quayside/httpdate.weekdayNames", laid_quayside_httpdate_weekdayNames), ("quayside/httpdate.monthNames", laid_quayside_httpdate_monthNames), ("unicode/utf8.first", laid_unicode_utf8_first)] }
def StorableMixesSaid : Prop := storableMixesRow.holds Tryz.pinned (OpenSpec.ofChange storableMixesSpec)

/-- ITS FALSE NEIGHBOUR: 'it returns false'. Refute it at one input. -/
def storableMixesWrong : ChangeSpec := { name := "storableMixes", fn := fun _ => fun
  | [d1, d2, d3] => { results := [.lit (.bool false)], args := [d1, d2, d3] }
  | _ => none }
def StorableMixesWrongFalsely : Prop := storableMixesRow.holds Tryz.pinned (OpenSpec.ofChange storableMixesWrong)

/-- 'quaysidelaw15.StorableMethods': WHATEVER THE INPUT: true; the input reads as it did. -/
def storableMethodsSpec : ChangeSpec := { name := "storableMethods", fn := fun _ => fun
  | [d] => { results := [.lit (.bool true)], args := [d] }
  | _ => none }
def storableMethodsRow : OpenClaim := { program := "ytoiampkdmjpljaagreatdoor", sum := "119e12dc7b2ce53b948addd7bc856286187283fa2dcbb5f46bfda0f6625bded6", func := "quayside/quaysidelaw15.StorableMethods", spec := "storableMethods", inPlace := ["internal/bytealg.IndexByteString", "internal/bytealg.IndexString", "internal/abi.NoEscape", "internal/bytealg.MakeNoZero"], unfollowed := true, recurses := true, named := ["unicode/utf8.first", "unicode/utf8.acceptRanges", "internal/bytealg.MaxLen", "strconv.ErrSyntax", "strconv.ErrRange", "internal/strconv.uint64pow10", "math/bits.deBruijn32tab", "math/bits.deBruijn64tab", "quayside/httpdate.monthNames", "quayside/httpdate.weekdayNames"], apart := false, laid := [("math/bits.deBruijn32tab", laid_math_bits_deBruijn32tab), ("math/bits.deBruijn64tab", laid_math_bits_deBruijn64tab), ("internal/strconv.uint64pow10", laid_internal_strconv_uint64pow10), ("unicode/utf8.acceptRanges", laid_unicode_utf8_acceptRanges), ("strconv.ErrRange", laid_strconv_ErrRange), ("strconv.ErrSyntax", laid_strconv_ErrSyntax), ("quayside/httpdate.weekdayNames", laid_quayside_httpdate_weekdayNames), ("quayside/httpdate.monthNames", laid_quayside_httpdate_monthNames), ("unicode/utf8.first", laid_unicode_utf8_first)] }
def StorableMethodsSaid : Prop := storableMethodsRow.holds Tryz.pinned (OpenSpec.ofChange storableMethodsSpec)

/-- ITS FALSE NEIGHBOUR: 'it returns false'. Refute it at one input. -/
def storableMethodsWrong : ChangeSpec := { name := "storableMethods", fn := fun _ => fun
  | [d] => { results := [.lit (.bool false)], args := [d] }
  | _ => none }
def StorableMethodsWrongFalsely : Prop := storableMethodsRow.holds Tryz.pinned (OpenSpec.ofChange storableMethodsWrong)

/- THE SECOND FORM. 'bulk': how many values and letters a reading holds, each counted each time it is reached (what is shared counts as often as it is met; a slice's spare places count too). A statement '..UptoSaid' is the law's where the arguments, and the package variables that the reading takes, are together of bulk at most 1048576: NARROWER than '..Said'. Prove '..Said' where nothing that the law and all that it calls make is longer than what came in: it says more and counts as full. Else prove '..UptoSaid'. A law counts once. -/
mutual
def uptoBulk {H : Type} : DataW H → Nat
  | .lit (.string bytes) => bytes.length + 1
  | .lit _ => 1
  | .nil => 1
  | .ptr d => uptoBulk d + 1
  | .slice elems spare => uptoBulkAll elems + uptoBulkAll spare + 1
  | .agg parts => uptoBulkAll parts + 1
  | .iface _ d => uptoBulk d + 1
  | .map entries => uptoBulkEntries entries + 1
  | .held _ => 1
def uptoBulkAll {H : Type} : List (DataW H) → Nat
  | [] => 0
  | d :: r => uptoBulk d + uptoBulkAll r
def uptoBulkEntries {H : Type} : List (Lit × DataW H) → Nat
  | [] => 0
  | x :: r => uptoBulkEntry x + uptoBulkEntries r
def uptoBulkEntry {H : Type} : Lit × DataW H → Nat
  | (.string bytes, d) => bytes.length + uptoBulk d + 1
  | (_, d) => uptoBulk d + 1
 end
def uptoSmall : (H : Type) → List (DataW H) → Bool := fun _ ds => decide (uptoBulkAll ds ≤ 1048576)
def OpenSpec.upto (s : _root_.Go.ChangeSpec) : _root_.Go.OpenSpec := { _root_.Go.OpenSpec.ofChange s with cond := some uptoSmall }

/-- 'quaysidelaw15.StorableReasons', WHERE WHAT IT READS IS OF BULK AT MOST 1048576: true; the input reads as it did. -/
def storableReasonsUptoRow : OpenClaim := { program := "ytoiampkdmjpljaagreatdoor", sum := "119e12dc7b2ce53b948addd7bc856286187283fa2dcbb5f46bfda0f6625bded6", func := "quayside/quaysidelaw15.StorableReasons", spec := "storableReasons", inPlace := ["internal/bytealg.IndexByteString", "internal/bytealg.IndexString", "internal/abi.NoEscape", "internal/bytealg.MakeNoZero"], unfollowed := true, recurses := true, named := ["unicode/utf8.first", "unicode/utf8.acceptRanges", "internal/bytealg.MaxLen", "strconv.ErrSyntax", "strconv.ErrRange", "internal/strconv.uint64pow10", "math/bits.deBruijn32tab", "math/bits.deBruijn64tab", "quayside/httpdate.monthNames", "quayside/httpdate.weekdayNames"], apart := false, laid := [("math/bits.deBruijn32tab", laid_math_bits_deBruijn32tab), ("math/bits.deBruijn64tab", laid_math_bits_deBruijn64tab), ("internal/strconv.uint64pow10", laid_internal_strconv_uint64pow10), ("unicode/utf8.acceptRanges", laid_unicode_utf8_acceptRanges), ("strconv.ErrRange", laid_strconv_ErrRange), ("strconv.ErrSyntax", laid_strconv_ErrSyntax), ("quayside/httpdate.weekdayNames", laid_quayside_httpdate_weekdayNames), ("quayside/httpdate.monthNames", laid_quayside_httpdate_monthNames), ("unicode/utf8.first", laid_unicode_utf8_first)], narrowed := true }
def StorableReasonsUptoSaid : Prop := storableReasonsUptoRow.holds Tryz.pinned (OpenSpec.upto storableReasonsSpec)

/-- 'quaysidelaw15.StorablePasses', WHERE WHAT IT READS IS OF BULK AT MOST 1048576: true; the input reads as it did. -/
def storablePassesUptoRow : OpenClaim := { program := "ytoiampkdmjpljaagreatdoor", sum := "119e12dc7b2ce53b948addd7bc856286187283fa2dcbb5f46bfda0f6625bded6", func := "quayside/quaysidelaw15.StorablePasses", spec := "storablePasses", inPlace := ["internal/bytealg.IndexByteString", "internal/bytealg.IndexString", "internal/abi.NoEscape", "internal/bytealg.MakeNoZero"], unfollowed := true, recurses := true, named := ["unicode/utf8.first", "unicode/utf8.acceptRanges", "internal/bytealg.MaxLen", "strconv.ErrSyntax", "strconv.ErrRange", "internal/strconv.uint64pow10", "math/bits.deBruijn32tab", "math/bits.deBruijn64tab", "quayside/httpdate.monthNames", "quayside/httpdate.weekdayNames"], apart := false, laid := [("math/bits.deBruijn32tab", laid_math_bits_deBruijn32tab), ("math/bits.deBruijn64tab", laid_math_bits_deBruijn64tab), ("internal/strconv.uint64pow10", laid_internal_strconv_uint64pow10), ("unicode/utf8.acceptRanges", laid_unicode_utf8_acceptRanges), ("strconv.ErrRange", laid_strconv_ErrRange), ("strconv.ErrSyntax", laid_strconv_ErrSyntax), ("quayside/httpdate.weekdayNames", laid_quayside_httpdate_weekdayNames), ("quayside/httpdate.monthNames", laid_quayside_httpdate_monthNames), ("unicode/utf8.first", laid_unicode_utf8_first)], narrowed := true }
def StorablePassesUptoSaid : Prop := storablePassesUptoRow.holds Tryz.pinned (OpenSpec.upto storablePassesSpec)

/-- 'quaysidelaw15.StorableForbids', WHERE WHAT IT READS IS OF BULK AT MOST 1048576: true; the input reads as it did. -/
def storableForbidsUptoRow : OpenClaim := { program := "ytoiampkdmjpljaagreatdoor", sum := "119e12dc7b2ce53b948addd7bc856286187283fa2dcbb5f46bfda0f6625bded6", func := "quayside/quaysidelaw15.StorableForbids", spec := "storableForbids", inPlace := ["internal/bytealg.IndexByteString", "internal/bytealg.IndexString", "internal/abi.NoEscape", "internal/bytealg.MakeNoZero"], unfollowed := true, recurses := true, named := ["unicode/utf8.first", "unicode/utf8.acceptRanges", "internal/bytealg.MaxLen", "strconv.ErrSyntax", "strconv.ErrRange", "internal/strconv.uint64pow10", "math/bits.deBruijn32tab", "math/bits.deBruijn64tab", "quayside/httpdate.monthNames", "quayside/httpdate.weekdayNames"], apart := false, laid := [("math/bits.deBruijn32tab", laid_math_bits_deBruijn32tab), ("math/bits.deBruijn64tab", laid_math_bits_deBruijn64tab), ("internal/strconv.uint64pow10", laid_internal_strconv_uint64pow10), ("unicode/utf8.acceptRanges", laid_unicode_utf8_acceptRanges), ("strconv.ErrRange", laid_strconv_ErrRange), ("strconv.ErrSyntax", laid_strconv_ErrSyntax), ("quayside/httpdate.weekdayNames", laid_quayside_httpdate_weekdayNames), ("quayside/httpdate.monthNames", laid_quayside_httpdate_monthNames), ("unicode/utf8.first", laid_unicode_utf8_first)], narrowed := true }
def StorableForbidsUptoSaid : Prop := storableForbidsUptoRow.holds Tryz.pinned (OpenSpec.upto storableForbidsSpec)

/-- 'quaysidelaw15.StorableAuthorizes', WHERE WHAT IT READS IS OF BULK AT MOST 1048576: true; the input reads as it did. -/
def storableAuthorizesUptoRow : OpenClaim := { program := "ytoiampkdmjpljaagreatdoor", sum := "119e12dc7b2ce53b948addd7bc856286187283fa2dcbb5f46bfda0f6625bded6", func := "quayside/quaysidelaw15.StorableAuthorizes", spec := "storableAuthorizes", inPlace := ["internal/bytealg.IndexByteString", "internal/bytealg.IndexString", "internal/abi.NoEscape", "internal/bytealg.MakeNoZero"], unfollowed := true, recurses := true, named := ["unicode/utf8.first", "unicode/utf8.acceptRanges", "internal/bytealg.MaxLen", "strconv.ErrSyntax", "strconv.ErrRange", "internal/strconv.uint64pow10", "math/bits.deBruijn32tab", "math/bits.deBruijn64tab", "quayside/httpdate.monthNames", "quayside/httpdate.weekdayNames"], apart := false, laid := [("math/bits.deBruijn32tab", laid_math_bits_deBruijn32tab), ("math/bits.deBruijn64tab", laid_math_bits_deBruijn64tab), ("internal/strconv.uint64pow10", laid_internal_strconv_uint64pow10), ("unicode/utf8.acceptRanges", laid_unicode_utf8_acceptRanges), ("strconv.ErrRange", laid_strconv_ErrRange), ("strconv.ErrSyntax", laid_strconv_ErrSyntax), ("quayside/httpdate.weekdayNames", laid_quayside_httpdate_weekdayNames), ("quayside/httpdate.monthNames", laid_quayside_httpdate_monthNames), ("unicode/utf8.first", laid_unicode_utf8_first)], narrowed := true }
def StorableAuthorizesUptoSaid : Prop := storableAuthorizesUptoRow.holds Tryz.pinned (OpenSpec.upto storableAuthorizesSpec)

/-- 'quaysidelaw15.StorableUpdates', WHERE WHAT IT READS IS OF BULK AT MOST 1048576: true; the input reads as it did. -/
def storableUpdatesUptoRow : OpenClaim := { program := "ytoiampkdmjpljaagreatdoor", sum := "119e12dc7b2ce53b948addd7bc856286187283fa2dcbb5f46bfda0f6625bded6", func := "quayside/quaysidelaw15.StorableUpdates", spec := "storableUpdates", inPlace := ["internal/bytealg.IndexByteString", "internal/bytealg.IndexString", "internal/abi.NoEscape", "internal/bytealg.MakeNoZero"], unfollowed := true, recurses := true, named := ["unicode/utf8.first", "unicode/utf8.acceptRanges", "internal/bytealg.MaxLen", "strconv.ErrSyntax", "strconv.ErrRange", "internal/strconv.uint64pow10", "math/bits.deBruijn32tab", "math/bits.deBruijn64tab", "quayside/httpdate.monthNames", "quayside/httpdate.weekdayNames"], apart := false, laid := [("math/bits.deBruijn32tab", laid_math_bits_deBruijn32tab), ("math/bits.deBruijn64tab", laid_math_bits_deBruijn64tab), ("internal/strconv.uint64pow10", laid_internal_strconv_uint64pow10), ("unicode/utf8.acceptRanges", laid_unicode_utf8_acceptRanges), ("strconv.ErrRange", laid_strconv_ErrRange), ("strconv.ErrSyntax", laid_strconv_ErrSyntax), ("quayside/httpdate.weekdayNames", laid_quayside_httpdate_weekdayNames), ("quayside/httpdate.monthNames", laid_quayside_httpdate_monthNames), ("unicode/utf8.first", laid_unicode_utf8_first)], narrowed := true }
def StorableUpdatesUptoSaid : Prop := storableUpdatesUptoRow.holds Tryz.pinned (OpenSpec.upto storableUpdatesSpec)

/-- 'quaysidelaw15.StorableKeeps', WHERE WHAT IT READS IS OF BULK AT MOST 1048576: true; the input reads as it did. -/
def storableKeepsUptoRow : OpenClaim := { program := "ytoiampkdmjpljaagreatdoor", sum := "119e12dc7b2ce53b948addd7bc856286187283fa2dcbb5f46bfda0f6625bded6", func := "quayside/quaysidelaw15.StorableKeeps", spec := "storableKeeps", inPlace := ["internal/bytealg.IndexByteString", "internal/bytealg.IndexString", "internal/abi.NoEscape", "internal/bytealg.MakeNoZero", "internal/bytealg.abigen_runtime_cmpstring"], unfollowed := true, recurses := true, named := ["unicode/utf8.first", "unicode/utf8.acceptRanges", "internal/bytealg.MaxLen", "strconv.ErrSyntax", "strconv.ErrRange", "internal/strconv.uint64pow10", "math/bits.deBruijn32tab", "math/bits.deBruijn64tab", "quayside/httpdate.monthNames", "quayside/httpdate.weekdayNames"], apart := false, laid := [("math/bits.deBruijn32tab", laid_math_bits_deBruijn32tab), ("math/bits.deBruijn64tab", laid_math_bits_deBruijn64tab), ("internal/strconv.uint64pow10", laid_internal_strconv_uint64pow10), ("unicode/utf8.acceptRanges", laid_unicode_utf8_acceptRanges), ("strconv.ErrRange", laid_strconv_ErrRange), ("strconv.ErrSyntax", laid_strconv_ErrSyntax), ("quayside/httpdate.weekdayNames", laid_quayside_httpdate_weekdayNames), ("quayside/httpdate.monthNames", laid_quayside_httpdate_monthNames), ("unicode/utf8.first", laid_unicode_utf8_first)], narrowed := true }
def StorableKeepsUptoSaid : Prop := storableKeepsUptoRow.holds Tryz.pinned (OpenSpec.upto storableKeepsSpec)

/-- 'quaysidelaw15.StorableMixes', WHERE WHAT IT READS IS OF BULK AT MOST 1048576: true; the input reads as it did. -/
def storableMixesUptoRow : OpenClaim := { program := "ytoiampkdmjpljaagreatdoor", sum := "119e12dc7b2ce53b948addd7bc856286187283fa2dcbb5f46bfda0f6625bded6", func := "quayside/quaysidelaw15.StorableMixes", spec := "storableMixes", inPlace := ["internal/bytealg.IndexByteString", "internal/bytealg.IndexString", "internal/abi.NoEscape", "internal/bytealg.MakeNoZero"], unfollowed := true, recurses := true, named := ["unicode/utf8.first", "unicode/utf8.acceptRanges", "internal/bytealg.MaxLen", "strconv.ErrSyntax", "strconv.ErrRange", "internal/strconv.uint64pow10", "math/bits.deBruijn32tab", "math/bits.deBruijn64tab", "quayside/httpdate.monthNames", "quayside/httpdate.weekdayNames"], apart := false, laid := [("math/bits.deBruijn32tab", laid_math_bits_deBruijn32tab), ("math/bits.deBruijn64tab", laid_math_bits_deBruijn64tab), ("internal/strconv.uint64pow10", laid_internal_strconv_uint64pow10), ("unicode/utf8.acceptRanges", laid_unicode_utf8_acceptRanges), ("strconv.ErrRange", laid_strconv_ErrRange), ("strconv.ErrSyntax", laid_strconv_ErrSyntax), ("quayside/httpdate.weekdayNames", laid_quayside_httpdate_weekdayNames), ("quayside/httpdate.monthNames", laid_quayside_httpdate_monthNames), ("unicode/utf8.first", laid_unicode_utf8_first)], narrowed := true }
def StorableMixesUptoSaid : Prop := storableMixesUptoRow.holds Tryz.pinned (OpenSpec.upto storableMixesSpec)

/-- 'quaysidelaw15.StorableMethods', WHERE WHAT IT READS IS OF BULK AT MOST 1048576: true; the input reads as it did. -/
def storableMethodsUptoRow : OpenClaim := { program := "ytoiampkdmjpljaagreatdoor", sum := "119e12dc7b2ce53b948addd7bc856286187283fa2dcbb5f46bfda0f6625bded6", func := "quayside/quaysidelaw15.StorableMethods", spec := "storableMethods", inPlace := ["internal/bytealg.IndexByteString", "internal/bytealg.IndexString", "internal/abi.NoEscape", "internal/bytealg.MakeNoZero"], unfollowed := true, recurses := true, named := ["unicode/utf8.first", "unicode/utf8.acceptRanges", "internal/bytealg.MaxLen", "strconv.ErrSyntax", "strconv.ErrRange", "internal/strconv.uint64pow10", "math/bits.deBruijn32tab", "math/bits.deBruijn64tab", "quayside/httpdate.monthNames", "quayside/httpdate.weekdayNames"], apart := false, laid := [("math/bits.deBruijn32tab", laid_math_bits_deBruijn32tab), ("math/bits.deBruijn64tab", laid_math_bits_deBruijn64tab), ("internal/strconv.uint64pow10", laid_internal_strconv_uint64pow10), ("unicode/utf8.acceptRanges", laid_unicode_utf8_acceptRanges), ("strconv.ErrRange", laid_strconv_ErrRange), ("strconv.ErrSyntax", laid_strconv_ErrSyntax), ("quayside/httpdate.weekdayNames", laid_quayside_httpdate_weekdayNames), ("quayside/httpdate.monthNames", laid_quayside_httpdate_monthNames), ("unicode/utf8.first", laid_unicode_utf8_first)], narrowed := true }
def StorableMethodsUptoSaid : Prop := storableMethodsUptoRow.holds Tryz.pinned (OpenSpec.upto storableMethodsSpec)

end Rows
end Go.Proofs.YtoiampkdmjpljaaGreatDoor
