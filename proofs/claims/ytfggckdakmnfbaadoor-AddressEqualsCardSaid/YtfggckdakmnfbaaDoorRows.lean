/-
  NARROWER THAN 'FOR EVERY INPUT', by the rows' own cells (each row's printed sentence says how): AddressEquals: laid · HttpdateFormats: laid · HttpdateParses: laid · HttpdateReturns: laid · HttpdateDays: laid · HttpdateDates: laid · HttpdateSteps: laid · HttpdateWeekdays: laid.
  DERIVED. THE GIVEN ROWS OF THIS SEAT. 8 by the template 'for every input the law returns true; each argument reads behind the call as it read before'; 0 by the template 'total and deterministic' (their statements: YtfggckdakmnfbaaDoorTotals.lean).
  GIVEN WITH THE SEED: the statements are not yours to turn. If you find one false, say at which input.
  Laid BY PROGRAM, IN A SANDBOX (cutbox-rows.mjs): the forced cells as the released guide's own fill.sh prints them over the translation 7a72e75d26ee6e6b… (all of the seat's roots in one cut). By AI agents, Wed Nov 11 2026. No macro, syntax, notation, axiom, sorry.
-/
import Derived.Test.YtfggckdakmnfbaaDoorChecked
import GoSem.PinnedTables
import GoSem.Claim
import GoSem.ClaimJoined
import GoSem.ClaimMapViews
import Derived.JoinedTies
import Derived.KernelRfl
namespace Go.Proofs.YtfggckdakmnfbaaDoor
/- THE CELL 'sum', in the pinned program and in every row, IS THE sha256 OF THE DUMP (.gsa) THAT YtfggckdakmnfbaaDoorProg.lean LOADS. Nothing in Lean hashes anything: it is a label: what it is worth is what the hold of that sum in a sandbox is worth. -/
noncomputable def Tryd.pinned : Pinned := { name := "ytfggckdakmnfbaadoor", sum := "7a72e75d26ee6e6b871b752819e8da46efe171bb8316701719157e729ca1c4c2", checked := Tryd.checked }
namespace Rows
def none {H : Type} : Left H := { results := [], args := [] }

/- WHAT THE LISTED PACKAGE-LEVEL VARIABLES READ AS WHEN THE CALL BEGINS. Each datum BY PROGRAM (the guide's laid-datum.mjs) off the statement by which the dump's own 'gosem.cut.vars' lays the variable. In a bare row this is a premise. The card (YtfggckdakmnfbaaDoorCards.lean) ties it to the program's text. -/
def laid_math_bits_deBruijn32tab {H : Type} : DataW H := .agg [.lit (.int .u8 0), .lit (.int .u8 1), .lit (.int .u8 28), .lit (.int .u8 2), .lit (.int .u8 29), .lit (.int .u8 14), .lit (.int .u8 24), .lit (.int .u8 3), .lit (.int .u8 30), .lit (.int .u8 22), .lit (.int .u8 20), .lit (.int .u8 15), .lit (.int .u8 25), .lit (.int .u8 17), .lit (.int .u8 4), .lit (.int .u8 8), .lit (.int .u8 31), .lit (.int .u8 27), .lit (.int .u8 13), .lit (.int .u8 23), .lit (.int .u8 21), .lit (.int .u8 19), .lit (.int .u8 16), .lit (.int .u8 7), .lit (.int .u8 26), .lit (.int .u8 12), .lit (.int .u8 18), .lit (.int .u8 6), .lit (.int .u8 11), .lit (.int .u8 5), .lit (.int .u8 10), .lit (.int .u8 9)]
def laid_math_bits_deBruijn64tab {H : Type} : DataW H := .agg [.lit (.int .u8 0), .lit (.int .u8 1), .lit (.int .u8 56), .lit (.int .u8 2), .lit (.int .u8 57), .lit (.int .u8 49), .lit (.int .u8 28), .lit (.int .u8 3), .lit (.int .u8 61), .lit (.int .u8 58), .lit (.int .u8 42), .lit (.int .u8 50), .lit (.int .u8 38), .lit (.int .u8 29), .lit (.int .u8 17), .lit (.int .u8 4), .lit (.int .u8 62), .lit (.int .u8 47), .lit (.int .u8 59), .lit (.int .u8 36), .lit (.int .u8 45), .lit (.int .u8 43), .lit (.int .u8 51), .lit (.int .u8 22), .lit (.int .u8 53), .lit (.int .u8 39), .lit (.int .u8 33), .lit (.int .u8 30), .lit (.int .u8 24), .lit (.int .u8 18), .lit (.int .u8 12), .lit (.int .u8 5), .lit (.int .u8 63), .lit (.int .u8 55), .lit (.int .u8 48), .lit (.int .u8 27), .lit (.int .u8 60), .lit (.int .u8 41), .lit (.int .u8 37), .lit (.int .u8 16), .lit (.int .u8 46), .lit (.int .u8 35), .lit (.int .u8 44), .lit (.int .u8 21), .lit (.int .u8 52), .lit (.int .u8 32), .lit (.int .u8 23), .lit (.int .u8 11), .lit (.int .u8 54), .lit (.int .u8 26), .lit (.int .u8 40), .lit (.int .u8 15), .lit (.int .u8 34), .lit (.int .u8 20), .lit (.int .u8 31), .lit (.int .u8 10), .lit (.int .u8 25), .lit (.int .u8 14), .lit (.int .u8 19), .lit (.int .u8 9), .lit (.int .u8 13), .lit (.int .u8 8), .lit (.int .u8 7), .lit (.int .u8 6)]
def laid_internal_strconv_uint64pow10 {H : Type} : DataW H := .agg [.lit (.int .u64 1), .lit (.int .u64 10), .lit (.int .u64 100), .lit (.int .u64 1000), .lit (.int .u64 10000), .lit (.int .u64 100000), .lit (.int .u64 1000000), .lit (.int .u64 10000000), .lit (.int .u64 100000000), .lit (.int .u64 1000000000), .lit (.int .u64 10000000000), .lit (.int .u64 100000000000), .lit (.int .u64 1000000000000), .lit (.int .u64 10000000000000), .lit (.int .u64 100000000000000), .lit (.int .u64 1000000000000000), .lit (.int .u64 10000000000000000), .lit (.int .u64 100000000000000000), .lit (.int .u64 1000000000000000000), .lit (.int .u64 10000000000000000000)]
def laid_unicode_utf8_acceptRanges {H : Type} : DataW H := .agg [.agg [.lit (.int .u8 128), .lit (.int .u8 191)], .agg [.lit (.int .u8 160), .lit (.int .u8 191)], .agg [.lit (.int .u8 128), .lit (.int .u8 159)], .agg [.lit (.int .u8 144), .lit (.int .u8 191)], .agg [.lit (.int .u8 128), .lit (.int .u8 143)], .agg [.lit (.int .u8 0), .lit (.int .u8 0)], .agg [.lit (.int .u8 0), .lit (.int .u8 0)], .agg [.lit (.int .u8 0), .lit (.int .u8 0)], .agg [.lit (.int .u8 0), .lit (.int .u8 0)], .agg [.lit (.int .u8 0), .lit (.int .u8 0)], .agg [.lit (.int .u8 0), .lit (.int .u8 0)], .agg [.lit (.int .u8 0), .lit (.int .u8 0)], .agg [.lit (.int .u8 0), .lit (.int .u8 0)], .agg [.lit (.int .u8 0), .lit (.int .u8 0)], .agg [.lit (.int .u8 0), .lit (.int .u8 0)], .agg [.lit (.int .u8 0), .lit (.int .u8 0)]]
def laid_strconv_ErrRange {H : Type} : DataW H := .iface "*errors.errorString" (.ptr (.agg [.lit (.string [118, 97, 108, 117, 101, 32, 111, 117, 116, 32, 111, 102, 32, 114, 97, 110, 103, 101])]))
def laid_strconv_ErrSyntax {H : Type} : DataW H := .iface "*errors.errorString" (.ptr (.agg [.lit (.string [105, 110, 118, 97, 108, 105, 100, 32, 115, 121, 110, 116, 97, 120])]))
/-- One of Go's own tables, pinned by name: the form's constant. -/
def laid_unicode_CaseRanges : DataW Unit := Go.Pinned.caseRanges
/-- One of Go's own tables, pinned by name: the form's constant. -/
def laid_unicode_utf8_first : DataW Unit := Go.Pinned.utf8First
def laid_quayside_httpdate_weekdayNames {H : Type} : DataW H := .agg [.lit (.string [83, 117, 110]), .lit (.string [77, 111, 110]), .lit (.string [84, 117, 101]), .lit (.string [87, 101, 100]), .lit (.string [84, 104, 117]), .lit (.string [70, 114, 105]), .lit (.string [83, 97, 116])]
def laid_quayside_httpdate_monthNames {H : Type} : DataW H := .agg [.lit (.string [74, 97, 110]), .lit (.string [70, 101, 98]), .lit (.string [77, 97, 114]), .lit (.string [65, 112, 114]), .lit (.string [77, 97, 121]), .lit (.string [74, 117, 110]), .lit (.string [74, 117, 108]), .lit (.string [65, 117, 103]), .lit (.string [83, 101, 112]), .lit (.string [79, 99, 116]), .lit (.string [78, 111, 118]), .lit (.string [68, 101, 99])]

/-- 'quaysidelaw03.AddressEquals': WHATEVER THE INPUT: true; the input reads as it did. -/
def addressEqualsSpec : ChangeSpec := { name := "addressEquals", fn := fun _ => fun
  | [d1, d2] => { results := [.lit (.bool true)], args := [d1, d2] }
  | _ => none }
def addressEqualsRow : OpenClaim := { program := "ytfggckdakmnfbaadoor", sum := "7a72e75d26ee6e6b871b752819e8da46efe171bb8316701719157e729ca1c4c2", func := "quayside/quaysidelaw03.AddressEquals", spec := "addressEquals", inPlace := ["internal/bytealg.CountString", "internal/bytealg.IndexByteString", "internal/bytealg.IndexString", "internal/abi.NoEscape", "internal/bytealg.MakeNoZero"], unfollowed := true, recurses := true, named := ["unicode/utf8.first", "unicode/utf8.acceptRanges", "internal/bytealg.MaxLen", "strconv.ErrSyntax", "strconv.ErrRange", "internal/strconv.uint64pow10", "math/bits.deBruijn32tab", "math/bits.deBruijn64tab", "unicode.CaseRanges"], apart := false, laid := [("math/bits.deBruijn32tab", laid_math_bits_deBruijn32tab), ("math/bits.deBruijn64tab", laid_math_bits_deBruijn64tab), ("internal/strconv.uint64pow10", laid_internal_strconv_uint64pow10), ("unicode/utf8.acceptRanges", laid_unicode_utf8_acceptRanges), ("strconv.ErrRange", laid_strconv_ErrRange), ("strconv.ErrSyntax", laid_strconv_ErrSyntax), ("unicode.CaseRanges", laid_unicode_CaseRanges), ("unicode/utf8.first", laid_unicode_utf8_first)] }
def AddressEqualsSaid : Prop := addressEqualsRow.holds Tryd.pinned (OpenSpec.ofChange addressEqualsSpec)

/-- ITS FALSE NEIGHBOUR: 'it returns false'. Refute it at one input. -/
def addressEqualsWrong : ChangeSpec := { name := "addressEquals", fn := fun _ => fun
  | [d1, d2] => { results := [.lit (.bool false)], args := [d1, d2] }
  | _ => none }
def AddressEqualsWrongFalsely : Prop := addressEqualsRow.holds Tryd.pinned (OpenSpec.ofChange addressEqualsWrong)

/-- 'quaysidelaw04.HttpdateFormats': WHATEVER THE INPUT: true; the input reads as it did. -/
def httpdateFormatsSpec : ChangeSpec := { name := "httpdateFormats", fn := fun _ => fun
  | [d] => { results := [.lit (.bool true)], args := [d] }
  | _ => none }
def httpdateFormatsRow : OpenClaim := { program := "ytfggckdakmnfbaadoor", sum := "7a72e75d26ee6e6b871b752819e8da46efe171bb8316701719157e729ca1c4c2", func := "quayside/quaysidelaw04.HttpdateFormats", spec := "httpdateFormats", named := ["quayside/httpdate.monthNames", "quayside/httpdate.weekdayNames", "internal/strconv.uint64pow10", "math/bits.deBruijn32tab", "math/bits.deBruijn64tab"], apart := false, laid := [("math/bits.deBruijn32tab", laid_math_bits_deBruijn32tab), ("math/bits.deBruijn64tab", laid_math_bits_deBruijn64tab), ("internal/strconv.uint64pow10", laid_internal_strconv_uint64pow10), ("quayside/httpdate.weekdayNames", laid_quayside_httpdate_weekdayNames), ("quayside/httpdate.monthNames", laid_quayside_httpdate_monthNames)] }
def HttpdateFormatsSaid : Prop := httpdateFormatsRow.holds Tryd.pinned (OpenSpec.ofChange httpdateFormatsSpec)

/-- ITS FALSE NEIGHBOUR: 'it returns false'. Refute it at one input. -/
def httpdateFormatsWrong : ChangeSpec := { name := "httpdateFormats", fn := fun _ => fun
  | [d] => { results := [.lit (.bool false)], args := [d] }
  | _ => none }
def HttpdateFormatsWrongFalsely : Prop := httpdateFormatsRow.holds Tryd.pinned (OpenSpec.ofChange httpdateFormatsWrong)

/-- 'quaysidelaw04.HttpdateParses': WHATEVER THE INPUT: true; the input reads as it did. -/
def httpdateParsesSpec : ChangeSpec := { name := "httpdateParses", fn := fun _ => fun
  | [d] => { results := [.lit (.bool true)], args := [d] }
  | _ => none }
def httpdateParsesRow : OpenClaim := { program := "ytfggckdakmnfbaadoor", sum := "7a72e75d26ee6e6b871b752819e8da46efe171bb8316701719157e729ca1c4c2", func := "quayside/quaysidelaw04.HttpdateParses", spec := "httpdateParses", named := ["quayside/httpdate.monthNames", "quayside/httpdate.weekdayNames", "internal/strconv.uint64pow10", "math/bits.deBruijn32tab", "math/bits.deBruijn64tab", "strconv.ErrSyntax", "strconv.ErrRange"], apart := false, laid := [("math/bits.deBruijn32tab", laid_math_bits_deBruijn32tab), ("math/bits.deBruijn64tab", laid_math_bits_deBruijn64tab), ("internal/strconv.uint64pow10", laid_internal_strconv_uint64pow10), ("strconv.ErrRange", laid_strconv_ErrRange), ("strconv.ErrSyntax", laid_strconv_ErrSyntax), ("quayside/httpdate.weekdayNames", laid_quayside_httpdate_weekdayNames), ("quayside/httpdate.monthNames", laid_quayside_httpdate_monthNames)] }
def HttpdateParsesSaid : Prop := httpdateParsesRow.holds Tryd.pinned (OpenSpec.ofChange httpdateParsesSpec)

/-- ITS FALSE NEIGHBOUR: 'it returns false'. Refute it at one input. -/
def httpdateParsesWrong : ChangeSpec := { name := "httpdateParses", fn := fun _ => fun
  | [d] => { results := [.lit (.bool false)], args := [d] }
  | _ => none }
def HttpdateParsesWrongFalsely : Prop := httpdateParsesRow.holds Tryd.pinned (OpenSpec.ofChange httpdateParsesWrong)

/-- 'quaysidelaw04.HttpdateReturns': WHATEVER THE INPUT: true; the input reads as it did. -/
def httpdateReturnsSpec : ChangeSpec := { name := "httpdateReturns", fn := fun _ => fun
  | [d1, d2, d3] => { results := [.lit (.bool true)], args := [d1, d2, d3] }
  | _ => none }
def httpdateReturnsRow : OpenClaim := { program := "ytfggckdakmnfbaadoor", sum := "7a72e75d26ee6e6b871b752819e8da46efe171bb8316701719157e729ca1c4c2", func := "quayside/quaysidelaw04.HttpdateReturns", spec := "httpdateReturns", named := ["quayside/httpdate.monthNames", "quayside/httpdate.weekdayNames", "internal/strconv.uint64pow10", "math/bits.deBruijn32tab", "math/bits.deBruijn64tab", "strconv.ErrSyntax", "strconv.ErrRange"], apart := false, laid := [("math/bits.deBruijn32tab", laid_math_bits_deBruijn32tab), ("math/bits.deBruijn64tab", laid_math_bits_deBruijn64tab), ("internal/strconv.uint64pow10", laid_internal_strconv_uint64pow10), ("strconv.ErrRange", laid_strconv_ErrRange), ("strconv.ErrSyntax", laid_strconv_ErrSyntax), ("quayside/httpdate.weekdayNames", laid_quayside_httpdate_weekdayNames), ("quayside/httpdate.monthNames", laid_quayside_httpdate_monthNames)] }
def HttpdateReturnsSaid : Prop := httpdateReturnsRow.holds Tryd.pinned (OpenSpec.ofChange httpdateReturnsSpec)

/-- ITS FALSE NEIGHBOUR: 'it returns false'. Refute it at one input. -/
def httpdateReturnsWrong : ChangeSpec := { name := "httpdateReturns", fn := fun _ => fun
  | [d1, d2, d3] => { results := [.lit (.bool false)], args := [d1, d2, d3] }
  | _ => none }
def HttpdateReturnsWrongFalsely : Prop := httpdateReturnsRow.holds Tryd.pinned (OpenSpec.ofChange httpdateReturnsWrong)

/-- 'quaysidelaw04.HttpdateDays': WHATEVER THE INPUT: true; the input reads as it did. -/
def httpdateDaysSpec : ChangeSpec := { name := "httpdateDays", fn := fun _ => fun
  | [d1, d2, d3] => { results := [.lit (.bool true)], args := [d1, d2, d3] }
  | _ => none }
def httpdateDaysRow : OpenClaim := { program := "ytfggckdakmnfbaadoor", sum := "7a72e75d26ee6e6b871b752819e8da46efe171bb8316701719157e729ca1c4c2", func := "quayside/quaysidelaw04.HttpdateDays", spec := "httpdateDays", named := ["quayside/httpdate.monthNames", "quayside/httpdate.weekdayNames", "internal/strconv.uint64pow10", "math/bits.deBruijn32tab", "math/bits.deBruijn64tab"], apart := false, laid := [("math/bits.deBruijn32tab", laid_math_bits_deBruijn32tab), ("math/bits.deBruijn64tab", laid_math_bits_deBruijn64tab), ("internal/strconv.uint64pow10", laid_internal_strconv_uint64pow10), ("quayside/httpdate.weekdayNames", laid_quayside_httpdate_weekdayNames), ("quayside/httpdate.monthNames", laid_quayside_httpdate_monthNames)] }
def HttpdateDaysSaid : Prop := httpdateDaysRow.holds Tryd.pinned (OpenSpec.ofChange httpdateDaysSpec)

/-- ITS FALSE NEIGHBOUR: 'it returns false'. Refute it at one input. -/
def httpdateDaysWrong : ChangeSpec := { name := "httpdateDays", fn := fun _ => fun
  | [d1, d2, d3] => { results := [.lit (.bool false)], args := [d1, d2, d3] }
  | _ => none }
def HttpdateDaysWrongFalsely : Prop := httpdateDaysRow.holds Tryd.pinned (OpenSpec.ofChange httpdateDaysWrong)

/-- 'quaysidelaw04.HttpdateDates': WHATEVER THE INPUT: true; the input reads as it did. -/
def httpdateDatesSpec : ChangeSpec := { name := "httpdateDates", fn := fun _ => fun
  | [d] => { results := [.lit (.bool true)], args := [d] }
  | _ => none }
def httpdateDatesRow : OpenClaim := { program := "ytfggckdakmnfbaadoor", sum := "7a72e75d26ee6e6b871b752819e8da46efe171bb8316701719157e729ca1c4c2", func := "quayside/quaysidelaw04.HttpdateDates", spec := "httpdateDates", named := ["quayside/httpdate.monthNames", "quayside/httpdate.weekdayNames", "internal/strconv.uint64pow10", "math/bits.deBruijn32tab", "math/bits.deBruijn64tab"], apart := false, laid := [("math/bits.deBruijn32tab", laid_math_bits_deBruijn32tab), ("math/bits.deBruijn64tab", laid_math_bits_deBruijn64tab), ("internal/strconv.uint64pow10", laid_internal_strconv_uint64pow10), ("quayside/httpdate.weekdayNames", laid_quayside_httpdate_weekdayNames), ("quayside/httpdate.monthNames", laid_quayside_httpdate_monthNames)] }
def HttpdateDatesSaid : Prop := httpdateDatesRow.holds Tryd.pinned (OpenSpec.ofChange httpdateDatesSpec)

/-- ITS FALSE NEIGHBOUR: 'it returns false'. Refute it at one input. -/
def httpdateDatesWrong : ChangeSpec := { name := "httpdateDates", fn := fun _ => fun
  | [d] => { results := [.lit (.bool false)], args := [d] }
  | _ => none }
def HttpdateDatesWrongFalsely : Prop := httpdateDatesRow.holds Tryd.pinned (OpenSpec.ofChange httpdateDatesWrong)

/-- 'quaysidelaw04.HttpdateSteps': WHATEVER THE INPUT: true; the input reads as it did. -/
def httpdateStepsSpec : ChangeSpec := { name := "httpdateSteps", fn := fun _ => fun
  | [d] => { results := [.lit (.bool true)], args := [d] }
  | _ => none }
def httpdateStepsRow : OpenClaim := { program := "ytfggckdakmnfbaadoor", sum := "7a72e75d26ee6e6b871b752819e8da46efe171bb8316701719157e729ca1c4c2", func := "quayside/quaysidelaw04.HttpdateSteps", spec := "httpdateSteps", named := ["quayside/httpdate.monthNames", "quayside/httpdate.weekdayNames", "internal/strconv.uint64pow10", "math/bits.deBruijn32tab", "math/bits.deBruijn64tab"], apart := false, laid := [("math/bits.deBruijn32tab", laid_math_bits_deBruijn32tab), ("math/bits.deBruijn64tab", laid_math_bits_deBruijn64tab), ("internal/strconv.uint64pow10", laid_internal_strconv_uint64pow10), ("quayside/httpdate.weekdayNames", laid_quayside_httpdate_weekdayNames), ("quayside/httpdate.monthNames", laid_quayside_httpdate_monthNames)] }
def HttpdateStepsSaid : Prop := httpdateStepsRow.holds Tryd.pinned (OpenSpec.ofChange httpdateStepsSpec)

/-- ITS FALSE NEIGHBOUR: 'it returns false'. Refute it at one input. -/
def httpdateStepsWrong : ChangeSpec := { name := "httpdateSteps", fn := fun _ => fun
  | [d] => { results := [.lit (.bool false)], args := [d] }
  | _ => none }
def HttpdateStepsWrongFalsely : Prop := httpdateStepsRow.holds Tryd.pinned (OpenSpec.ofChange httpdateStepsWrong)

/-- 'quaysidelaw04.HttpdateWeekdays': WHATEVER THE INPUT: true; the input reads as it did. -/
def httpdateWeekdaysSpec : ChangeSpec := { name := "httpdateWeekdays", fn := fun _ => fun
  | [d] => { results := [.lit (.bool true)], args := [d] }
  | _ => none }
def httpdateWeekdaysRow : OpenClaim := { program := "ytfggckdakmnfbaadoor", sum := "7a72e75d26ee6e6b871b752819e8da46efe171bb8316701719157e729ca1c4c2", func := "quayside/quaysidelaw04.HttpdateWeekdays", spec := "httpdateWeekdays", named := ["quayside/httpdate.monthNames", "quayside/httpdate.weekdayNames", "internal/strconv.uint64pow10", "math/bits.deBruijn32tab", "math/bits.deBruijn64tab"], apart := false, laid := [("math/bits.deBruijn32tab", laid_math_bits_deBruijn32tab), ("math/bits.deBruijn64tab", laid_math_bits_deBruijn64tab), ("internal/strconv.uint64pow10", laid_internal_strconv_uint64pow10), ("quayside/httpdate.weekdayNames", laid_quayside_httpdate_weekdayNames), ("quayside/httpdate.monthNames", laid_quayside_httpdate_monthNames)] }
def HttpdateWeekdaysSaid : Prop := httpdateWeekdaysRow.holds Tryd.pinned (OpenSpec.ofChange httpdateWeekdaysSpec)

/-- ITS FALSE NEIGHBOUR: 'it returns false'. Refute it at one input. -/
def httpdateWeekdaysWrong : ChangeSpec := { name := "httpdateWeekdays", fn := fun _ => fun
  | [d] => { results := [.lit (.bool false)], args := [d] }
  | _ => none }
def HttpdateWeekdaysWrongFalsely : Prop := httpdateWeekdaysRow.holds Tryd.pinned (OpenSpec.ofChange httpdateWeekdaysWrong)

/- THE SECOND FORM. 'bulk': how many values and letters a reading holds, each counted each time it is reached (what is shared counts as often as it is met; a slice's spare places count too). A statement '..UptoSaid' is the law's where the arguments, and the package variables that the reading takes, are together of bulk at most 1048576: NARROWER than '..Said'. Prove '..Said' where nothing that the law and all that it calls make is longer than what came in: it says more and counts as full. Else prove '..UptoSaid'. A law counts once. -/
mutual
def uptoBulk {H : Type} : DataW H → Nat
  | .lit (.string bytes) => bytes.length + 1
  | .lit _ => 1
  | .nil => 1
  | .ptr d => uptoBulk d + 1
  | .slice elems spare => uptoBulkAll elems + uptoBulkAll spare + 1
  | .agg parts => uptoBulkAll parts + 1
  | .iface _ d => uptoBulk d + 1
  | .map entries => uptoBulkEntries entries + 1
  | .held _ => 1
def uptoBulkAll {H : Type} : List (DataW H) → Nat
  | [] => 0
  | d :: r => uptoBulk d + uptoBulkAll r
def uptoBulkEntries {H : Type} : List (Lit × DataW H) → Nat
  | [] => 0
  | x :: r => uptoBulkEntry x + uptoBulkEntries r
def uptoBulkEntry {H : Type} : Lit × DataW H → Nat
  | (.string bytes, d) => bytes.length + uptoBulk d + 1
  | (_, d) => uptoBulk d + 1
 end
def uptoSmall : (H : Type) → List (DataW H) → Bool := fun _ ds => decide (uptoBulkAll ds ≤ 1048576)
def OpenSpec.upto (s : _root_.Go.ChangeSpec) : _root_.Go.OpenSpec := { _root_.Go.OpenSpec.ofChange s with cond := some uptoSmall }

/-- 'quaysidelaw03.AddressEquals', WHERE WHAT IT READS IS OF BULK AT MOST 1048576: true; the input reads as it did. -/
def addressEqualsUptoRow : OpenClaim := { program := "ytfggckdakmnfbaadoor", sum := "7a72e75d26ee6e6b871b752819e8da46efe171bb8316701719157e729ca1c4c2", func := "quayside/quaysidelaw03.AddressEquals", spec := "addressEquals", inPlace := ["internal/bytealg.CountString", "internal/bytealg.IndexByteString", "internal/bytealg.IndexString", "internal/abi.NoEscape", "internal/bytealg.MakeNoZero"], unfollowed := true, recurses := true, named := ["unicode/utf8.first", "unicode/utf8.acceptRanges", "internal/bytealg.MaxLen", "strconv.ErrSyntax", "strconv.ErrRange", "internal/strconv.uint64pow10", "math/bits.deBruijn32tab", "math/bits.deBruijn64tab", "unicode.CaseRanges"], apart := false, laid := [("math/bits.deBruijn32tab", laid_math_bits_deBruijn32tab), ("math/bits.deBruijn64tab", laid_math_bits_deBruijn64tab), ("internal/strconv.uint64pow10", laid_internal_strconv_uint64pow10), ("unicode/utf8.acceptRanges", laid_unicode_utf8_acceptRanges), ("strconv.ErrRange", laid_strconv_ErrRange), ("strconv.ErrSyntax", laid_strconv_ErrSyntax), ("unicode.CaseRanges", laid_unicode_CaseRanges), ("unicode/utf8.first", laid_unicode_utf8_first)], narrowed := true }
def AddressEqualsUptoSaid : Prop := addressEqualsUptoRow.holds Tryd.pinned (OpenSpec.upto addressEqualsSpec)

/-- 'quaysidelaw04.HttpdateFormats', WHERE WHAT IT READS IS OF BULK AT MOST 1048576: true; the input reads as it did. -/
def httpdateFormatsUptoRow : OpenClaim := { program := "ytfggckdakmnfbaadoor", sum := "7a72e75d26ee6e6b871b752819e8da46efe171bb8316701719157e729ca1c4c2", func := "quayside/quaysidelaw04.HttpdateFormats", spec := "httpdateFormats", named := ["quayside/httpdate.monthNames", "quayside/httpdate.weekdayNames", "internal/strconv.uint64pow10", "math/bits.deBruijn32tab", "math/bits.deBruijn64tab"], apart := false, laid := [("math/bits.deBruijn32tab", laid_math_bits_deBruijn32tab), ("math/bits.deBruijn64tab", laid_math_bits_deBruijn64tab), ("internal/strconv.uint64pow10", laid_internal_strconv_uint64pow10), ("quayside/httpdate.weekdayNames", laid_quayside_httpdate_weekdayNames), ("quayside/httpdate.monthNames", laid_quayside_httpdate_monthNames)], narrowed := true }
def HttpdateFormatsUptoSaid : Prop := httpdateFormatsUptoRow.holds Tryd.pinned (OpenSpec.upto httpdateFormatsSpec)

/-- 'quaysidelaw04.HttpdateParses', WHERE WHAT IT READS IS OF BULK AT MOST 1048576: true; the input reads as it did. -/
def httpdateParsesUptoRow : OpenClaim := { program := "ytfggckdakmnfbaadoor", sum := "7a72e75d26ee6e6b871b752819e8da46efe171bb8316701719157e729ca1c4c2", func := "quayside/quaysidelaw04.HttpdateParses", spec := "httpdateParses", named := ["quayside/httpdate.monthNames", "quayside/httpdate.weekdayNames", "internal/strconv.uint64pow10", "math/bits.deBruijn32tab", "math/bits.deBruijn64tab", "strconv.ErrSyntax", "strconv.ErrRange"], apart := false, laid := [("math/bits.deBruijn32tab", laid_math_bits_deBruijn32tab), ("math/bits.deBruijn64tab", laid_math_bits_deBruijn64tab), ("internal/strconv.uint64pow10", laid_internal_strconv_uint64pow10), ("strconv.ErrRange", laid_strconv_ErrRange), ("strconv.ErrSyntax", laid_strconv_ErrSyntax), ("quayside/httpdate.weekdayNames", laid_quayside_httpdate_weekdayNames), ("quayside/httpdate.monthNames", laid_quayside_httpdate_monthNames)], narrowed := true }
def HttpdateParsesUptoSaid : Prop := httpdateParsesUptoRow.holds Tryd.pinned (OpenSpec.upto httpdateParsesSpec)

/-- 'quaysidelaw04.HttpdateReturns', WHERE WHAT IT READS IS OF BULK AT MOST 1048576: true; the input reads as it did. -/
def httpdateReturnsUptoRow : OpenClaim := { program := "ytfggckdakmnfbaadoor", sum := "7a72e75d26ee6e6b871b752819e8da46efe171bb8316701719157e729ca1c4c2", func := "quayside/quaysidelaw04.HttpdateReturns", spec := "httpdateReturns", named := ["quayside/httpdate.monthNames", "quayside/httpdate.weekdayNames", "internal/strconv.uint64pow10", "math/bits.deBruijn32tab", "math/bits.deBruijn64tab", "strconv.ErrSyntax", "strconv.ErrRange"], apart := false, laid := [("math/bits.deBruijn32tab", laid_math_bits_deBruijn32tab), ("math/bits.deBruijn64tab", laid_math_bits_deBruijn64tab), ("internal/strconv.uint64pow10", laid_internal_strconv_uint64pow10), ("strconv.ErrRange", laid_strconv_ErrRange), ("strconv.ErrSyntax", laid_strconv_ErrSyntax), ("quayside/httpdate.weekdayNames", laid_quayside_httpdate_weekdayNames), ("quayside/httpdate.monthNames", laid_quayside_httpdate_monthNames)], narrowed := true }
def HttpdateReturnsUptoSaid : Prop := httpdateReturnsUptoRow.holds Tryd.pinned (OpenSpec.upto httpdateReturnsSpec)

/-- 'quaysidelaw04.HttpdateDays', WHERE WHAT IT READS IS OF BULK AT MOST 1048576: true; the input reads as it did. -/
def httpdateDaysUptoRow : OpenClaim := { program := "ytfggckdakmnfbaadoor", sum := "7a72e75d26ee6e6b871b752819e8da46efe171bb8316701719157e729ca1c4c2", func := "quayside/quaysidelaw04.HttpdateDays", spec := "httpdateDays", named := ["quayside/httpdate.monthNames", "quayside/httpdate.weekdayNames", "internal/strconv.uint64pow10", "math/bits.deBruijn32tab", "math/bits.deBruijn64tab"], apart := false, laid := [("math/bits.deBruijn32tab", laid_math_bits_deBruijn32tab), ("math/bits.deBruijn64tab", laid_math_bits_deBruijn64tab), ("internal/strconv.uint64pow10", laid_internal_strconv_uint64pow10), ("quayside/httpdate.weekdayNames", laid_quayside_httpdate_weekdayNames), ("quayside/httpdate.monthNames", laid_quayside_httpdate_monthNames)], narrowed := true }
def HttpdateDaysUptoSaid : Prop := httpdateDaysUptoRow.holds Tryd.pinned (OpenSpec.upto httpdateDaysSpec)

/-- 'quaysidelaw04.HttpdateDates', WHERE WHAT IT READS IS OF BULK AT MOST 1048576: true; the input reads as it did. -/
def httpdateDatesUptoRow : OpenClaim := { program := "ytfggckdakmnfbaadoor", sum := "7a72e75d26ee6e6b871b752819e8da46efe171bb8316701719157e729ca1c4c2", func := "quayside/quaysidelaw04.HttpdateDates", spec := "httpdateDates", named := ["quayside/httpdate.monthNames", "quayside/httpdate.weekdayNames", "internal/strconv.uint64pow10", "math/bits.deBruijn32tab", "math/bits.deBruijn64tab"], apart := false, laid := [("math/bits.deBruijn32tab", laid_math_bits_deBruijn32tab), ("math/bits.deBruijn64tab", laid_math_bits_deBruijn64tab), ("internal/strconv.uint64pow10", laid_internal_strconv_uint64pow10), ("quayside/httpdate.weekdayNames", laid_quayside_httpdate_weekdayNames), ("quayside/httpdate.monthNames", laid_quayside_httpdate_monthNames)], narrowed := true }
def HttpdateDatesUptoSaid : Prop := httpdateDatesUptoRow.holds Tryd.pinned (OpenSpec.upto httpdateDatesSpec)

/-- 'quaysidelaw04.HttpdateSteps', WHERE WHAT IT READS IS OF BULK AT MOST 1048576: true; the input reads as it did. -/
def httpdateStepsUptoRow : OpenClaim := { program := "ytfggckdakmnfbaadoor", sum := "7a72e75d26ee6e6b871b752819e8da46efe171bb8316701719157e729ca1c4c2", func := "quayside/quaysidelaw04.HttpdateSteps", spec := "httpdateSteps", named := ["quayside/httpdate.monthNames", "quayside/httpdate.weekdayNames", "internal/strconv.uint64pow10", "math/bits.deBruijn32tab", "math/bits.deBruijn64tab"], apart := false, laid := [("math/bits.deBruijn32tab", laid_math_bits_deBruijn32tab), ("math/bits.deBruijn64tab", laid_math_bits_deBruijn64tab), ("internal/strconv.uint64pow10", laid_internal_strconv_uint64pow10), ("quayside/httpdate.weekdayNames", laid_quayside_httpdate_weekdayNames), ("quayside/httpdate.monthNames", laid_quayside_httpdate_monthNames)], narrowed := true }
def HttpdateStepsUptoSaid : Prop := httpdateStepsUptoRow.holds Tryd.pinned (OpenSpec.upto httpdateStepsSpec)

/-- 'quaysidelaw04.HttpdateWeekdays', WHERE WHAT IT READS IS OF BULK AT MOST 1048576: true; the input reads as it did. -/
def httpdateWeekdaysUptoRow : OpenClaim := { program := "ytfggckdakmnfbaadoor", sum := "7a72e75d26ee6e6b871b752819e8da46efe171bb8316701719157e729ca1c4c2", func := "quayside/quaysidelaw04.HttpdateWeekdays", spec := "httpdateWeekdays", named := ["quayside/httpdate.monthNames", "quayside/httpdate.weekdayNames", "internal/strconv.uint64pow10", "math/bits.deBruijn32tab", "math/bits.deBruijn64tab"], apart := false, laid := [("math/bits.deBruijn32tab", laid_math_bits_deBruijn32tab), ("math/bits.deBruijn64tab", laid_math_bits_deBruijn64tab), ("internal/strconv.uint64pow10", laid_internal_strconv_uint64pow10), ("quayside/httpdate.weekdayNames", laid_quayside_httpdate_weekdayNames), ("quayside/httpdate.monthNames", laid_quayside_httpdate_monthNames)], narrowed := true }
def HttpdateWeekdaysUptoSaid : Prop := httpdateWeekdaysUptoRow.holds Tryd.pinned (OpenSpec.upto httpdateWeekdaysSpec)

end Rows
end Go.Proofs.YtfggckdakmnfbaaDoor
