/-
  NARROWER THAN 'FOR EVERY INPUT', by the rows' own cells (each row's printed sentence says how): ValidatorTags: laid · ValidatorReads: laid · ValidatorLists: laid · ValidatorCompares: laid · ValidatorEvaluates: laid · ValidatorPrecedence: laid · ValidatorSafe: laid · ValidatorRanges: laid.
  DERIVED. THE GIVEN ROWS OF THIS SEAT. 8 by the template 'for every input the law returns true; each argument reads behind the call as it read before'; 0 by the template 'total and deterministic' (their statements: YtkpeaghbacoehaaGreatDoorTotals.lean).
  GIVEN WITH THE SEED: the statements are not yours to turn. If you find one false, say at which input.
  Laid BY PROGRAM, IN A SANDBOX (cutbox-rows.mjs): the forced cells as the released guide's own fill.sh prints them over the translation a06830ee2b6e24b1… (all of the seat's roots in one cut). By AI agents, Wed Nov 11 2026. No macro, syntax, notation, axiom, sorry.
-/
import Derived.Test.YtkpeaghbacoehaaGreatDoorChecked
import GoSem.PinnedTables
import GoSem.Claim
import GoSem.ClaimJoined
import GoSem.ClaimMapViews
import Derived.JoinedTies
import Derived.KernelRfl
namespace Go.Proofs.YtkpeaghbacoehaaGreatDoor
/- THE CELL 'sum', in the pinned program and in every row, IS THE sha256 OF THE DUMP (.gsa) THAT YtkpeaghbacoehaaGreatDoorProg.lean LOADS. Nothing in Lean hashes anything: it is a label: what it is worth is what the hold of that sum in a sandbox is worth. -/
noncomputable def Tryz.pinned : Pinned := { name := "ytkpeaghbacoehaagreatdoor", sum := "a06830ee2b6e24b198a2b12925215e46c3ce987f2d044775290aee48b0606216", checked := Tryz.checked }
namespace Rows
def none {H : Type} : Left H := { results := [], args := [] }

/- WHAT THE LISTED PACKAGE-LEVEL VARIABLES READ AS WHEN THE CALL BEGINS. Each datum BY PROGRAM (the guide's laid-datum.mjs) off the statement by which the dump's own 'gosem.cut.vars' lays the variable. In a bare row this is a premise. The card (YtkpeaghbacoehaaGreatDoorCards.lean) ties it to the program's text. -/
def laid_math_bits_deBruijn32tab {H : Type} : DataW H := .agg [.lit (.int .u8 0), .lit (.int .u8 1), .lit (.int .u8 28), .lit (.int .u8 2), .lit (.int .u8 29), .lit (.int .u8 14), .lit (.int .u8 24), .lit (.int .u8 3), .lit (.int .u8 30), .lit (.int .u8 22), .lit (.int .u8 20), .lit (.int .u8 15), .lit (.int .u8 25), .lit (.int .u8 17), .lit (.int .u8 4), .lit (.int .u8 8), .lit (.int .u8 31), .lit (.int .u8 27), .lit (.int .u8 13), .lit (.int .u8 23), .lit (.int .u8 21), .lit (.int .u8 19), .lit (.int .u8 16), .lit (.int .u8 7), .lit (.int .u8 26), .lit (.int .u8 12), .lit (.int .u8 18), .lit (.int .u8 6), .lit (.int .u8 11), .lit (.int .u8 5), .lit (.int .u8 10), .lit (.int .u8 9)]
def laid_math_bits_deBruijn64tab {H : Type} : DataW H := .agg [.lit (.int .u8 0), .lit (.int .u8 1), .lit (.int .u8 56), .lit (.int .u8 2), .lit (.int .u8 57), .lit (.int .u8 49), .lit (.int .u8 28), .lit (.int .u8 3), .lit (.int .u8 61), .lit (.int .u8 58), .lit (.int .u8 42), .lit (.int .u8 50), .lit (.int .u8 38), .lit (.int .u8 29), .lit (.int .u8 17), .lit (.int .u8 4), .lit (.int .u8 62), .lit (.int .u8 47), .lit (.int .u8 59), .lit (.int .u8 36), .lit (.int .u8 45), .lit (.int .u8 43), .lit (.int .u8 51), .lit (.int .u8 22), .lit (.int .u8 53), .lit (.int .u8 39), .lit (.int .u8 33), .lit (.int .u8 30), .lit (.int .u8 24), .lit (.int .u8 18), .lit (.int .u8 12), .lit (.int .u8 5), .lit (.int .u8 63), .lit (.int .u8 55), .lit (.int .u8 48), .lit (.int .u8 27), .lit (.int .u8 60), .lit (.int .u8 41), .lit (.int .u8 37), .lit (.int .u8 16), .lit (.int .u8 46), .lit (.int .u8 35), .lit (.int .u8 44), .lit (.int .u8 21), .lit (.int .u8 52), .lit (.int .u8 32), .lit (.int .u8 23), .lit (.int .u8 11), .lit (.int .u8 54), .lit (.int .u8 26), .lit (.int .u8 40), .lit (.int .u8 15), .lit (.int .u8 34), .lit (.int .u8 20), .lit (.int .u8 31), .lit (.int .u8 10), .lit (.int .u8 25), .lit (.int .u8 14), .lit (.int .u8 19), .lit (.int .u8 9), .lit (.int .u8 13), .lit (.int .u8 8), .lit (.int .u8 7), .lit (.int .u8 6)]
def laid_internal_strconv_uint64pow10 {H : Type} : DataW H := .agg [.lit (.int .u64 1), .lit (.int .u64 10), .lit (.int .u64 100), .lit (.int .u64 1000), .lit (.int .u64 10000), .lit (.int .u64 100000), .lit (.int .u64 1000000), .lit (.int .u64 10000000), .lit (.int .u64 100000000), .lit (.int .u64 1000000000), .lit (.int .u64 10000000000), .lit (.int .u64 100000000000), .lit (.int .u64 1000000000000), .lit (.int .u64 10000000000000), .lit (.int .u64 100000000000000), .lit (.int .u64 1000000000000000), .lit (.int .u64 10000000000000000), .lit (.int .u64 100000000000000000), .lit (.int .u64 1000000000000000000), .lit (.int .u64 10000000000000000000)]
def laid_unicode_utf8_acceptRanges {H : Type} : DataW H := .agg [.agg [.lit (.int .u8 128), .lit (.int .u8 191)], .agg [.lit (.int .u8 160), .lit (.int .u8 191)], .agg [.lit (.int .u8 128), .lit (.int .u8 159)], .agg [.lit (.int .u8 144), .lit (.int .u8 191)], .agg [.lit (.int .u8 128), .lit (.int .u8 143)], .agg [.lit (.int .u8 0), .lit (.int .u8 0)], .agg [.lit (.int .u8 0), .lit (.int .u8 0)], .agg [.lit (.int .u8 0), .lit (.int .u8 0)], .agg [.lit (.int .u8 0), .lit (.int .u8 0)], .agg [.lit (.int .u8 0), .lit (.int .u8 0)], .agg [.lit (.int .u8 0), .lit (.int .u8 0)], .agg [.lit (.int .u8 0), .lit (.int .u8 0)], .agg [.lit (.int .u8 0), .lit (.int .u8 0)], .agg [.lit (.int .u8 0), .lit (.int .u8 0)], .agg [.lit (.int .u8 0), .lit (.int .u8 0)], .agg [.lit (.int .u8 0), .lit (.int .u8 0)]]
def laid_strconv_ErrRange {H : Type} : DataW H := .iface "*errors.errorString" (.ptr (.agg [.lit (.string [118, 97, 108, 117, 101, 32, 111, 117, 116, 32, 111, 102, 32, 114, 97, 110, 103, 101])]))
def laid_strconv_ErrSyntax {H : Type} : DataW H := .iface "*errors.errorString" (.ptr (.agg [.lit (.string [105, 110, 118, 97, 108, 105, 100, 32, 115, 121, 110, 116, 97, 120])]))
def laid_quayside_httpdate_weekdayNames {H : Type} : DataW H := .agg [.lit (.string [83, 117, 110]), .lit (.string [77, 111, 110]), .lit (.string [84, 117, 101]), .lit (.string [87, 101, 100]), .lit (.string [84, 104, 117]), .lit (.string [70, 114, 105]), .lit (.string [83, 97, 116])]
def laid_quayside_httpdate_monthNames {H : Type} : DataW H := .agg [.lit (.string [74, 97, 110]), .lit (.string [70, 101, 98]), .lit (.string [77, 97, 114]), .lit (.string [65, 112, 114]), .lit (.string [77, 97, 121]), .lit (.string [74, 117, 110]), .lit (.string [74, 117, 108]), .lit (.string [65, 117, 103]), .lit (.string [83, 101, 112]), .lit (.string [79, 99, 116]), .lit (.string [78, 111, 118]), .lit (.string [68, 101, 99])]
/-- One of Go's own tables, pinned by name: the form's constant. -/
def laid_unicode_utf8_first : DataW Unit := Go.Pinned.utf8First

/-- 'quaysidelaw10.ValidatorTags': WHATEVER THE INPUT: true; the input reads as it did. -/
def validatorTagsSpec : ChangeSpec := { name := "validatorTags", fn := fun _ => fun
  | [d] => { results := [.lit (.bool true)], args := [d] }
  | _ => none }
def validatorTagsRow : OpenClaim := { program := "ytkpeaghbacoehaagreatdoor", sum := "a06830ee2b6e24b198a2b12925215e46c3ce987f2d044775290aee48b0606216", func := "quayside/quaysidelaw10.ValidatorTags", spec := "validatorTags", inPlace := ["internal/bytealg.IndexByteString", "internal/bytealg.IndexString", "internal/abi.NoEscape", "internal/bytealg.MakeNoZero"], unfollowed := true, recurses := true, named := ["internal/bytealg.MaxLen", "unicode/utf8.first", "unicode/utf8.acceptRanges", "strconv.ErrSyntax", "strconv.ErrRange", "internal/strconv.uint64pow10", "math/bits.deBruijn32tab", "math/bits.deBruijn64tab", "quayside/httpdate.monthNames", "quayside/httpdate.weekdayNames"], apart := false, laid := [("math/bits.deBruijn32tab", laid_math_bits_deBruijn32tab), ("math/bits.deBruijn64tab", laid_math_bits_deBruijn64tab), ("internal/strconv.uint64pow10", laid_internal_strconv_uint64pow10), ("unicode/utf8.acceptRanges", laid_unicode_utf8_acceptRanges), ("strconv.ErrRange", laid_strconv_ErrRange), ("strconv.ErrSyntax", laid_strconv_ErrSyntax), ("quayside/httpdate.weekdayNames", laid_quayside_httpdate_weekdayNames), ("quayside/httpdate.monthNames", laid_quayside_httpdate_monthNames), ("unicode/utf8.first", laid_unicode_utf8_first)] }
def ValidatorTagsSaid : Prop := validatorTagsRow.holds Tryz.pinned (OpenSpec.ofChange validatorTagsSpec)

/-- ITS FALSE NEIGHBOUR: 'it returns false'. Refute it at one input. -/
def validatorTagsWrong : ChangeSpec := { name := "validatorTags", fn := fun _ => fun
  | [d] => { results := [.lit (.bool false)], args := [d] }
  | _ => none }
def ValidatorTagsWrongFalsely : Prop := validatorTagsRow.holds Tryz.pinned (OpenSpec.ofChange validatorTagsWrong)

/-- 'quaysidelaw10.ValidatorReads': WHATEVER THE INPUT: true; the input reads as it did. -/
def validatorReadsSpec : ChangeSpec := { name := "validatorReads", fn := fun _ => fun
  | [d] => { results := [.lit (.bool true)], args := [d] }
  | _ => none }
def validatorReadsRow : OpenClaim := { program := "ytkpeaghbacoehaagreatdoor", sum := "a06830ee2b6e24b198a2b12925215e46c3ce987f2d044775290aee48b0606216", func := "quayside/quaysidelaw10.ValidatorReads", spec := "validatorReads", inPlace := ["internal/bytealg.IndexByteString", "internal/bytealg.IndexString", "internal/abi.NoEscape", "internal/bytealg.MakeNoZero"], unfollowed := true, recurses := true, named := ["internal/bytealg.MaxLen", "unicode/utf8.first", "unicode/utf8.acceptRanges", "strconv.ErrSyntax", "strconv.ErrRange", "internal/strconv.uint64pow10", "math/bits.deBruijn32tab", "math/bits.deBruijn64tab", "quayside/httpdate.monthNames", "quayside/httpdate.weekdayNames"], apart := false, laid := [("math/bits.deBruijn32tab", laid_math_bits_deBruijn32tab), ("math/bits.deBruijn64tab", laid_math_bits_deBruijn64tab), ("internal/strconv.uint64pow10", laid_internal_strconv_uint64pow10), ("unicode/utf8.acceptRanges", laid_unicode_utf8_acceptRanges), ("strconv.ErrRange", laid_strconv_ErrRange), ("strconv.ErrSyntax", laid_strconv_ErrSyntax), ("quayside/httpdate.weekdayNames", laid_quayside_httpdate_weekdayNames), ("quayside/httpdate.monthNames", laid_quayside_httpdate_monthNames), ("unicode/utf8.first", laid_unicode_utf8_first)] }
def ValidatorReadsSaid : Prop := validatorReadsRow.holds Tryz.pinned (OpenSpec.ofChange validatorReadsSpec)

/-- ITS FALSE NEIGHBOUR: 'it returns false'. Refute it at one input. -/
def validatorReadsWrong : ChangeSpec := { name := "validatorReads", fn := fun _ => fun
  | [d] => { results := [.lit (.bool false)], args := [d] }
  | _ => none }
def ValidatorReadsWrongFalsely : Prop := validatorReadsRow.holds Tryz.pinned (OpenSpec.ofChange validatorReadsWrong)

/-- 'quaysidelaw10.ValidatorLists': WHATEVER THE INPUT: true; the input reads as it did. -/
def validatorListsSpec : ChangeSpec := { name := "validatorLists", fn := fun _ => fun
  | [d] => { results := [.lit (.bool true)], args := [d] }
  | _ => none }
def validatorListsRow : OpenClaim := { program := "ytkpeaghbacoehaagreatdoor", sum := "a06830ee2b6e24b198a2b12925215e46c3ce987f2d044775290aee48b0606216", func := "quayside/quaysidelaw10.ValidatorLists", spec := "validatorLists", inPlace := ["internal/bytealg.IndexByteString", "internal/bytealg.IndexString", "internal/abi.NoEscape", "internal/bytealg.MakeNoZero"], unfollowed := true, recurses := true, named := ["internal/bytealg.MaxLen", "unicode/utf8.first", "unicode/utf8.acceptRanges", "strconv.ErrSyntax", "strconv.ErrRange", "internal/strconv.uint64pow10", "math/bits.deBruijn32tab", "math/bits.deBruijn64tab", "quayside/httpdate.monthNames", "quayside/httpdate.weekdayNames"], apart := false, laid := [("math/bits.deBruijn32tab", laid_math_bits_deBruijn32tab), ("math/bits.deBruijn64tab", laid_math_bits_deBruijn64tab), ("internal/strconv.uint64pow10", laid_internal_strconv_uint64pow10), ("unicode/utf8.acceptRanges", laid_unicode_utf8_acceptRanges), ("strconv.ErrRange", laid_strconv_ErrRange), ("strconv.ErrSyntax", laid_strconv_ErrSyntax), ("quayside/httpdate.weekdayNames", laid_quayside_httpdate_weekdayNames), ("quayside/httpdate.monthNames", laid_quayside_httpdate_monthNames), ("unicode/utf8.first", laid_unicode_utf8_first)] }
def ValidatorListsSaid : Prop := validatorListsRow.holds Tryz.pinned (OpenSpec.ofChange validatorListsSpec)

/-- ITS FALSE NEIGHBOUR: 'it returns false'. Refute it at one input. -/
def validatorListsWrong : ChangeSpec := { name := "validatorLists", fn := fun _ => fun
  | [d] => { results := [.lit (.bool false)], args := [d] }
  | _ => none }
def ValidatorListsWrongFalsely : Prop := validatorListsRow.holds Tryz.pinned (OpenSpec.ofChange validatorListsWrong)

/-- 'quaysidelaw10.ValidatorCompares': WHATEVER THE INPUT: true; the input reads as it did. -/
def validatorComparesSpec : ChangeSpec := { name := "validatorCompares", fn := fun _ => fun
  | [d1, d2] => { results := [.lit (.bool true)], args := [d1, d2] }
  | _ => none }
def validatorComparesRow : OpenClaim := { program := "ytkpeaghbacoehaagreatdoor", sum := "a06830ee2b6e24b198a2b12925215e46c3ce987f2d044775290aee48b0606216", func := "quayside/quaysidelaw10.ValidatorCompares", spec := "validatorCompares", inPlace := ["internal/bytealg.IndexByteString", "internal/bytealg.IndexString", "internal/abi.NoEscape", "internal/bytealg.MakeNoZero"], unfollowed := true, recurses := true, named := ["internal/bytealg.MaxLen", "unicode/utf8.first", "unicode/utf8.acceptRanges", "strconv.ErrSyntax", "strconv.ErrRange", "internal/strconv.uint64pow10", "math/bits.deBruijn32tab", "math/bits.deBruijn64tab", "quayside/httpdate.monthNames", "quayside/httpdate.weekdayNames"], apart := false, laid := [("math/bits.deBruijn32tab", laid_math_bits_deBruijn32tab), ("math/bits.deBruijn64tab", laid_math_bits_deBruijn64tab), ("internal/strconv.uint64pow10", laid_internal_strconv_uint64pow10), ("unicode/utf8.acceptRanges", laid_unicode_utf8_acceptRanges), ("strconv.ErrRange", laid_strconv_ErrRange), ("strconv.ErrSyntax", laid_strconv_ErrSyntax), ("quayside/httpdate.weekdayNames", laid_quayside_httpdate_weekdayNames), ("quayside/httpdate.monthNames", laid_quayside_httpdate_monthNames), ("unicode/utf8.first", laid_unicode_utf8_first)] }
def ValidatorComparesSaid : Prop := validatorComparesRow.holds Tryz.pinned (OpenSpec.ofChange validatorComparesSpec)

/-- ITS FALSE NEIGHBOUR: 'it returns false'. Refute it at one input. -/
def validatorComparesWrong : ChangeSpec := { name := "validatorCompares", fn := fun _ => fun
  | [d1, d2] => { results := [.lit (.bool false)], args := [d1, d2] }
  | _ => none }
def ValidatorComparesWrongFalsely : Prop := validatorComparesRow.holds Tryz.pinned (OpenSpec.ofChange validatorComparesWrong)

/-- 'quaysidelaw10.ValidatorEvaluates': WHATEVER THE INPUT: true; the input reads as it did. -/
def validatorEvaluatesSpec : ChangeSpec := { name := "validatorEvaluates", fn := fun _ => fun
  | [d] => { results := [.lit (.bool true)], args := [d] }
  | _ => none }
def validatorEvaluatesRow : OpenClaim := { program := "ytkpeaghbacoehaagreatdoor", sum := "a06830ee2b6e24b198a2b12925215e46c3ce987f2d044775290aee48b0606216", func := "quayside/quaysidelaw10.ValidatorEvaluates", spec := "validatorEvaluates", inPlace := ["internal/bytealg.IndexByteString", "internal/bytealg.IndexString", "internal/abi.NoEscape", "internal/bytealg.MakeNoZero"], unfollowed := true, recurses := true, named := ["internal/bytealg.MaxLen", "unicode/utf8.first", "unicode/utf8.acceptRanges", "strconv.ErrSyntax", "strconv.ErrRange", "internal/strconv.uint64pow10", "math/bits.deBruijn32tab", "math/bits.deBruijn64tab", "quayside/httpdate.monthNames", "quayside/httpdate.weekdayNames"], apart := false, laid := [("math/bits.deBruijn32tab", laid_math_bits_deBruijn32tab), ("math/bits.deBruijn64tab", laid_math_bits_deBruijn64tab), ("internal/strconv.uint64pow10", laid_internal_strconv_uint64pow10), ("unicode/utf8.acceptRanges", laid_unicode_utf8_acceptRanges), ("strconv.ErrRange", laid_strconv_ErrRange), ("strconv.ErrSyntax", laid_strconv_ErrSyntax), ("quayside/httpdate.weekdayNames", laid_quayside_httpdate_weekdayNames), ("quayside/httpdate.monthNames", laid_quayside_httpdate_monthNames), ("unicode/utf8.first", laid_unicode_utf8_first)] }
def ValidatorEvaluatesSaid : Prop := validatorEvaluatesRow.holds Tryz.pinned (OpenSpec.ofChange validatorEvaluatesSpec)

/-- ITS FALSE NEIGHBOUR: 'it returns false'. Refute it at one input. -/
def validatorEvaluatesWrong : ChangeSpec := { name := "validatorEvaluates", fn := fun _ => fun
  | [d] => { results := [.lit (.bool false)], args := [d] }
  | _ => none }
def ValidatorEvaluatesWrongFalsely : Prop := validatorEvaluatesRow.holds Tryz.pinned (OpenSpec.ofChange validatorEvaluatesWrong)

/-- 'quaysidelaw10.ValidatorPrecedence': WHATEVER THE INPUT: true; the input reads as it did. -/
def validatorPrecedenceSpec : ChangeSpec := { name := "validatorPrecedence", fn := fun _ => fun
  | [d1, d2, d3] => { results := [.lit (.bool true)], args := [d1, d2, d3] }
  | _ => none }
def validatorPrecedenceRow : OpenClaim := { program := "ytkpeaghbacoehaagreatdoor", sum := "a06830ee2b6e24b198a2b12925215e46c3ce987f2d044775290aee48b0606216", func := "quayside/quaysidelaw10.ValidatorPrecedence", spec := "validatorPrecedence", inPlace := ["internal/bytealg.IndexByteString", "internal/bytealg.IndexString", "internal/abi.NoEscape", "internal/bytealg.MakeNoZero"], unfollowed := true, recurses := true, named := ["internal/bytealg.MaxLen", "unicode/utf8.first", "unicode/utf8.acceptRanges", "strconv.ErrSyntax", "strconv.ErrRange", "internal/strconv.uint64pow10", "math/bits.deBruijn32tab", "math/bits.deBruijn64tab", "quayside/httpdate.monthNames", "quayside/httpdate.weekdayNames"], apart := false, laid := [("math/bits.deBruijn32tab", laid_math_bits_deBruijn32tab), ("math/bits.deBruijn64tab", laid_math_bits_deBruijn64tab), ("internal/strconv.uint64pow10", laid_internal_strconv_uint64pow10), ("unicode/utf8.acceptRanges", laid_unicode_utf8_acceptRanges), ("strconv.ErrRange", laid_strconv_ErrRange), ("strconv.ErrSyntax", laid_strconv_ErrSyntax), ("quayside/httpdate.weekdayNames", laid_quayside_httpdate_weekdayNames), ("quayside/httpdate.monthNames", laid_quayside_httpdate_monthNames), ("unicode/utf8.first", laid_unicode_utf8_first)] }
def ValidatorPrecedenceSaid : Prop := validatorPrecedenceRow.holds Tryz.pinned (OpenSpec.ofChange validatorPrecedenceSpec)

/-- ITS FALSE NEIGHBOUR: 'it returns false'. Refute it at one input. -/
def validatorPrecedenceWrong : ChangeSpec := { name := "validatorPrecedence", fn := fun _ => fun
  | [d1, d2, d3] => { results := [.lit (.bool false)], args := [d1, d2, d3] }
  | _ => none }
def ValidatorPrecedenceWrongFalsely : Prop := validatorPrecedenceRow.holds Tryz.pinned (OpenSpec.ofChange validatorPrecedenceWrong)

/-- 'quaysidelaw10.ValidatorSafe': WHATEVER THE INPUT: true; the input reads as it did. -/
def validatorSafeSpec : ChangeSpec := { name := "validatorSafe", fn := fun _ => fun
  | [d] => { results := [.lit (.bool true)], args := [d] }
  | _ => none }
def validatorSafeRow : OpenClaim := { program := "ytkpeaghbacoehaagreatdoor", sum := "a06830ee2b6e24b198a2b12925215e46c3ce987f2d044775290aee48b0606216", func := "quayside/quaysidelaw10.ValidatorSafe", spec := "validatorSafe", inPlace := ["internal/bytealg.IndexByteString", "internal/bytealg.IndexString", "internal/abi.NoEscape", "internal/bytealg.MakeNoZero"], unfollowed := true, recurses := true, named := ["internal/bytealg.MaxLen", "unicode/utf8.first", "unicode/utf8.acceptRanges", "strconv.ErrSyntax", "strconv.ErrRange", "internal/strconv.uint64pow10", "math/bits.deBruijn32tab", "math/bits.deBruijn64tab", "quayside/httpdate.monthNames", "quayside/httpdate.weekdayNames"], apart := false, laid := [("math/bits.deBruijn32tab", laid_math_bits_deBruijn32tab), ("math/bits.deBruijn64tab", laid_math_bits_deBruijn64tab), ("internal/strconv.uint64pow10", laid_internal_strconv_uint64pow10), ("unicode/utf8.acceptRanges", laid_unicode_utf8_acceptRanges), ("strconv.ErrRange", laid_strconv_ErrRange), ("strconv.ErrSyntax", laid_strconv_ErrSyntax), ("quayside/httpdate.weekdayNames", laid_quayside_httpdate_weekdayNames), ("quayside/httpdate.monthNames", laid_quayside_httpdate_monthNames), ("unicode/utf8.first", laid_unicode_utf8_first)] }
def ValidatorSafeSaid : Prop := validatorSafeRow.holds Tryz.pinned (OpenSpec.ofChange validatorSafeSpec)

/-- ITS FALSE NEIGHBOUR: 'it returns false'. Refute it at one input. -/
def validatorSafeWrong : ChangeSpec := { name := "validatorSafe", fn := fun _ => fun
  | [d] => { results := [.lit (.bool false)], args := [d] }
  | _ => none }
def ValidatorSafeWrongFalsely : Prop := validatorSafeRow.holds Tryz.pinned (OpenSpec.ofChange validatorSafeWrong)

/-- 'quaysidelaw10.ValidatorRanges': WHATEVER THE INPUT: true; the input reads as it did. -/
def validatorRangesSpec : ChangeSpec := { name := "validatorRanges", fn := fun _ => fun
  | [d1, d2] => { results := [.lit (.bool true)], args := [d1, d2] }
  | _ => none }
def validatorRangesRow : OpenClaim := { program := "ytkpeaghbacoehaagreatdoor", sum := "a06830ee2b6e24b198a2b12925215e46c3ce987f2d044775290aee48b0606216", func := "quayside/quaysidelaw10.ValidatorRanges", spec := "validatorRanges", inPlace := ["internal/bytealg.IndexByteString", "internal/bytealg.IndexString", "internal/abi.NoEscape", "internal/bytealg.MakeNoZero"], unfollowed := true, recurses := true, named := ["internal/bytealg.MaxLen", "unicode/utf8.first", "unicode/utf8.acceptRanges", "strconv.ErrSyntax", "strconv.ErrRange", "internal/strconv.uint64pow10", "math/bits.deBruijn32tab", "math/bits.deBruijn64tab", "quayside/httpdate.monthNames", "quayside/httpdate.weekdayNames"], apart := false, laid := [("math/bits.deBruijn32tab", laid_math_bits_deBruijn32tab), ("math/bits.deBruijn64tab", laid_math_bits_deBruijn64tab), ("internal/strconv.uint64pow10", laid_internal_strconv_uint64pow10), ("unicode/utf8.acceptRanges", laid_unicode_utf8_acceptRanges), ("strconv.ErrRange", laid_strconv_ErrRange), ("strconv.ErrSyntax", laid_strconv_ErrSyntax), ("quayside/httpdate.weekdayNames", laid_quayside_httpdate_weekdayNames), ("quayside/httpdate.monthNames", laid_quayside_httpdate_monthNames), ("unicode/utf8.first", laid_unicode_utf8_first)] }
def ValidatorRangesSaid : Prop := validatorRangesRow.holds Tryz.pinned (OpenSpec.ofChange validatorRangesSpec)

/-- ITS FALSE NEIGHBOUR: 'it returns false'. Refute it at one input. -/
def validatorRangesWrong : ChangeSpec := { name := "validatorRanges", fn := fun _ => fun
  | [d1, d2] => { results := [.lit (.bool false)], args := [d1, d2] }
  | _ => none }
def ValidatorRangesWrongFalsely : Prop := validatorRangesRow.holds Tryz.pinned (OpenSpec.ofChange validatorRangesWrong)

/- THE SECOND FORM. 'bulk': how many values and letters a reading holds, each counted each time it is reached (what is shared counts as often as it is met; a slice's spare places count too). A statement '..UptoSaid' is the law's where the arguments, and the package variables that the reading takes, are together of bulk at most 1048576: NARROWER than '..Said'. Prove '..Said' where nothing that the law and all that it calls make is longer than what came in: it says more and counts as full. Else prove '..UptoSaid'. A law counts once. -/
mutual
def uptoBulk {H : Type} : DataW H → Nat
  | .lit (.string bytes) => bytes.length + 1
  | .lit _ => 1
  | .nil => 1
  | .ptr d => uptoBulk d + 1
  | .slice elems spare => uptoBulkAll elems + uptoBulkAll spare + 1
  | .agg parts => uptoBulkAll parts + 1
  | .iface _ d => uptoBulk d + 1
  | .map entries => uptoBulkEntries entries + 1
  | .held _ => 1
def uptoBulkAll {H : Type} : List (DataW H) → Nat
  | [] => 0
  | d :: r => uptoBulk d + uptoBulkAll r
def uptoBulkEntries {H : Type} : List (Lit × DataW H) → Nat
  | [] => 0
  | x :: r => uptoBulkEntry x + uptoBulkEntries r
def uptoBulkEntry {H : Type} : Lit × DataW H → Nat
  | (.string bytes, d) => bytes.length + uptoBulk d + 1
  | (_, d) => uptoBulk d + 1
 end
def uptoSmall : (H : Type) → List (DataW H) → Bool := fun _ ds => decide (uptoBulkAll ds ≤ 1048576)
def OpenSpec.upto (s : _root_.Go.ChangeSpec) : _root_.Go.OpenSpec := { _root_.Go.OpenSpec.ofChange s with cond := some uptoSmall }

/-- 'quaysidelaw10.ValidatorTags', WHERE WHAT IT READS IS OF BULK AT MOST 1048576: true; the input reads as it did. -/
def validatorTagsUptoRow : OpenClaim := { program := "ytkpeaghbacoehaagreatdoor", sum := "a06830ee2b6e24b198a2b12925215e46c3ce987f2d044775290aee48b0606216", func := "quayside/quaysidelaw10.ValidatorTags", spec := "validatorTags", inPlace := ["internal/bytealg.IndexByteString", "internal/bytealg.IndexString", "internal/abi.NoEscape", "internal/bytealg.MakeNoZero"], unfollowed := true, recurses := true, named := ["internal/bytealg.MaxLen", "unicode/utf8.first", "unicode/utf8.acceptRanges", "strconv.ErrSyntax", "strconv.ErrRange", "internal/strconv.uint64pow10", "math/bits.deBruijn32tab", "math/bits.deBruijn64tab", "quayside/httpdate.monthNames", "quayside/httpdate.weekdayNames"], apart := false, laid := [("math/bits.deBruijn32tab", laid_math_bits_deBruijn32tab), ("math/bits.deBruijn64tab", laid_math_bits_deBruijn64tab), ("internal/strconv.uint64pow10", laid_internal_strconv_uint64pow10), ("unicode/utf8.acceptRanges", laid_unicode_utf8_acceptRanges), ("strconv.ErrRange", laid_strconv_ErrRange), ("strconv.ErrSyntax", laid_strconv_ErrSyntax), ("quayside/httpdate.weekdayNames", laid_quayside_httpdate_weekdayNames), ("quayside/httpdate.monthNames", laid_quayside_httpdate_monthNames), ("unicode/utf8.first", laid_unicode_utf8_first)], narrowed := true }
def ValidatorTagsUptoSaid : Prop := validatorTagsUptoRow.holds Tryz.pinned (OpenSpec.upto validatorTagsSpec)

/-- 'quaysidelaw10.ValidatorReads', WHERE WHAT IT READS IS OF BULK AT MOST 1048576: true; the input reads as it did. -/
def validatorReadsUptoRow : OpenClaim := { program := "ytkpeaghbacoehaagreatdoor", sum := "a06830ee2b6e24b198a2b12925215e46c3ce987f2d044775290aee48b0606216", func := "quayside/quaysidelaw10.ValidatorReads", spec := "validatorReads", inPlace := ["internal/bytealg.IndexByteString", "internal/bytealg.IndexString", "internal/abi.NoEscape", "internal/bytealg.MakeNoZero"], unfollowed := true, recurses := true, named := ["internal/bytealg.MaxLen", "unicode/utf8.first", "unicode/utf8.acceptRanges", "strconv.ErrSyntax", "strconv.ErrRange", "internal/strconv.uint64pow10", "math/bits.deBruijn32tab", "math/bits.deBruijn64tab", "quayside/httpdate.monthNames", "quayside/httpdate.weekdayNames"], apart := false, laid := [("math/bits.deBruijn32tab", laid_math_bits_deBruijn32tab), ("math/bits.deBruijn64tab", laid_math_bits_deBruijn64tab), ("internal/strconv.uint64pow10", laid_internal_strconv_uint64pow10), ("unicode/utf8.acceptRanges", laid_unicode_utf8_acceptRanges), ("strconv.ErrRange", laid_strconv_ErrRange), ("strconv.ErrSyntax", laid_strconv_ErrSyntax), ("quayside/httpdate.weekdayNames", laid_quayside_httpdate_weekdayNames), ("quayside/httpdate.monthNames", laid_quayside_httpdate_monthNames), ("unicode/utf8.first", laid_unicode_utf8_first)], narrowed := true }
def ValidatorReadsUptoSaid : Prop := validatorReadsUptoRow.holds Tryz.pinned (OpenSpec.upto validatorReadsSpec)

/-- 'quaysidelaw10.ValidatorLists', WHERE WHAT IT READS IS OF BULK AT MOST 1048576: true; the input reads as it did. -/
def validatorListsUptoRow : OpenClaim := { program := "ytkpeaghbacoehaagreatdoor", sum := "a06830ee2b6e24b198a2b12925215e46c3ce987f2d044775290aee48b0606216", func := "quayside/quaysidelaw10.ValidatorLists", spec := "validatorLists", inPlace := ["internal/bytealg.IndexByteString", "internal/bytealg.IndexString", "internal/abi.NoEscape", "internal/bytealg.MakeNoZero"], unfollowed := true, recurses := true, named := ["internal/bytealg.MaxLen", "unicode/utf8.first", "unicode/utf8.acceptRanges", "strconv.ErrSyntax", "strconv.ErrRange", "internal/strconv.uint64pow10", "math/bits.deBruijn32tab", "math/bits.deBruijn64tab", "quayside/httpdate.monthNames", "quayside/httpdate.weekdayNames"], apart := false, laid := [("math/bits.deBruijn32tab", laid_math_bits_deBruijn32tab), ("math/bits.deBruijn64tab", laid_math_bits_deBruijn64tab), ("internal/strconv.uint64pow10", laid_internal_strconv_uint64pow10), ("unicode/utf8.acceptRanges", laid_unicode_utf8_acceptRanges), ("strconv.ErrRange", laid_strconv_ErrRange), ("strconv.ErrSyntax", laid_strconv_ErrSyntax), ("quayside/httpdate.weekdayNames", laid_quayside_httpdate_weekdayNames), ("quayside/httpdate.monthNames", laid_quayside_httpdate_monthNames), ("unicode/utf8.first", laid_unicode_utf8_first)], narrowed := true }
def ValidatorListsUptoSaid : Prop := validatorListsUptoRow.holds Tryz.pinned (OpenSpec.upto validatorListsSpec)

/-- 'quaysidelaw10.ValidatorCompares', WHERE WHAT IT READS IS OF BULK AT MOST 1048576: true; the input reads as it did. -/
def validatorComparesUptoRow : OpenClaim := { program := "ytkpeaghbacoehaagreatdoor", sum := "a06830ee2b6e24b198a2b12925215e46c3ce987f2d044775290aee48b0606216", func := "quayside/quaysidelaw10.ValidatorCompares", spec := "validatorCompares", inPlace := ["internal/bytealg.IndexByteString", "internal/bytealg.IndexString", "internal/abi.NoEscape", "internal/bytealg.MakeNoZero"], unfollowed := true, recurses := true, named := ["internal/bytealg.MaxLen", "unicode/utf8.first", "unicode/utf8.acceptRanges", "strconv.ErrSyntax", "strconv.ErrRange", "internal/strconv.uint64pow10", "math/bits.deBruijn32tab", "math/bits.deBruijn64tab", "quayside/httpdate.monthNames", "quayside/httpdate.weekdayNames"], apart := false, laid := [("math/bits.deBruijn32tab", laid_math_bits_deBruijn32tab), ("math/bits.deBruijn64tab", laid_math_bits_deBruijn64tab), ("internal/strconv.uint64pow10", laid_internal_strconv_uint64pow10), ("unicode/utf8.acceptRanges", laid_unicode_utf8_acceptRanges), ("strconv.ErrRange", laid_strconv_ErrRange), ("strconv.ErrSyntax", laid_strconv_ErrSyntax), ("quayside/httpdate.weekdayNames", laid_quayside_httpdate_weekdayNames), ("quayside/httpdate.monthNames", laid_quayside_httpdate_monthNames), ("unicode/utf8.first", laid_unicode_utf8_first)], narrowed := true }
def ValidatorComparesUptoSaid : Prop := validatorComparesUptoRow.holds Tryz.pinned (OpenSpec.upto validatorComparesSpec)

/-- 'quaysidelaw10.ValidatorEvaluates', WHERE WHAT IT READS IS OF BULK AT MOST 1048576: true; the input reads as it did. -/
def validatorEvaluatesUptoRow : OpenClaim := { program := "ytkpeaghbacoehaagreatdoor", sum := "a06830ee2b6e24b198a2b12925215e46c3ce987f2d044775290aee48b0606216", func := "quayside/quaysidelaw10.ValidatorEvaluates", spec := "validatorEvaluates", inPlace := ["internal/bytealg.IndexByteString", "internal/bytealg.IndexString", "internal/abi.NoEscape", "internal/bytealg.MakeNoZero"], unfollowed := true, recurses := true, named := ["internal/bytealg.MaxLen", "unicode/utf8.first", "unicode/utf8.acceptRanges", "strconv.ErrSyntax", "strconv.ErrRange", "internal/strconv.uint64pow10", "math/bits.deBruijn32tab", "math/bits.deBruijn64tab", "quayside/httpdate.monthNames", "quayside/httpdate.weekdayNames"], apart := false, laid := [("math/bits.deBruijn32tab", laid_math_bits_deBruijn32tab), ("math/bits.deBruijn64tab", laid_math_bits_deBruijn64tab), ("internal/strconv.uint64pow10", laid_internal_strconv_uint64pow10), ("unicode/utf8.acceptRanges", laid_unicode_utf8_acceptRanges), ("strconv.ErrRange", laid_strconv_ErrRange), ("strconv.ErrSyntax", laid_strconv_ErrSyntax), ("quayside/httpdate.weekdayNames", laid_quayside_httpdate_weekdayNames), ("quayside/httpdate.monthNames", laid_quayside_httpdate_monthNames), ("unicode/utf8.first", laid_unicode_utf8_first)], narrowed := true }
def ValidatorEvaluatesUptoSaid : Prop := validatorEvaluatesUptoRow.holds Tryz.pinned (OpenSpec.upto validatorEvaluatesSpec)

/-- 'quaysidelaw10.ValidatorPrecedence', WHERE WHAT IT READS IS OF BULK AT MOST 1048576: true; the input reads as it did. -/
def validatorPrecedenceUptoRow : OpenClaim := { program := "ytkpeaghbacoehaagreatdoor", sum := "a06830ee2b6e24b198a2b12925215e46c3ce987f2d044775290aee48b0606216", func := "quayside/quaysidelaw10.ValidatorPrecedence", spec := "validatorPrecedence", inPlace := ["internal/bytealg.IndexByteString", "internal/bytealg.IndexString", "internal/abi.NoEscape", "internal/bytealg.MakeNoZero"], unfollowed := true, recurses := true, named := ["internal/bytealg.MaxLen", "unicode/utf8.first", "unicode/utf8.acceptRanges", "strconv.ErrSyntax", "strconv.ErrRange", "internal/strconv.uint64pow10", "math/bits.deBruijn32tab", "math/bits.deBruijn64tab", "quayside/httpdate.monthNames", "quayside/httpdate.weekdayNames"], apart := false, laid := [("math/bits.deBruijn32tab", laid_math_bits_deBruijn32tab), ("math/bits.deBruijn64tab", laid_math_bits_deBruijn64tab), ("internal/strconv.uint64pow10", laid_internal_strconv_uint64pow10), ("unicode/utf8.acceptRanges", laid_unicode_utf8_acceptRanges), ("strconv.ErrRange", laid_strconv_ErrRange), ("strconv.ErrSyntax", laid_strconv_ErrSyntax), ("quayside/httpdate.weekdayNames", laid_quayside_httpdate_weekdayNames), ("quayside/httpdate.monthNames", laid_quayside_httpdate_monthNames), ("unicode/utf8.first", laid_unicode_utf8_first)], narrowed := true }
def ValidatorPrecedenceUptoSaid : Prop := validatorPrecedenceUptoRow.holds Tryz.pinned (OpenSpec.upto validatorPrecedenceSpec)

/-- 'quaysidelaw10.ValidatorSafe', WHERE WHAT IT READS IS OF BULK AT MOST 1048576: true; the input reads as it did. -/
def validatorSafeUptoRow : OpenClaim := { program := "ytkpeaghbacoehaagreatdoor", sum := "a06830ee2b6e24b198a2b12925215e46c3ce987f2d044775290aee48b0606216", func := "quayside/quaysidelaw10.ValidatorSafe", spec := "validatorSafe", inPlace := ["internal/bytealg.IndexByteString", "internal/bytealg.IndexString", "internal/abi.NoEscape", "internal/bytealg.MakeNoZero"], unfollowed := true, recurses := true, named := ["internal/bytealg.MaxLen", "unicode/utf8.first", "unicode/utf8.acceptRanges", "strconv.ErrSyntax", "strconv.ErrRange", "internal/strconv.uint64pow10", "math/bits.deBruijn32tab", "math/bits.deBruijn64tab", "quayside/httpdate.monthNames", "quayside/httpdate.weekdayNames"], apart := false, laid := [("math/bits.deBruijn32tab", laid_math_bits_deBruijn32tab), ("math/bits.deBruijn64tab", laid_math_bits_deBruijn64tab), ("internal/strconv.uint64pow10", laid_internal_strconv_uint64pow10), ("unicode/utf8.acceptRanges", laid_unicode_utf8_acceptRanges), ("strconv.ErrRange", laid_strconv_ErrRange), ("strconv.ErrSyntax", laid_strconv_ErrSyntax), ("quayside/httpdate.weekdayNames", laid_quayside_httpdate_weekdayNames), ("quayside/httpdate.monthNames", laid_quayside_httpdate_monthNames), ("unicode/utf8.first", laid_unicode_utf8_first)], narrowed := true }
def ValidatorSafeUptoSaid : Prop := validatorSafeUptoRow.holds Tryz.pinned (OpenSpec.upto validatorSafeSpec)

/-- 'quaysidelaw10.ValidatorRanges', WHERE WHAT IT READS IS OF BULK AT MOST 1048576: true; the input reads as it did. -/
def validatorRangesUptoRow : OpenClaim := { program := "ytkpeaghbacoehaagreatdoor", sum := "a06830ee2b6e24b198a2b12925215e46c3ce987f2d044775290aee48b0606216", func := "quayside/quaysidelaw10.ValidatorRanges", spec := "validatorRanges", inPlace := ["internal/bytealg.IndexByteString", "internal/bytealg.IndexString", "internal/abi.NoEscape", "internal/bytealg.MakeNoZero"], unfollowed := true, recurses := true, named := ["internal/bytealg.MaxLen", "unicode/utf8.first", "unicode/utf8.acceptRanges", "strconv.ErrSyntax", "strconv.ErrRange", "internal/strconv.uint64pow10", "math/bits.deBruijn32tab", "math/bits.deBruijn64tab", "quayside/httpdate.monthNames", "quayside/httpdate.weekdayNames"], apart := false, laid := [("math/bits.deBruijn32tab", laid_math_bits_deBruijn32tab), ("math/bits.deBruijn64tab", laid_math_bits_deBruijn64tab), ("internal/strconv.uint64pow10", laid_internal_strconv_uint64pow10), ("unicode/utf8.acceptRanges", laid_unicode_utf8_acceptRanges), ("strconv.ErrRange", laid_strconv_ErrRange), ("strconv.ErrSyntax", laid_strconv_ErrSyntax), ("quayside/httpdate.weekdayNames", laid_quayside_httpdate_weekdayNames), ("quayside/httpdate.monthNames", laid_quayside_httpdate_monthNames), ("unicode/utf8.first", laid_unicode_utf8_first)], narrowed := true }
def ValidatorRangesUptoSaid : Prop := validatorRangesUptoRow.holds Tryz.pinned (OpenSpec.upto validatorRangesSpec)

end Rows
end Go.Proofs.YtkpeaghbacoehaaGreatDoor
