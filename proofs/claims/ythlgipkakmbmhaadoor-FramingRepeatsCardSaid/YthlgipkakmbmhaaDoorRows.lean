/-
  NARROWER THAN 'FOR EVERY INPUT', by the rows' own cells (each row's printed sentence says how): HeadAnswers: laid · FramingRequests: laid · FramingResponses: laid · FramingLenient: laid · FramingAgrees: laid · FramingSmuggles: laid · FramingBodiless: laid · FramingRepeats: laid · FramingNames: laid.
  DERIVED. THE GIVEN ROWS OF THIS SEAT. 9 by the template 'for every input the law returns true; each argument reads behind the call as it read before'; 0 by the template 'total and deterministic' (their statements: YthlgipkakmbmhaaDoorTotals.lean).
  GIVEN WITH THE SEED: the statements are not yours to turn. If you find one false, say at which input.
  Laid BY PROGRAM, IN A SANDBOX (cutbox-rows.mjs): the forced cells as the released guide's own fill.sh prints them over the translation 08683da91aa87982… (all of the seat's roots in one cut). By AI agents, Wed Nov 11 2026. No macro, syntax, notation, axiom, sorry.
-/
import Derived.Test.YthlgipkakmbmhaaDoorChecked
import GoSem.PinnedTables
import GoSem.Claim
import GoSem.ClaimJoined
import GoSem.ClaimMapViews
import Derived.JoinedTies
import Derived.KernelRfl
namespace Go.Proofs.YthlgipkakmbmhaaDoor
/- THE CELL 'sum', in the pinned program and in every row, IS THE sha256 OF THE DUMP (.gsa) THAT YthlgipkakmbmhaaDoorProg.lean LOADS. Nothing in Lean hashes anything: it is a label: what it is worth is what the hold of that sum in a sandbox is worth. -/
noncomputable def Tryd.pinned : Pinned := { name := "ythlgipkakmbmhaadoor", sum := "08683da91aa87982ff69dda4e2334c2168ff8bc15c31f5be8a2c136710f0e6f1", checked := Tryd.checked }
namespace Rows
def none {H : Type} : Left H := { results := [], args := [] }

/- WHAT THE LISTED PACKAGE-LEVEL VARIABLES READ AS WHEN THE CALL BEGINS. Each datum BY PROGRAM (the guide's laid-datum.mjs) off the statement by which the dump's own 'gosem.cut.vars' lays the variable. In a bare row this is a premise. The card (YthlgipkakmbmhaaDoorCards.lean) ties it to the program's text. -/
def laid_math_bits_deBruijn32tab {H : Type} : DataW H := .agg [.lit (.int .u8 0), .lit (.int .u8 1), .lit (.int .u8 28), .lit (.int .u8 2), .lit (.int .u8 29), .lit (.int .u8 14), .lit (.int .u8 24), .lit (.int .u8 3), .lit (.int .u8 30), .lit (.int .u8 22), .lit (.int .u8 20), .lit (.int .u8 15), .lit (.int .u8 25), .lit (.int .u8 17), .lit (.int .u8 4), .lit (.int .u8 8), .lit (.int .u8 31), .lit (.int .u8 27), .lit (.int .u8 13), .lit (.int .u8 23), .lit (.int .u8 21), .lit (.int .u8 19), .lit (.int .u8 16), .lit (.int .u8 7), .lit (.int .u8 26), .lit (.int .u8 12), .lit (.int .u8 18), .lit (.int .u8 6), .lit (.int .u8 11), .lit (.int .u8 5), .lit (.int .u8 10), .lit (.int .u8 9)]
def laid_math_bits_deBruijn64tab {H : Type} : DataW H := .agg [.lit (.int .u8 0), .lit (.int .u8 1), .lit (.int .u8 56), .lit (.int .u8 2), .lit (.int .u8 57), .lit (.int .u8 49), .lit (.int .u8 28), .lit (.int .u8 3), .lit (.int .u8 61), .lit (.int .u8 58), .lit (.int .u8 42), .lit (.int .u8 50), .lit (.int .u8 38), .lit (.int .u8 29), .lit (.int .u8 17), .lit (.int .u8 4), .lit (.int .u8 62), .lit (.int .u8 47), .lit (.int .u8 59), .lit (.int .u8 36), .lit (.int .u8 45), .lit (.int .u8 43), .lit (.int .u8 51), .lit (.int .u8 22), .lit (.int .u8 53), .lit (.int .u8 39), .lit (.int .u8 33), .lit (.int .u8 30), .lit (.int .u8 24), .lit (.int .u8 18), .lit (.int .u8 12), .lit (.int .u8 5), .lit (.int .u8 63), .lit (.int .u8 55), .lit (.int .u8 48), .lit (.int .u8 27), .lit (.int .u8 60), .lit (.int .u8 41), .lit (.int .u8 37), .lit (.int .u8 16), .lit (.int .u8 46), .lit (.int .u8 35), .lit (.int .u8 44), .lit (.int .u8 21), .lit (.int .u8 52), .lit (.int .u8 32), .lit (.int .u8 23), .lit (.int .u8 11), .lit (.int .u8 54), .lit (.int .u8 26), .lit (.int .u8 40), .lit (.int .u8 15), .lit (.int .u8 34), .lit (.int .u8 20), .lit (.int .u8 31), .lit (.int .u8 10), .lit (.int .u8 25), .lit (.int .u8 14), .lit (.int .u8 19), .lit (.int .u8 9), .lit (.int .u8 13), .lit (.int .u8 8), .lit (.int .u8 7), .lit (.int .u8 6)]
def laid_internal_strconv_uint64pow10 {H : Type} : DataW H := .agg [.lit (.int .u64 1), .lit (.int .u64 10), .lit (.int .u64 100), .lit (.int .u64 1000), .lit (.int .u64 10000), .lit (.int .u64 100000), .lit (.int .u64 1000000), .lit (.int .u64 10000000), .lit (.int .u64 100000000), .lit (.int .u64 1000000000), .lit (.int .u64 10000000000), .lit (.int .u64 100000000000), .lit (.int .u64 1000000000000), .lit (.int .u64 10000000000000), .lit (.int .u64 100000000000000), .lit (.int .u64 1000000000000000), .lit (.int .u64 10000000000000000), .lit (.int .u64 100000000000000000), .lit (.int .u64 1000000000000000000), .lit (.int .u64 10000000000000000000)]
def laid_unicode_utf8_acceptRanges {H : Type} : DataW H := .agg [.agg [.lit (.int .u8 128), .lit (.int .u8 191)], .agg [.lit (.int .u8 160), .lit (.int .u8 191)], .agg [.lit (.int .u8 128), .lit (.int .u8 159)], .agg [.lit (.int .u8 144), .lit (.int .u8 191)], .agg [.lit (.int .u8 128), .lit (.int .u8 143)], .agg [.lit (.int .u8 0), .lit (.int .u8 0)], .agg [.lit (.int .u8 0), .lit (.int .u8 0)], .agg [.lit (.int .u8 0), .lit (.int .u8 0)], .agg [.lit (.int .u8 0), .lit (.int .u8 0)], .agg [.lit (.int .u8 0), .lit (.int .u8 0)], .agg [.lit (.int .u8 0), .lit (.int .u8 0)], .agg [.lit (.int .u8 0), .lit (.int .u8 0)], .agg [.lit (.int .u8 0), .lit (.int .u8 0)], .agg [.lit (.int .u8 0), .lit (.int .u8 0)], .agg [.lit (.int .u8 0), .lit (.int .u8 0)], .agg [.lit (.int .u8 0), .lit (.int .u8 0)]]
def laid_bytes_ErrTooLarge {H : Type} : DataW H := .iface "*errors.errorString" (.ptr (.agg [.lit (.string [98, 121, 116, 101, 115, 46, 66, 117, 102, 102, 101, 114, 58, 32, 116, 111, 111, 32, 108, 97, 114, 103, 101])]))
/-- One of Go's own tables, pinned by name: the form's constant. -/
def laid_unicode_utf8_first : DataW Unit := Go.Pinned.utf8First

/-- 'quaysidelaw05.HeadAnswers': WHATEVER THE INPUT: true; the input reads as it did. -/
def headAnswersSpec : ChangeSpec := { name := "headAnswers", fn := fun _ => fun
  | [d] => { results := [.lit (.bool true)], args := [d] }
  | _ => none }
def headAnswersRow : OpenClaim := { program := "ythlgipkakmbmhaadoor", sum := "08683da91aa87982ff69dda4e2334c2168ff8bc15c31f5be8a2c136710f0e6f1", func := "quayside/quaysidelaw05.HeadAnswers", spec := "headAnswers", inPlace := ["internal/bytealg.IndexByteString", "internal/bytealg.IndexString"], named := ["unicode/utf8.first", "unicode/utf8.acceptRanges", "internal/strconv.uint64pow10", "math/bits.deBruijn32tab", "math/bits.deBruijn64tab", "bytes.ErrTooLarge", "internal/bytealg.MaxLen"], apart := false, laid := [("math/bits.deBruijn32tab", laid_math_bits_deBruijn32tab), ("math/bits.deBruijn64tab", laid_math_bits_deBruijn64tab), ("internal/strconv.uint64pow10", laid_internal_strconv_uint64pow10), ("unicode/utf8.acceptRanges", laid_unicode_utf8_acceptRanges), ("bytes.ErrTooLarge", laid_bytes_ErrTooLarge), ("unicode/utf8.first", laid_unicode_utf8_first)] }
def HeadAnswersSaid : Prop := headAnswersRow.holds Tryd.pinned (OpenSpec.ofChange headAnswersSpec)

/-- ITS FALSE NEIGHBOUR: 'it returns false'. Refute it at one input. -/
def headAnswersWrong : ChangeSpec := { name := "headAnswers", fn := fun _ => fun
  | [d] => { results := [.lit (.bool false)], args := [d] }
  | _ => none }
def HeadAnswersWrongFalsely : Prop := headAnswersRow.holds Tryd.pinned (OpenSpec.ofChange headAnswersWrong)

/-- 'quaysidelaw06.FramingRequests': WHATEVER THE INPUT: true; the input reads as it did. -/
def framingRequestsSpec : ChangeSpec := { name := "framingRequests", fn := fun _ => fun
  | [d] => { results := [.lit (.bool true)], args := [d] }
  | _ => none }
def framingRequestsRow : OpenClaim := { program := "ythlgipkakmbmhaadoor", sum := "08683da91aa87982ff69dda4e2334c2168ff8bc15c31f5be8a2c136710f0e6f1", func := "quayside/quaysidelaw06.FramingRequests", spec := "framingRequests", inPlace := ["internal/bytealg.IndexByteString", "internal/bytealg.IndexString"], named := ["unicode/utf8.first", "unicode/utf8.acceptRanges", "internal/bytealg.MaxLen"], apart := false, laid := [("unicode/utf8.acceptRanges", laid_unicode_utf8_acceptRanges), ("unicode/utf8.first", laid_unicode_utf8_first)] }
def FramingRequestsSaid : Prop := framingRequestsRow.holds Tryd.pinned (OpenSpec.ofChange framingRequestsSpec)

/-- ITS FALSE NEIGHBOUR: 'it returns false'. Refute it at one input. -/
def framingRequestsWrong : ChangeSpec := { name := "framingRequests", fn := fun _ => fun
  | [d] => { results := [.lit (.bool false)], args := [d] }
  | _ => none }
def FramingRequestsWrongFalsely : Prop := framingRequestsRow.holds Tryd.pinned (OpenSpec.ofChange framingRequestsWrong)

/-- 'quaysidelaw06.FramingResponses': WHATEVER THE INPUT: true; the input reads as it did. -/
def framingResponsesSpec : ChangeSpec := { name := "framingResponses", fn := fun _ => fun
  | [d1, d2] => { results := [.lit (.bool true)], args := [d1, d2] }
  | _ => none }
def framingResponsesRow : OpenClaim := { program := "ythlgipkakmbmhaadoor", sum := "08683da91aa87982ff69dda4e2334c2168ff8bc15c31f5be8a2c136710f0e6f1", func := "quayside/quaysidelaw06.FramingResponses", spec := "framingResponses", inPlace := ["internal/bytealg.IndexByteString", "internal/bytealg.IndexString"], named := ["unicode/utf8.first", "unicode/utf8.acceptRanges", "internal/bytealg.MaxLen"], apart := false, laid := [("unicode/utf8.acceptRanges", laid_unicode_utf8_acceptRanges), ("unicode/utf8.first", laid_unicode_utf8_first)] }
def FramingResponsesSaid : Prop := framingResponsesRow.holds Tryd.pinned (OpenSpec.ofChange framingResponsesSpec)

/-- ITS FALSE NEIGHBOUR: 'it returns false'. Refute it at one input. -/
def framingResponsesWrong : ChangeSpec := { name := "framingResponses", fn := fun _ => fun
  | [d1, d2] => { results := [.lit (.bool false)], args := [d1, d2] }
  | _ => none }
def FramingResponsesWrongFalsely : Prop := framingResponsesRow.holds Tryd.pinned (OpenSpec.ofChange framingResponsesWrong)

/-- 'quaysidelaw06.FramingLenient': WHATEVER THE INPUT: true; the input reads as it did. -/
def framingLenientSpec : ChangeSpec := { name := "framingLenient", fn := fun _ => fun
  | [d] => { results := [.lit (.bool true)], args := [d] }
  | _ => none }
def framingLenientRow : OpenClaim := { program := "ythlgipkakmbmhaadoor", sum := "08683da91aa87982ff69dda4e2334c2168ff8bc15c31f5be8a2c136710f0e6f1", func := "quayside/quaysidelaw06.FramingLenient", spec := "framingLenient", inPlace := ["internal/bytealg.IndexByteString", "internal/bytealg.IndexString", "internal/bytealg.CountString"], named := ["unicode/utf8.first", "unicode/utf8.acceptRanges", "internal/bytealg.MaxLen"], apart := false, laid := [("unicode/utf8.acceptRanges", laid_unicode_utf8_acceptRanges), ("unicode/utf8.first", laid_unicode_utf8_first)] }
def FramingLenientSaid : Prop := framingLenientRow.holds Tryd.pinned (OpenSpec.ofChange framingLenientSpec)

/-- ITS FALSE NEIGHBOUR: 'it returns false'. Refute it at one input. -/
def framingLenientWrong : ChangeSpec := { name := "framingLenient", fn := fun _ => fun
  | [d] => { results := [.lit (.bool false)], args := [d] }
  | _ => none }
def FramingLenientWrongFalsely : Prop := framingLenientRow.holds Tryd.pinned (OpenSpec.ofChange framingLenientWrong)

/-- 'quaysidelaw06.FramingAgrees': WHATEVER THE INPUT: true; the input reads as it did. -/
def framingAgreesSpec : ChangeSpec := { name := "framingAgrees", fn := fun _ => fun
  | [d] => { results := [.lit (.bool true)], args := [d] }
  | _ => none }
def framingAgreesRow : OpenClaim := { program := "ythlgipkakmbmhaadoor", sum := "08683da91aa87982ff69dda4e2334c2168ff8bc15c31f5be8a2c136710f0e6f1", func := "quayside/quaysidelaw06.FramingAgrees", spec := "framingAgrees", inPlace := ["internal/bytealg.IndexByteString", "internal/bytealg.IndexString", "internal/bytealg.CountString"], named := ["unicode/utf8.first", "unicode/utf8.acceptRanges", "internal/bytealg.MaxLen"], apart := false, laid := [("unicode/utf8.acceptRanges", laid_unicode_utf8_acceptRanges), ("unicode/utf8.first", laid_unicode_utf8_first)] }
def FramingAgreesSaid : Prop := framingAgreesRow.holds Tryd.pinned (OpenSpec.ofChange framingAgreesSpec)

/-- ITS FALSE NEIGHBOUR: 'it returns false'. Refute it at one input. -/
def framingAgreesWrong : ChangeSpec := { name := "framingAgrees", fn := fun _ => fun
  | [d] => { results := [.lit (.bool false)], args := [d] }
  | _ => none }
def FramingAgreesWrongFalsely : Prop := framingAgreesRow.holds Tryd.pinned (OpenSpec.ofChange framingAgreesWrong)

/-- 'quaysidelaw06.FramingSmuggles': WHATEVER THE INPUT: true; the input reads as it did. -/
def framingSmugglesSpec : ChangeSpec := { name := "framingSmuggles", fn := fun _ => fun
  | [d1, d2, d3] => { results := [.lit (.bool true)], args := [d1, d2, d3] }
  | _ => none }
def framingSmugglesRow : OpenClaim := { program := "ythlgipkakmbmhaadoor", sum := "08683da91aa87982ff69dda4e2334c2168ff8bc15c31f5be8a2c136710f0e6f1", func := "quayside/quaysidelaw06.FramingSmuggles", spec := "framingSmuggles", inPlace := ["internal/bytealg.IndexByteString", "internal/bytealg.IndexString", "internal/bytealg.CountString"], named := ["unicode/utf8.first", "unicode/utf8.acceptRanges", "internal/bytealg.MaxLen"], apart := false, laid := [("unicode/utf8.acceptRanges", laid_unicode_utf8_acceptRanges), ("unicode/utf8.first", laid_unicode_utf8_first)] }
def FramingSmugglesSaid : Prop := framingSmugglesRow.holds Tryd.pinned (OpenSpec.ofChange framingSmugglesSpec)

/-- ITS FALSE NEIGHBOUR: 'it returns false'. Refute it at one input. -/
def framingSmugglesWrong : ChangeSpec := { name := "framingSmuggles", fn := fun _ => fun
  | [d1, d2, d3] => { results := [.lit (.bool false)], args := [d1, d2, d3] }
  | _ => none }
def FramingSmugglesWrongFalsely : Prop := framingSmugglesRow.holds Tryd.pinned (OpenSpec.ofChange framingSmugglesWrong)

/-- 'quaysidelaw06.FramingBodiless': WHATEVER THE INPUT: true; the input reads as it did. -/
def framingBodilessSpec : ChangeSpec := { name := "framingBodiless", fn := fun _ => fun
  | [d1, d2] => { results := [.lit (.bool true)], args := [d1, d2] }
  | _ => none }
def framingBodilessRow : OpenClaim := { program := "ythlgipkakmbmhaadoor", sum := "08683da91aa87982ff69dda4e2334c2168ff8bc15c31f5be8a2c136710f0e6f1", func := "quayside/quaysidelaw06.FramingBodiless", spec := "framingBodiless", inPlace := ["internal/bytealg.IndexByteString", "internal/bytealg.IndexString"], named := ["unicode/utf8.first", "unicode/utf8.acceptRanges", "internal/bytealg.MaxLen"], apart := false, laid := [("unicode/utf8.acceptRanges", laid_unicode_utf8_acceptRanges), ("unicode/utf8.first", laid_unicode_utf8_first)] }
def FramingBodilessSaid : Prop := framingBodilessRow.holds Tryd.pinned (OpenSpec.ofChange framingBodilessSpec)

/-- ITS FALSE NEIGHBOUR: 'it returns false'. Refute it at one input. -/
def framingBodilessWrong : ChangeSpec := { name := "framingBodiless", fn := fun _ => fun
  | [d1, d2] => { results := [.lit (.bool false)], args := [d1, d2] }
  | _ => none }
def FramingBodilessWrongFalsely : Prop := framingBodilessRow.holds Tryd.pinned (OpenSpec.ofChange framingBodilessWrong)

/-- 'quaysidelaw06.FramingRepeats': WHATEVER THE INPUT: true; the input reads as it did. -/
def framingRepeatsSpec : ChangeSpec := { name := "framingRepeats", fn := fun _ => fun
  | [d1, d2, d3] => { results := [.lit (.bool true)], args := [d1, d2, d3] }
  | _ => none }
def framingRepeatsRow : OpenClaim := { program := "ythlgipkakmbmhaadoor", sum := "08683da91aa87982ff69dda4e2334c2168ff8bc15c31f5be8a2c136710f0e6f1", func := "quayside/quaysidelaw06.FramingRepeats", spec := "framingRepeats", inPlace := ["internal/bytealg.IndexByteString", "internal/bytealg.IndexString"], named := ["unicode/utf8.first", "unicode/utf8.acceptRanges", "internal/bytealg.MaxLen"], apart := false, laid := [("unicode/utf8.acceptRanges", laid_unicode_utf8_acceptRanges), ("unicode/utf8.first", laid_unicode_utf8_first)] }
def FramingRepeatsSaid : Prop := framingRepeatsRow.holds Tryd.pinned (OpenSpec.ofChange framingRepeatsSpec)

/-- ITS FALSE NEIGHBOUR: 'it returns false'. Refute it at one input. -/
def framingRepeatsWrong : ChangeSpec := { name := "framingRepeats", fn := fun _ => fun
  | [d1, d2, d3] => { results := [.lit (.bool false)], args := [d1, d2, d3] }
  | _ => none }
def FramingRepeatsWrongFalsely : Prop := framingRepeatsRow.holds Tryd.pinned (OpenSpec.ofChange framingRepeatsWrong)

/-- 'quaysidelaw06.FramingNames': WHATEVER THE INPUT: true; the input reads as it did. -/
def framingNamesSpec : ChangeSpec := { name := "framingNames", fn := fun _ => fun
  | [d] => { results := [.lit (.bool true)], args := [d] }
  | _ => none }
def framingNamesRow : OpenClaim := { program := "ythlgipkakmbmhaadoor", sum := "08683da91aa87982ff69dda4e2334c2168ff8bc15c31f5be8a2c136710f0e6f1", func := "quayside/quaysidelaw06.FramingNames", spec := "framingNames", inPlace := ["internal/bytealg.IndexByteString", "internal/bytealg.IndexString"], named := ["unicode/utf8.first", "unicode/utf8.acceptRanges", "internal/bytealg.MaxLen"], apart := false, laid := [("unicode/utf8.acceptRanges", laid_unicode_utf8_acceptRanges), ("unicode/utf8.first", laid_unicode_utf8_first)] }
def FramingNamesSaid : Prop := framingNamesRow.holds Tryd.pinned (OpenSpec.ofChange framingNamesSpec)

/-- ITS FALSE NEIGHBOUR: 'it returns false'. Refute it at one input. -/
def framingNamesWrong : ChangeSpec := { name := "framingNames", fn := fun _ => fun
  | [d] => { results := [.lit (.bool false)], args := [d] }
  | _ => none }
def FramingNamesWrongFalsely : Prop := framingNamesRow.holds Tryd.pinned (OpenSpec.ofChange framingNamesWrong)

/- THE SECOND FORM. 'bulk': how many values and letters a reading holds, each counted each time it is reached (what is shared counts as often as it is met; a slice's spare places count too). A statement '..UptoSaid' is the law's where the arguments, and the package variables that the reading takes, are together of bulk at most 1048576: NARROWER than '..Said'. Prove '..Said' where nothing that the law and all that it calls make is longer than what came in: it says more and counts as full. Else prove '..UptoSaid'. A law counts once. -/
mutual
def uptoBulk {H : Type} : DataW H → Nat
  | .lit (.string bytes) => bytes.length + 1
  | .lit _ => 1
  | .nil => 1
  | .ptr d => uptoBulk d + 1
  | .slice elems spare => uptoBulkAll elems + uptoBulkAll spare + 1
  | .agg parts => uptoBulkAll parts + 1
  | .iface _ d => uptoBulk d + 1
  | .map entries => uptoBulkEntries entries + 1
  | .held _ => 1
def uptoBulkAll {H : Type} : List (DataW H) → Nat
  | [] => 0
  | d :: r => uptoBulk d + uptoBulkAll r
def uptoBulkEntries {H : Type} : List (Lit × DataW H) → Nat
  | [] => 0
  | x :: r => uptoBulkEntry x + uptoBulkEntries r
def uptoBulkEntry {H : Type} : Lit × DataW H → Nat
  | (.string bytes, d) => bytes.length + uptoBulk d + 1
  | (_, d) => uptoBulk d + 1
 end
def uptoSmall : (H : Type) → List (DataW H) → Bool := fun _ ds => decide (uptoBulkAll ds ≤ 1048576)
def OpenSpec.upto (s : _root_.Go.ChangeSpec) : _root_.Go.OpenSpec := { _root_.Go.OpenSpec.ofChange s with cond := some uptoSmall }

/-- 'quaysidelaw05.HeadAnswers', WHERE WHAT IT READS IS OF BULK AT MOST 1048576: true; the input reads as it did. -/
def headAnswersUptoRow : OpenClaim := { program := "ythlgipkakmbmhaadoor", sum := "08683da91aa87982ff69dda4e2334c2168ff8bc15c31f5be8a2c136710f0e6f1", func := "quayside/quaysidelaw05.HeadAnswers", spec := "headAnswers", inPlace := ["internal/bytealg.IndexByteString", "internal/bytealg.IndexString"], named := ["unicode/utf8.first", "unicode/utf8.acceptRanges", "internal/strconv.uint64pow10", "math/bits.deBruijn32tab", "math/bits.deBruijn64tab", "bytes.ErrTooLarge", "internal/bytealg.MaxLen"], apart := false, laid := [("math/bits.deBruijn32tab", laid_math_bits_deBruijn32tab), ("math/bits.deBruijn64tab", laid_math_bits_deBruijn64tab), ("internal/strconv.uint64pow10", laid_internal_strconv_uint64pow10), ("unicode/utf8.acceptRanges", laid_unicode_utf8_acceptRanges), ("bytes.ErrTooLarge", laid_bytes_ErrTooLarge), ("unicode/utf8.first", laid_unicode_utf8_first)], narrowed := true }
def HeadAnswersUptoSaid : Prop := headAnswersUptoRow.holds Tryd.pinned (OpenSpec.upto headAnswersSpec)

/-- 'quaysidelaw06.FramingRequests', WHERE WHAT IT READS IS OF BULK AT MOST 1048576: true; the input reads as it did. -/
def framingRequestsUptoRow : OpenClaim := { program := "ythlgipkakmbmhaadoor", sum := "08683da91aa87982ff69dda4e2334c2168ff8bc15c31f5be8a2c136710f0e6f1", func := "quayside/quaysidelaw06.FramingRequests", spec := "framingRequests", inPlace := ["internal/bytealg.IndexByteString", "internal/bytealg.IndexString"], named := ["unicode/utf8.first", "unicode/utf8.acceptRanges", "internal/bytealg.MaxLen"], apart := false, laid := [("unicode/utf8.acceptRanges", laid_unicode_utf8_acceptRanges), ("unicode/utf8.first", laid_unicode_utf8_first)], narrowed := true }
def FramingRequestsUptoSaid : Prop := framingRequestsUptoRow.holds Tryd.pinned (OpenSpec.upto framingRequestsSpec)

/-- 'quaysidelaw06.FramingResponses', WHERE WHAT IT READS IS OF BULK AT MOST 1048576: true; the input reads as it did. -/
def framingResponsesUptoRow : OpenClaim := { program := "ythlgipkakmbmhaadoor", sum := "08683da91aa87982ff69dda4e2334c2168ff8bc15c31f5be8a2c136710f0e6f1", func := "quayside/quaysidelaw06.FramingResponses", spec := "framingResponses", inPlace := ["internal/bytealg.IndexByteString", "internal/bytealg.IndexString"], named := ["unicode/utf8.first", "unicode/utf8.acceptRanges", "internal/bytealg.MaxLen"], apart := false, laid := [("unicode/utf8.acceptRanges", laid_unicode_utf8_acceptRanges), ("unicode/utf8.first", laid_unicode_utf8_first)], narrowed := true }
def FramingResponsesUptoSaid : Prop := framingResponsesUptoRow.holds Tryd.pinned (OpenSpec.upto framingResponsesSpec)

/-- 'quaysidelaw06.FramingLenient', WHERE WHAT IT READS IS OF BULK AT MOST 1048576: true; the input reads as it did. -/
def framingLenientUptoRow : OpenClaim := { program := "ythlgipkakmbmhaadoor", sum := "08683da91aa87982ff69dda4e2334c2168ff8bc15c31f5be8a2c136710f0e6f1", func := "quayside/quaysidelaw06.FramingLenient", spec := "framingLenient", inPlace := ["internal/bytealg.IndexByteString", "internal/bytealg.IndexString", "internal/bytealg.CountString"], named := ["unicode/utf8.first", "unicode/utf8.acceptRanges", "internal/bytealg.MaxLen"], apart := false, laid := [("unicode/utf8.acceptRanges", laid_unicode_utf8_acceptRanges), ("unicode/utf8.first", laid_unicode_utf8_first)], narrowed := true }
def FramingLenientUptoSaid : Prop := framingLenientUptoRow.holds Tryd.pinned (OpenSpec.upto framingLenientSpec)

/-- 'quaysidelaw06.FramingAgrees', WHERE WHAT IT READS IS OF BULK AT MOST 1048576: true; the input reads as it did. -/
def framingAgreesUptoRow : OpenClaim := { program := "ythlgipkakmbmhaadoor", sum := "08683da91aa87982ff69dda4e2334c2168ff8bc15c31f5be8a2c136710f0e6f1", func := "quayside/quaysidelaw06.FramingAgrees", spec := "framingAgrees", inPlace := ["internal/bytealg.IndexByteString", "internal/bytealg.IndexString", "internal/bytealg.CountString"], named := ["unicode/utf8.first", "unicode/utf8.acceptRanges", "internal/bytealg.MaxLen"], apart := false, laid := [("unicode/utf8.acceptRanges", laid_unicode_utf8_acceptRanges), ("unicode/utf8.first", laid_unicode_utf8_first)], narrowed := true }
def FramingAgreesUptoSaid : Prop := framingAgreesUptoRow.holds Tryd.pinned (OpenSpec.upto framingAgreesSpec)

/-- 'quaysidelaw06.FramingSmuggles', WHERE WHAT IT READS IS OF BULK AT MOST 1048576: true; the input reads as it did. -/
def framingSmugglesUptoRow : OpenClaim := { program := "ythlgipkakmbmhaadoor", sum := "08683da91aa87982ff69dda4e2334c2168ff8bc15c31f5be8a2c136710f0e6f1", func := "quayside/quaysidelaw06.FramingSmuggles", spec := "framingSmuggles", inPlace := ["internal/bytealg.IndexByteString", "internal/bytealg.IndexString", "internal/bytealg.CountString"], named := ["unicode/utf8.first", "unicode/utf8.acceptRanges", "internal/bytealg.MaxLen"], apart := false, laid := [("unicode/utf8.acceptRanges", laid_unicode_utf8_acceptRanges), ("unicode/utf8.first", laid_unicode_utf8_first)], narrowed := true }
def FramingSmugglesUptoSaid : Prop := framingSmugglesUptoRow.holds Tryd.pinned (OpenSpec.upto framingSmugglesSpec)

/-- 'quaysidelaw06.FramingBodiless', WHERE WHAT IT READS IS OF BULK AT MOST 1048576: true; the input reads as it did. -/
def framingBodilessUptoRow : OpenClaim := { program := "ythlgipkakmbmhaadoor", sum := "08683da91aa87982ff69dda4e2334c2168ff8bc15c31f5be8a2c136710f0e6f1", func := "quayside/quaysidelaw06.FramingBodiless", spec := "framingBodiless", inPlace := ["internal/bytealg.IndexByteString", "internal/bytealg.IndexString"], named := ["unicode/utf8.first", "unicode/utf8.acceptRanges", "internal/bytealg.MaxLen"], apart := false, laid := [("unicode/utf8.acceptRanges", laid_unicode_utf8_acceptRanges), ("unicode/utf8.first", laid_unicode_utf8_first)], narrowed := true }
def FramingBodilessUptoSaid : Prop := framingBodilessUptoRow.holds Tryd.pinned (OpenSpec.upto framingBodilessSpec)

/-- 'quaysidelaw06.FramingRepeats', WHERE WHAT IT READS IS OF BULK AT MOST 1048576: true; the input reads as it did. -/
def framingRepeatsUptoRow : OpenClaim := { program := "ythlgipkakmbmhaadoor", sum := "08683da91aa87982ff69dda4e2334c2168ff8bc15c31f5be8a2c136710f0e6f1", func := "quayside/quaysidelaw06.FramingRepeats", spec := "framingRepeats", inPlace := ["internal/bytealg.IndexByteString", "internal/bytealg.IndexString"], named := ["unicode/utf8.first", "unicode/utf8.acceptRanges", "internal/bytealg.MaxLen"], apart := false, laid := [("unicode/utf8.acceptRanges", laid_unicode_utf8_acceptRanges), ("unicode/utf8.first", laid_unicode_utf8_first)], narrowed := true }
def FramingRepeatsUptoSaid : Prop := framingRepeatsUptoRow.holds Tryd.pinned (OpenSpec.upto framingRepeatsSpec)

/-- 'quaysidelaw06.FramingNames', WHERE WHAT IT READS IS OF BULK AT MOST 1048576: true; the input reads as it did. -/
def framingNamesUptoRow : OpenClaim := { program := "ythlgipkakmbmhaadoor", sum := "08683da91aa87982ff69dda4e2334c2168ff8bc15c31f5be8a2c136710f0e6f1", func := "quayside/quaysidelaw06.FramingNames", spec := "framingNames", inPlace := ["internal/bytealg.IndexByteString", "internal/bytealg.IndexString"], named := ["unicode/utf8.first", "unicode/utf8.acceptRanges", "internal/bytealg.MaxLen"], apart := false, laid := [("unicode/utf8.acceptRanges", laid_unicode_utf8_acceptRanges), ("unicode/utf8.first", laid_unicode_utf8_first)], narrowed := true }
def FramingNamesUptoSaid : Prop := framingNamesUptoRow.holds Tryd.pinned (OpenSpec.upto framingNamesSpec)

end Rows
end Go.Proofs.YthlgipkakmbmhaaDoor
