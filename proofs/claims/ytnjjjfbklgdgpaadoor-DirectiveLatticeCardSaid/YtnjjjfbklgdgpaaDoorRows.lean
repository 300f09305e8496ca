/-
  NARROWER THAN 'FOR EVERY INPUT', by the rows' own cells (each row's printed sentence says how): DirectiveParses: laid · DirectiveFormats: laid · DirectiveReturns: laid · DirectiveJoins: laid · DirectiveCases: laid · DirectiveBroken: laid · DirectiveMerges: laid · DirectiveLattice: laid.
  DERIVED. THE GIVEN ROWS OF THIS SEAT. 8 by the template 'for every input the law returns true; each argument reads behind the call as it read before'; 0 by the template 'total and deterministic' (their statements: YtnjjjfbklgdgpaaDoorTotals.lean).
  GIVEN WITH THE SEED: the statements are not yours to turn. If you find one false, say at which input.
  Laid BY PROGRAM, IN A SANDBOX (cutbox-rows.mjs): the forced cells as the released guide's own fill.sh prints them over the translation 6c81b92b4c8c071b… (all of the seat's roots in one cut). By AI agents, Wed Nov 11 2026. No macro, syntax, notation, axiom, sorry.
-/
import Derived.Test.YtnjjjfbklgdgpaaDoorChecked
import GoSem.PinnedTables
import GoSem.Claim
import GoSem.ClaimJoined
import GoSem.ClaimMapViews
import Derived.JoinedTies
import Derived.KernelRfl
namespace Go.Proofs.YtnjjjfbklgdgpaaDoor
/- THE CELL 'sum', in the pinned program and in every row, IS THE sha256 OF THE DUMP (.gsa) THAT YtnjjjfbklgdgpaaDoorProg.lean LOADS. Nothing in Lean hashes anything: it is a label: what it is worth is what the hold of that sum in a sandbox is worth. -/
noncomputable def Tryd.pinned : Pinned := { name := "ytnjjjfbklgdgpaadoor", sum := "6c81b92b4c8c071b9feb9de8573e7e11b2a9e6e3be8dee5b43317be2029c21da", checked := Tryd.checked }
namespace Rows
def none {H : Type} : Left H := { results := [], args := [] }

/- WHAT THE LISTED PACKAGE-LEVEL VARIABLES READ AS WHEN THE CALL BEGINS. Each datum BY PROGRAM (the guide's laid-datum.mjs) off the statement by which the dump's own 'gosem.cut.vars' lays the variable. In a bare row this is a premise. The card (YtnjjjfbklgdgpaaDoorCards.lean) ties it to the program's text. -/
def laid_unicode_utf8_acceptRanges {H : Type} : DataW H := .agg [.agg [.lit (.int .u8 128), .lit (.int .u8 191)], .agg [.lit (.int .u8 160), .lit (.int .u8 191)], .agg [.lit (.int .u8 128), .lit (.int .u8 159)], .agg [.lit (.int .u8 144), .lit (.int .u8 191)], .agg [.lit (.int .u8 128), .lit (.int .u8 143)], .agg [.lit (.int .u8 0), .lit (.int .u8 0)], .agg [.lit (.int .u8 0), .lit (.int .u8 0)], .agg [.lit (.int .u8 0), .lit (.int .u8 0)], .agg [.lit (.int .u8 0), .lit (.int .u8 0)], .agg [.lit (.int .u8 0), .lit (.int .u8 0)], .agg [.lit (.int .u8 0), .lit (.int .u8 0)], .agg [.lit (.int .u8 0), .lit (.int .u8 0)], .agg [.lit (.int .u8 0), .lit (.int .u8 0)], .agg [.lit (.int .u8 0), .lit (.int .u8 0)], .agg [.lit (.int .u8 0), .lit (.int .u8 0)], .agg [.lit (.int .u8 0), .lit (.int .u8 0)]]
/-- One of Go's own tables, pinned by name: the form's constant. -/
def laid_unicode_utf8_first : DataW Unit := Go.Pinned.utf8First
def laid_math_bits_deBruijn32tab {H : Type} : DataW H := .agg [.lit (.int .u8 0), .lit (.int .u8 1), .lit (.int .u8 28), .lit (.int .u8 2), .lit (.int .u8 29), .lit (.int .u8 14), .lit (.int .u8 24), .lit (.int .u8 3), .lit (.int .u8 30), .lit (.int .u8 22), .lit (.int .u8 20), .lit (.int .u8 15), .lit (.int .u8 25), .lit (.int .u8 17), .lit (.int .u8 4), .lit (.int .u8 8), .lit (.int .u8 31), .lit (.int .u8 27), .lit (.int .u8 13), .lit (.int .u8 23), .lit (.int .u8 21), .lit (.int .u8 19), .lit (.int .u8 16), .lit (.int .u8 7), .lit (.int .u8 26), .lit (.int .u8 12), .lit (.int .u8 18), .lit (.int .u8 6), .lit (.int .u8 11), .lit (.int .u8 5), .lit (.int .u8 10), .lit (.int .u8 9)]
def laid_math_bits_deBruijn64tab {H : Type} : DataW H := .agg [.lit (.int .u8 0), .lit (.int .u8 1), .lit (.int .u8 56), .lit (.int .u8 2), .lit (.int .u8 57), .lit (.int .u8 49), .lit (.int .u8 28), .lit (.int .u8 3), .lit (.int .u8 61), .lit (.int .u8 58), .lit (.int .u8 42), .lit (.int .u8 50), .lit (.int .u8 38), .lit (.int .u8 29), .lit (.int .u8 17), .lit (.int .u8 4), .lit (.int .u8 62), .lit (.int .u8 47), .lit (.int .u8 59), .lit (.int .u8 36), .lit (.int .u8 45), .lit (.int .u8 43), .lit (.int .u8 51), .lit (.int .u8 22), .lit (.int .u8 53), .lit (.int .u8 39), .lit (.int .u8 33), .lit (.int .u8 30), .lit (.int .u8 24), .lit (.int .u8 18), .lit (.int .u8 12), .lit (.int .u8 5), .lit (.int .u8 63), .lit (.int .u8 55), .lit (.int .u8 48), .lit (.int .u8 27), .lit (.int .u8 60), .lit (.int .u8 41), .lit (.int .u8 37), .lit (.int .u8 16), .lit (.int .u8 46), .lit (.int .u8 35), .lit (.int .u8 44), .lit (.int .u8 21), .lit (.int .u8 52), .lit (.int .u8 32), .lit (.int .u8 23), .lit (.int .u8 11), .lit (.int .u8 54), .lit (.int .u8 26), .lit (.int .u8 40), .lit (.int .u8 15), .lit (.int .u8 34), .lit (.int .u8 20), .lit (.int .u8 31), .lit (.int .u8 10), .lit (.int .u8 25), .lit (.int .u8 14), .lit (.int .u8 19), .lit (.int .u8 9), .lit (.int .u8 13), .lit (.int .u8 8), .lit (.int .u8 7), .lit (.int .u8 6)]
def laid_internal_strconv_uint64pow10 {H : Type} : DataW H := .agg [.lit (.int .u64 1), .lit (.int .u64 10), .lit (.int .u64 100), .lit (.int .u64 1000), .lit (.int .u64 10000), .lit (.int .u64 100000), .lit (.int .u64 1000000), .lit (.int .u64 10000000), .lit (.int .u64 100000000), .lit (.int .u64 1000000000), .lit (.int .u64 10000000000), .lit (.int .u64 100000000000), .lit (.int .u64 1000000000000), .lit (.int .u64 10000000000000), .lit (.int .u64 100000000000000), .lit (.int .u64 1000000000000000), .lit (.int .u64 10000000000000000), .lit (.int .u64 100000000000000000), .lit (.int .u64 1000000000000000000), .lit (.int .u64 10000000000000000000)]

/-- 'quaysidelaw11.DirectiveParses': WHATEVER THE INPUT: true; the input reads as it did. -/
def directiveParsesSpec : ChangeSpec := { name := "directiveParses", fn := fun _ => fun
  | [d] => { results := [.lit (.bool true)], args := [d] }
  | _ => none }
def directiveParsesRow : OpenClaim := { program := "ytnjjjfbklgdgpaadoor", sum := "6c81b92b4c8c071b9feb9de8573e7e11b2a9e6e3be8dee5b43317be2029c21da", func := "quayside/quaysidelaw11.DirectiveParses", spec := "directiveParses", inPlace := ["internal/bytealg.IndexByteString", "internal/bytealg.IndexString", "internal/abi.NoEscape"], named := ["unicode/utf8.first", "unicode/utf8.acceptRanges", "internal/bytealg.MaxLen"], apart := false, laid := [("unicode/utf8.acceptRanges", laid_unicode_utf8_acceptRanges), ("unicode/utf8.first", laid_unicode_utf8_first)] }
def DirectiveParsesSaid : Prop := directiveParsesRow.holds Tryd.pinned (OpenSpec.ofChange directiveParsesSpec)

/-- ITS FALSE NEIGHBOUR: 'it returns false'. Refute it at one input. -/
def directiveParsesWrong : ChangeSpec := { name := "directiveParses", fn := fun _ => fun
  | [d] => { results := [.lit (.bool false)], args := [d] }
  | _ => none }
def DirectiveParsesWrongFalsely : Prop := directiveParsesRow.holds Tryd.pinned (OpenSpec.ofChange directiveParsesWrong)

/-- 'quaysidelaw11.DirectiveFormats': WHATEVER THE INPUT: true; the input reads as it did. -/
def directiveFormatsSpec : ChangeSpec := { name := "directiveFormats", fn := fun _ => fun
  | [d] => { results := [.lit (.bool true)], args := [d] }
  | _ => none }
def directiveFormatsRow : OpenClaim := { program := "ytnjjjfbklgdgpaadoor", sum := "6c81b92b4c8c071b9feb9de8573e7e11b2a9e6e3be8dee5b43317be2029c21da", func := "quayside/quaysidelaw11.DirectiveFormats", spec := "directiveFormats", inPlace := ["internal/bytealg.IndexByteString", "internal/bytealg.IndexString", "internal/abi.NoEscape", "internal/bytealg.MakeNoZero"], named := ["unicode/utf8.first", "unicode/utf8.acceptRanges", "internal/bytealg.MaxLen", "internal/strconv.uint64pow10", "math/bits.deBruijn32tab", "math/bits.deBruijn64tab"], apart := false, laid := [("math/bits.deBruijn32tab", laid_math_bits_deBruijn32tab), ("math/bits.deBruijn64tab", laid_math_bits_deBruijn64tab), ("internal/strconv.uint64pow10", laid_internal_strconv_uint64pow10), ("unicode/utf8.acceptRanges", laid_unicode_utf8_acceptRanges), ("unicode/utf8.first", laid_unicode_utf8_first)] }
def DirectiveFormatsSaid : Prop := directiveFormatsRow.holds Tryd.pinned (OpenSpec.ofChange directiveFormatsSpec)

/-- ITS FALSE NEIGHBOUR: 'it returns false'. Refute it at one input. -/
def directiveFormatsWrong : ChangeSpec := { name := "directiveFormats", fn := fun _ => fun
  | [d] => { results := [.lit (.bool false)], args := [d] }
  | _ => none }
def DirectiveFormatsWrongFalsely : Prop := directiveFormatsRow.holds Tryd.pinned (OpenSpec.ofChange directiveFormatsWrong)

/-- 'quaysidelaw11.DirectiveReturns': WHATEVER THE INPUT: true; the input reads as it did. -/
def directiveReturnsSpec : ChangeSpec := { name := "directiveReturns", fn := fun _ => fun
  | [d] => { results := [.lit (.bool true)], args := [d] }
  | _ => none }
def directiveReturnsRow : OpenClaim := { program := "ytnjjjfbklgdgpaadoor", sum := "6c81b92b4c8c071b9feb9de8573e7e11b2a9e6e3be8dee5b43317be2029c21da", func := "quayside/quaysidelaw11.DirectiveReturns", spec := "directiveReturns", inPlace := ["internal/bytealg.IndexByteString", "internal/bytealg.IndexString", "internal/abi.NoEscape", "internal/bytealg.MakeNoZero"], named := ["unicode/utf8.first", "unicode/utf8.acceptRanges", "internal/bytealg.MaxLen", "internal/strconv.uint64pow10", "math/bits.deBruijn32tab", "math/bits.deBruijn64tab"], apart := false, laid := [("math/bits.deBruijn32tab", laid_math_bits_deBruijn32tab), ("math/bits.deBruijn64tab", laid_math_bits_deBruijn64tab), ("internal/strconv.uint64pow10", laid_internal_strconv_uint64pow10), ("unicode/utf8.acceptRanges", laid_unicode_utf8_acceptRanges), ("unicode/utf8.first", laid_unicode_utf8_first)] }
def DirectiveReturnsSaid : Prop := directiveReturnsRow.holds Tryd.pinned (OpenSpec.ofChange directiveReturnsSpec)

/-- ITS FALSE NEIGHBOUR: 'it returns false'. Refute it at one input. -/
def directiveReturnsWrong : ChangeSpec := { name := "directiveReturns", fn := fun _ => fun
  | [d] => { results := [.lit (.bool false)], args := [d] }
  | _ => none }
def DirectiveReturnsWrongFalsely : Prop := directiveReturnsRow.holds Tryd.pinned (OpenSpec.ofChange directiveReturnsWrong)

/-- 'quaysidelaw11.DirectiveJoins': WHATEVER THE INPUT: true; the input reads as it did. -/
def directiveJoinsSpec : ChangeSpec := { name := "directiveJoins", fn := fun _ => fun
  | [d] => { results := [.lit (.bool true)], args := [d] }
  | _ => none }
def directiveJoinsRow : OpenClaim := { program := "ytnjjjfbklgdgpaadoor", sum := "6c81b92b4c8c071b9feb9de8573e7e11b2a9e6e3be8dee5b43317be2029c21da", func := "quayside/quaysidelaw11.DirectiveJoins", spec := "directiveJoins", inPlace := ["internal/bytealg.IndexByteString", "internal/bytealg.IndexString", "internal/abi.NoEscape"], named := ["unicode/utf8.first", "unicode/utf8.acceptRanges", "internal/bytealg.MaxLen"], apart := false, laid := [("unicode/utf8.acceptRanges", laid_unicode_utf8_acceptRanges), ("unicode/utf8.first", laid_unicode_utf8_first)] }
def DirectiveJoinsSaid : Prop := directiveJoinsRow.holds Tryd.pinned (OpenSpec.ofChange directiveJoinsSpec)

/-- ITS FALSE NEIGHBOUR: 'it returns false'. Refute it at one input. -/
def directiveJoinsWrong : ChangeSpec := { name := "directiveJoins", fn := fun _ => fun
  | [d] => { results := [.lit (.bool false)], args := [d] }
  | _ => none }
def DirectiveJoinsWrongFalsely : Prop := directiveJoinsRow.holds Tryd.pinned (OpenSpec.ofChange directiveJoinsWrong)

/-- 'quaysidelaw11.DirectiveCases': WHATEVER THE INPUT: true; the input reads as it did. -/
def directiveCasesSpec : ChangeSpec := { name := "directiveCases", fn := fun _ => fun
  | [d] => { results := [.lit (.bool true)], args := [d] }
  | _ => none }
def directiveCasesRow : OpenClaim := { program := "ytnjjjfbklgdgpaadoor", sum := "6c81b92b4c8c071b9feb9de8573e7e11b2a9e6e3be8dee5b43317be2029c21da", func := "quayside/quaysidelaw11.DirectiveCases", spec := "directiveCases", inPlace := ["internal/bytealg.IndexByteString", "internal/bytealg.IndexString", "internal/abi.NoEscape"], named := ["unicode/utf8.first", "unicode/utf8.acceptRanges", "internal/bytealg.MaxLen"], apart := false, laid := [("unicode/utf8.acceptRanges", laid_unicode_utf8_acceptRanges), ("unicode/utf8.first", laid_unicode_utf8_first)] }
def DirectiveCasesSaid : Prop := directiveCasesRow.holds Tryd.pinned (OpenSpec.ofChange directiveCasesSpec)

/-- ITS FALSE NEIGHBOUR: 'it returns false'. Refute it at one input. -/
def directiveCasesWrong : ChangeSpec := { name := "directiveCases", fn := fun _ => fun
  | [d] => { results := [.lit (.bool false)], args := [d] }
  | _ => none }
def DirectiveCasesWrongFalsely : Prop := directiveCasesRow.holds Tryd.pinned (OpenSpec.ofChange directiveCasesWrong)

/-- 'quaysidelaw11.DirectiveBroken': WHATEVER THE INPUT: true; the input reads as it did. -/
def directiveBrokenSpec : ChangeSpec := { name := "directiveBroken", fn := fun _ => fun
  | [d1, d2] => { results := [.lit (.bool true)], args := [d1, d2] }
  | _ => none }
def directiveBrokenRow : OpenClaim := { program := "ytnjjjfbklgdgpaadoor", sum := "6c81b92b4c8c071b9feb9de8573e7e11b2a9e6e3be8dee5b43317be2029c21da", func := "quayside/quaysidelaw11.DirectiveBroken", spec := "directiveBroken", inPlace := ["internal/bytealg.IndexByteString", "internal/bytealg.IndexString", "internal/abi.NoEscape"], named := ["unicode/utf8.first", "unicode/utf8.acceptRanges", "internal/bytealg.MaxLen"], apart := false, laid := [("unicode/utf8.acceptRanges", laid_unicode_utf8_acceptRanges), ("unicode/utf8.first", laid_unicode_utf8_first)] }
def DirectiveBrokenSaid : Prop := directiveBrokenRow.holds Tryd.pinned (OpenSpec.ofChange directiveBrokenSpec)

/-- ITS FALSE NEIGHBOUR: 'it returns false'. Refute it at one input. -/
def directiveBrokenWrong : ChangeSpec := { name := "directiveBroken", fn := fun _ => fun
  | [d1, d2] => { results := [.lit (.bool false)], args := [d1, d2] }
  | _ => none }
def DirectiveBrokenWrongFalsely : Prop := directiveBrokenRow.holds Tryd.pinned (OpenSpec.ofChange directiveBrokenWrong)

/-- 'quaysidelaw11.DirectiveMerges': WHATEVER THE INPUT: true; the input reads as it did. -/
def directiveMergesSpec : ChangeSpec := { name := "directiveMerges", fn := fun _ => fun
  | [d1, d2] => { results := [.lit (.bool true)], args := [d1, d2] }
  | _ => none }
def directiveMergesRow : OpenClaim := { program := "ytnjjjfbklgdgpaadoor", sum := "6c81b92b4c8c071b9feb9de8573e7e11b2a9e6e3be8dee5b43317be2029c21da", func := "quayside/quaysidelaw11.DirectiveMerges", spec := "directiveMerges", inPlace := ["internal/bytealg.IndexByteString", "internal/bytealg.IndexString", "internal/abi.NoEscape"], named := ["unicode/utf8.first", "unicode/utf8.acceptRanges", "internal/bytealg.MaxLen"], apart := false, laid := [("unicode/utf8.acceptRanges", laid_unicode_utf8_acceptRanges), ("unicode/utf8.first", laid_unicode_utf8_first)] }
def DirectiveMergesSaid : Prop := directiveMergesRow.holds Tryd.pinned (OpenSpec.ofChange directiveMergesSpec)

/-- ITS FALSE NEIGHBOUR: 'it returns false'. Refute it at one input. -/
def directiveMergesWrong : ChangeSpec := { name := "directiveMerges", fn := fun _ => fun
  | [d1, d2] => { results := [.lit (.bool false)], args := [d1, d2] }
  | _ => none }
def DirectiveMergesWrongFalsely : Prop := directiveMergesRow.holds Tryd.pinned (OpenSpec.ofChange directiveMergesWrong)

/-- 'quaysidelaw11.DirectiveLattice': WHATEVER THE INPUT: true; the input reads as it did. -/
def directiveLatticeSpec : ChangeSpec := { name := "directiveLattice", fn := fun _ => fun
  | [d1, d2, d3] => { results := [.lit (.bool true)], args := [d1, d2, d3] }
  | _ => none }
def directiveLatticeRow : OpenClaim := { program := "ytnjjjfbklgdgpaadoor", sum := "6c81b92b4c8c071b9feb9de8573e7e11b2a9e6e3be8dee5b43317be2029c21da", func := "quayside/quaysidelaw11.DirectiveLattice", spec := "directiveLattice", inPlace := ["internal/bytealg.IndexByteString", "internal/bytealg.IndexString", "internal/abi.NoEscape"], named := ["unicode/utf8.first", "unicode/utf8.acceptRanges", "internal/bytealg.MaxLen"], apart := false, laid := [("unicode/utf8.acceptRanges", laid_unicode_utf8_acceptRanges), ("unicode/utf8.first", laid_unicode_utf8_first)] }
def DirectiveLatticeSaid : Prop := directiveLatticeRow.holds Tryd.pinned (OpenSpec.ofChange directiveLatticeSpec)

/-- ITS FALSE NEIGHBOUR: 'it returns false'. Refute it at one input. -/
def directiveLatticeWrong : ChangeSpec := { name := "directiveLattice", fn := fun _ => fun
  | [d1, d2, d3] => { results := [.lit (.bool false)], args := [d1, d2, d3] }
  | _ => none }
def DirectiveLatticeWrongFalsely : Prop := directiveLatticeRow.holds Tryd.pinned (OpenSpec.ofChange directiveLatticeWrong)

/- THE SECOND FORM. 'bulk': how many values and letters a reading holds, each counted each time it is reached (what is shared counts as often as it is met; a slice's spare places count too). A statement '..UptoSaid' is the law's where the arguments, and the package variables that the reading takes, are together of bulk at most 1048576: NARROWER than '..Said'. Prove '..Said' where nothing that the law and all that it calls make is longer than what came in: it says more and counts as full. Else prove '..UptoSaid'. A law counts once. -/
mutual
def uptoBulk {H : Type} : DataW H → Nat
  | .lit (.string bytes) => bytes.length + 1
  | .lit _ => 1
  | .nil => 1
  | .ptr d => uptoBulk d + 1
  | .slice elems spare => uptoBulkAll elems + uptoBulkAll spare + 1
  | .agg parts => uptoBulkAll parts + 1
  | .iface _ d => uptoBulk d + 1
  | .map entries => uptoBulkEntries entries + 1
  | .held _ => 1
def uptoBulkAll {H : Type} : List (DataW H) → Nat
  | [] => 0
  | d :: r => uptoBulk d + uptoBulkAll r
def uptoBulkEntries {H : Type} : List (Lit × DataW H) → Nat
  | [] => 0
  | x :: r => uptoBulkEntry x + uptoBulkEntries r
def uptoBulkEntry {H : Type} : Lit × DataW H → Nat
  | (.string bytes, d) => bytes.length + uptoBulk d + 1
  | (_, d) => uptoBulk d + 1
 end
def uptoSmall : (H : Type) → List (DataW H) → Bool := fun _ ds => decide (uptoBulkAll ds ≤ 1048576)
def OpenSpec.upto (s : _root_.Go.ChangeSpec) : _root_.Go.OpenSpec := { _root_.Go.OpenSpec.ofChange s with cond := some uptoSmall }

/-- 'quaysidelaw11.DirectiveParses', WHERE WHAT IT READS IS OF BULK AT MOST 1048576: true; the input reads as it did. -/
def directiveParsesUptoRow : OpenClaim := { program := "ytnjjjfbklgdgpaadoor", sum := "6c81b92b4c8c071b9feb9de8573e7e11b2a9e6e3be8dee5b43317be2029c21da", func := "quayside/quaysidelaw11.DirectiveParses", spec := "directiveParses", inPlace := ["internal/bytealg.IndexByteString", "internal/bytealg.IndexString", "internal/abi.NoEscape"], named := ["unicode/utf8.first", "unicode/utf8.acceptRanges", "internal/bytealg.MaxLen"], apart := false, laid := [("unicode/utf8.acceptRanges", laid_unicode_utf8_acceptRanges), ("unicode/utf8.first", laid_unicode_utf8_first)], narrowed := true }
def DirectiveParsesUptoSaid : Prop := directiveParsesUptoRow.holds Tryd.pinned (OpenSpec.upto directiveParsesSpec)

/-- 'quaysidelaw11.DirectiveFormats', WHERE WHAT IT READS IS OF BULK AT MOST 1048576: true; the input reads as it did. -/
def directiveFormatsUptoRow : OpenClaim := { program := "ytnjjjfbklgdgpaadoor", sum := "6c81b92b4c8c071b9feb9de8573e7e11b2a9e6e3be8dee5b43317be2029c21da", func := "quayside/quaysidelaw11.DirectiveFormats", spec := "directiveFormats", inPlace := ["internal/bytealg.IndexByteString", "internal/bytealg.IndexString", "internal/abi.NoEscape", "internal/bytealg.MakeNoZero"], named := ["unicode/utf8.first", "unicode/utf8.acceptRanges", "internal/bytealg.MaxLen", "internal/strconv.uint64pow10", "math/bits.deBruijn32tab", "math/bits.deBruijn64tab"], apart := false, laid := [("math/bits.deBruijn32tab", laid_math_bits_deBruijn32tab), ("math/bits.deBruijn64tab", laid_math_bits_deBruijn64tab), ("internal/strconv.uint64pow10", laid_internal_strconv_uint64pow10), ("unicode/utf8.acceptRanges", laid_unicode_utf8_acceptRanges), ("unicode/utf8.first", laid_unicode_utf8_first)], narrowed := true }
def DirectiveFormatsUptoSaid : Prop := directiveFormatsUptoRow.holds Tryd.pinned (OpenSpec.upto directiveFormatsSpec)

/-- 'quaysidelaw11.DirectiveReturns', WHERE WHAT IT READS IS OF BULK AT MOST 1048576: true; the input reads as it did. -/
def directiveReturnsUptoRow : OpenClaim := { program := "ytnjjjfbklgdgpaadoor", sum := "6c81b92b4c8c071b9feb9de8573e7e11b2a9e6e3be8dee5b43317be2029c21da", func := "quayside/quaysidelaw11.DirectiveReturns", spec := "directiveReturns", inPlace := ["internal/bytealg.IndexByteString", "internal/bytealg.IndexString", "internal/abi.NoEscape", "internal/bytealg.MakeNoZero"], named := ["unicode/utf8.first", "unicode/utf8.acceptRanges", "internal/bytealg.MaxLen", "internal/strconv.uint64pow10", "math/bits.deBruijn32tab", "math/bits.deBruijn64tab"], apart := false, laid := [("math/bits.deBruijn32tab", laid_math_bits_deBruijn32tab), ("math/bits.deBruijn64tab", laid_math_bits_deBruijn64tab), ("internal/strconv.uint64pow10", laid_internal_strconv_uint64pow10), ("unicode/utf8.acceptRanges", laid_unicode_utf8_acceptRanges), ("unicode/utf8.first", laid_unicode_utf8_first)], narrowed := true }
def DirectiveReturnsUptoSaid : Prop := directiveReturnsUptoRow.holds Tryd.pinned (OpenSpec.upto directiveReturnsSpec)

/-- 'quaysidelaw11.DirectiveJoins', WHERE WHAT IT READS IS OF BULK AT MOST 1048576: true; the input reads as it did. -/
def directiveJoinsUptoRow : OpenClaim := { program := "ytnjjjfbklgdgpaadoor", sum := "6c81b92b4c8c071b9feb9de8573e7e11b2a9e6e3be8dee5b43317be2029c21da", func := "quayside/quaysidelaw11.DirectiveJoins", spec := "directiveJoins", inPlace := ["internal/bytealg.IndexByteString", "internal/bytealg.IndexString", "internal/abi.NoEscape"], named := ["unicode/utf8.first", "unicode/utf8.acceptRanges", "internal/bytealg.MaxLen"], apart := false, laid := [("unicode/utf8.acceptRanges", laid_unicode_utf8_acceptRanges), ("unicode/utf8.first", laid_unicode_utf8_first)], narrowed := true }
def DirectiveJoinsUptoSaid : Prop := directiveJoinsUptoRow.holds Tryd.pinned (OpenSpec.upto directiveJoinsSpec)

/-- 'quaysidelaw11.DirectiveCases', WHERE WHAT IT READS IS OF BULK AT MOST 1048576: true; the input reads as it did. -/
def directiveCasesUptoRow : OpenClaim := { program := "ytnjjjfbklgdgpaadoor", sum := "6c81b92b4c8c071b9feb9de8573e7e11b2a9e6e3be8dee5b43317be2029c21da", func := "quayside/quaysidelaw11.DirectiveCases", spec := "directiveCases", inPlace := ["internal/bytealg.IndexByteString", "internal/bytealg.IndexString", "internal/abi.NoEscape"], named := ["unicode/utf8.first", "unicode/utf8.acceptRanges", "internal/bytealg.MaxLen"], apart := false, laid := [("unicode/utf8.acceptRanges", laid_unicode_utf8_acceptRanges), ("unicode/utf8.first", laid_unicode_utf8_first)], narrowed := true }
def DirectiveCasesUptoSaid : Prop := directiveCasesUptoRow.holds Tryd.pinned (OpenSpec.upto directiveCasesSpec)

/-- 'quaysidelaw11.DirectiveBroken', WHERE WHAT IT READS IS OF BULK AT MOST 1048576: true; the input reads as it did. -/
def directiveBrokenUptoRow : OpenClaim := { program := "ytnjjjfbklgdgpaadoor", sum := "6c81b92b4c8c071b9feb9de8573e7e11b2a9e6e3be8dee5b43317be2029c21da", func := "quayside/quaysidelaw11.DirectiveBroken", spec := "directiveBroken", inPlace := ["internal/bytealg.IndexByteString", "internal/bytealg.IndexString", "internal/abi.NoEscape"], named := ["unicode/utf8.first", "unicode/utf8.acceptRanges", "internal/bytealg.MaxLen"], apart := false, laid := [("unicode/utf8.acceptRanges", laid_unicode_utf8_acceptRanges), ("unicode/utf8.first", laid_unicode_utf8_first)], narrowed := true }
def DirectiveBrokenUptoSaid : Prop := directiveBrokenUptoRow.holds Tryd.pinned (OpenSpec.upto directiveBrokenSpec)

/-- 'quaysidelaw11.DirectiveMerges', WHERE WHAT IT READS IS OF BULK AT MOST 1048576: true; the input reads as it did. -/
def directiveMergesUptoRow : OpenClaim := { program := "ytnjjjfbklgdgpaadoor", sum := "6c81b92b4c8c071b9feb9de8573e7e11b2a9e6e3be8dee5b43317be2029c21da", func := "quayside/quaysidelaw11.DirectiveMerges", spec := "directiveMerges", inPlace := ["internal/bytealg.IndexByteString", "internal/bytealg.IndexString", "internal/abi.NoEscape"], named := ["unicode/utf8.first", "unicode/utf8.acceptRanges", "internal/bytealg.MaxLen"], apart := false, laid := [("unicode/utf8.acceptRanges", laid_unicode_utf8_acceptRanges), ("unicode/utf8.first", laid_unicode_utf8_first)], narrowed := true }
def DirectiveMergesUptoSaid : Prop := directiveMergesUptoRow.holds Tryd.pinned (OpenSpec.upto directiveMergesSpec)

/-- 'quaysidelaw11.DirectiveLattice', WHERE WHAT IT READS IS OF BULK AT MOST 1048576: true; the input reads as it did. -/
def directiveLatticeUptoRow : OpenClaim := { program := "ytnjjjfbklgdgpaadoor", sum := "6c81b92b4c8c071b9feb9de8573e7e11b2a9e6e3be8dee5b43317be2029c21da", func := "quayside/quaysidelaw11.DirectiveLattice", spec := "directiveLattice", inPlace := ["internal/bytealg.IndexByteString", "internal/bytealg.IndexString", "internal/abi.NoEscape"], named := ["unicode/utf8.first", "unicode/utf8.acceptRanges", "internal/bytealg.MaxLen"], apart := false, laid := [("unicode/utf8.acceptRanges", laid_unicode_utf8_acceptRanges), ("unicode/utf8.first", laid_unicode_utf8_first)], narrowed := true }
def DirectiveLatticeUptoSaid : Prop := directiveLatticeUptoRow.holds Tryd.pinned (OpenSpec.upto directiveLatticeSpec)

end Rows
end Go.Proofs.YtnjjjfbklgdgpaaDoor
