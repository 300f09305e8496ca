/-
  DERIVED. GIVEN WITH THE SEED: THE CARDS: each row of YtjcekkgoohkomaaDoorRows.lean that lists a variable, with what it lists TIED to the program's text (the seventh form; the later family's looks); each row that meets fmt, with fmt's text TOLD by the authors' own Lean function (tested against real Go, not proved from fmt's source: count such statements apart). THE CARD IS WHAT COUNTS. Prove the row's statement (the work); the ties are given (YtjcekkgoohkomaaDoorTie.lean); close each card by the builder's one call (the guide's Derived/Test/ToyasCard.lean, 'card_holds'). Laid BY PROGRAM, IN A SANDBOX (cutbox-door.mjs). By AI agents, Wed Nov 11 2026. No macro, syntax, notation, axiom, sorry.
-/
import Derived.Test.YtjcekkgoohkomaaDoorRows
import GoSem.ClaimSeven
namespace Go.Proofs.YtjcekkgoohkomaaDoor
namespace Rows

/-- THE TIED CARD OF 'quaysidelaw02.FieldNames'. -/
def fieldNamesCard : Claim7 := { stood := { row := fieldNamesRow, standIns := [], harness := (true, "26b92ea17b061aa79fcfdb4823ce9d91d5274565d43ffd7144c21118de2712c1"), looks := true }, kinds := [], alts := [], laidByText := true, laidKinds := [.data, .pinned], laidTests := true, laidLooks := .later }
def FieldNamesCardSaid : Prop := Claim7.holds Tryd.pinned (.plain (OpenSpec.ofChange fieldNamesSpec)) fieldNamesCard

/-- THE TIED CARD OF 'quaysidelaw01.SyntaxTokens'. -/
def syntaxTokensCard : Claim7 := { stood := { row := syntaxTokensRow, standIns := [], harness := (true, "26b92ea17b061aa79fcfdb4823ce9d91d5274565d43ffd7144c21118de2712c1"), looks := true }, kinds := [], alts := [], laidByText := true, laidKinds := [.data, .pinned], laidTests := true, laidLooks := .later }
def SyntaxTokensCardSaid : Prop := Claim7.holds Tryd.pinned (.plain (OpenSpec.ofChange syntaxTokensSpec)) syntaxTokensCard

/-- THE TIED CARD OF 'quaysidelaw01.SyntaxQuotes'. -/
def syntaxQuotesCard : Claim7 := { stood := { row := syntaxQuotesRow, standIns := [], harness := (true, "26b92ea17b061aa79fcfdb4823ce9d91d5274565d43ffd7144c21118de2712c1"), looks := true }, kinds := [], alts := [], laidByText := true, laidKinds := [.data, .pinned], laidTests := true, laidLooks := .later }
def SyntaxQuotesCardSaid : Prop := Claim7.holds Tryd.pinned (.plain (OpenSpec.ofChange syntaxQuotesSpec)) syntaxQuotesCard

/-- THE TIED CARD OF 'quaysidelaw01.SyntaxUnquotes'. -/
def syntaxUnquotesCard : Claim7 := { stood := { row := syntaxUnquotesRow, standIns := [], harness := (true, "26b92ea17b061aa79fcfdb4823ce9d91d5274565d43ffd7144c21118de2712c1"), looks := true }, kinds := [], alts := [], laidByText := true, laidKinds := [.data, .pinned], laidTests := true, laidLooks := .later }
def SyntaxUnquotesCardSaid : Prop := Claim7.holds Tryd.pinned (.plain (OpenSpec.ofChange syntaxUnquotesSpec)) syntaxUnquotesCard

/-- THE TIED CARD OF 'quaysidelaw01.SyntaxLists'. -/
def syntaxListsCard : Claim7 := { stood := { row := syntaxListsRow, standIns := [], harness := (true, "26b92ea17b061aa79fcfdb4823ce9d91d5274565d43ffd7144c21118de2712c1"), looks := true }, kinds := [], alts := [], laidByText := true, laidKinds := [.data, .pinned], laidTests := true, laidLooks := .later }
def SyntaxListsCardSaid : Prop := Claim7.holds Tryd.pinned (.plain (OpenSpec.ofChange syntaxListsSpec)) syntaxListsCard

/-- THE TIED CARD OF 'quaysidelaw01.SyntaxSplits'. -/
def syntaxSplitsCard : Claim7 := { stood := { row := syntaxSplitsRow, standIns := [], harness := (true, "26b92ea17b061aa79fcfdb4823ce9d91d5274565d43ffd7144c21118de2712c1"), looks := true }, kinds := [], alts := [], laidByText := true, laidKinds := [.data, .pinned], laidTests := true, laidLooks := .later }
def SyntaxSplitsCardSaid : Prop := Claim7.holds Tryd.pinned (.plain (OpenSpec.ofChange syntaxSplitsSpec)) syntaxSplitsCard

/-- THE TIED CARD OF 'quaysidelaw01.SyntaxJoins'. -/
def syntaxJoinsCard : Claim7 := { stood := { row := syntaxJoinsRow, standIns := [], harness := (true, "26b92ea17b061aa79fcfdb4823ce9d91d5274565d43ffd7144c21118de2712c1"), looks := true }, kinds := [], alts := [], laidByText := true, laidKinds := [.data, .pinned], laidTests := true, laidLooks := .later }
def SyntaxJoinsCardSaid : Prop := Claim7.holds Tryd.pinned (.plain (OpenSpec.ofChange syntaxJoinsSpec)) syntaxJoinsCard

/-- THE TIED CARD OF 'quaysidelaw01.SyntaxElements'. -/
def syntaxElementsCard : Claim7 := { stood := { row := syntaxElementsRow, standIns := [], harness := (true, "26b92ea17b061aa79fcfdb4823ce9d91d5274565d43ffd7144c21118de2712c1"), looks := true }, kinds := [], alts := [], laidByText := true, laidKinds := [.data, .pinned], laidTests := true, laidLooks := .later }
def SyntaxElementsCardSaid : Prop := Claim7.holds Tryd.pinned (.plain (OpenSpec.ofChange syntaxElementsSpec)) syntaxElementsCard

/-- THE TIED CARD OF 'quaysidelaw02.FieldChecks'. -/
def fieldChecksCard : Claim7 := { stood := { row := fieldChecksRow, standIns := [], harness := (true, "26b92ea17b061aa79fcfdb4823ce9d91d5274565d43ffd7144c21118de2712c1"), looks := true }, kinds := [], alts := [], laidByText := true, laidKinds := [.data, .pinned], laidTests := true, laidLooks := .later }
def FieldChecksCardSaid : Prop := Claim7.holds Tryd.pinned (.plain (OpenSpec.ofChange fieldChecksSpec)) fieldChecksCard

/-- THE TIED CARD OF 'quaysidelaw02.FieldStrips'. -/
def fieldStripsCard : Claim7 := { stood := { row := fieldStripsRow, standIns := [], harness := (true, "26b92ea17b061aa79fcfdb4823ce9d91d5274565d43ffd7144c21118de2712c1"), looks := true }, kinds := [], alts := [], laidByText := true, laidKinds := [.data, .pinned], laidTests := true, laidLooks := .later }
def FieldStripsCardSaid : Prop := Claim7.holds Tryd.pinned (.plain (OpenSpec.ofChange fieldStripsSpec)) fieldStripsCard

/-- THE SECOND FORM's CARD OF 'quaysidelaw02.FieldNames'. -/
def fieldNamesUptoCard : Claim7 := { stood := { row := fieldNamesUptoRow, standIns := [], harness := (true, "26b92ea17b061aa79fcfdb4823ce9d91d5274565d43ffd7144c21118de2712c1"), looks := true }, kinds := [], alts := [], laidByText := true, laidKinds := [.data, .pinned], laidTests := true, laidLooks := .later }
def FieldNamesUptoCardSaid : Prop := Claim7.holds Tryd.pinned (.plain (OpenSpec.upto fieldNamesSpec)) fieldNamesUptoCard

/-- THE SECOND FORM's CARD OF 'quaysidelaw01.SyntaxTokens'. -/
def syntaxTokensUptoCard : Claim7 := { stood := { row := syntaxTokensUptoRow, standIns := [], harness := (true, "26b92ea17b061aa79fcfdb4823ce9d91d5274565d43ffd7144c21118de2712c1"), looks := true }, kinds := [], alts := [], laidByText := true, laidKinds := [.data, .pinned], laidTests := true, laidLooks := .later }
def SyntaxTokensUptoCardSaid : Prop := Claim7.holds Tryd.pinned (.plain (OpenSpec.upto syntaxTokensSpec)) syntaxTokensUptoCard

/-- THE SECOND FORM's CARD OF 'quaysidelaw01.SyntaxQuotes'. -/
def syntaxQuotesUptoCard : Claim7 := { stood := { row := syntaxQuotesUptoRow, standIns := [], harness := (true, "26b92ea17b061aa79fcfdb4823ce9d91d5274565d43ffd7144c21118de2712c1"), looks := true }, kinds := [], alts := [], laidByText := true, laidKinds := [.data, .pinned], laidTests := true, laidLooks := .later }
def SyntaxQuotesUptoCardSaid : Prop := Claim7.holds Tryd.pinned (.plain (OpenSpec.upto syntaxQuotesSpec)) syntaxQuotesUptoCard

/-- THE SECOND FORM's CARD OF 'quaysidelaw01.SyntaxUnquotes'. -/
def syntaxUnquotesUptoCard : Claim7 := { stood := { row := syntaxUnquotesUptoRow, standIns := [], harness := (true, "26b92ea17b061aa79fcfdb4823ce9d91d5274565d43ffd7144c21118de2712c1"), looks := true }, kinds := [], alts := [], laidByText := true, laidKinds := [.data, .pinned], laidTests := true, laidLooks := .later }
def SyntaxUnquotesUptoCardSaid : Prop := Claim7.holds Tryd.pinned (.plain (OpenSpec.upto syntaxUnquotesSpec)) syntaxUnquotesUptoCard

/-- THE SECOND FORM's CARD OF 'quaysidelaw01.SyntaxLists'. -/
def syntaxListsUptoCard : Claim7 := { stood := { row := syntaxListsUptoRow, standIns := [], harness := (true, "26b92ea17b061aa79fcfdb4823ce9d91d5274565d43ffd7144c21118de2712c1"), looks := true }, kinds := [], alts := [], laidByText := true, laidKinds := [.data, .pinned], laidTests := true, laidLooks := .later }
def SyntaxListsUptoCardSaid : Prop := Claim7.holds Tryd.pinned (.plain (OpenSpec.upto syntaxListsSpec)) syntaxListsUptoCard

/-- THE SECOND FORM's CARD OF 'quaysidelaw01.SyntaxSplits'. -/
def syntaxSplitsUptoCard : Claim7 := { stood := { row := syntaxSplitsUptoRow, standIns := [], harness := (true, "26b92ea17b061aa79fcfdb4823ce9d91d5274565d43ffd7144c21118de2712c1"), looks := true }, kinds := [], alts := [], laidByText := true, laidKinds := [.data, .pinned], laidTests := true, laidLooks := .later }
def SyntaxSplitsUptoCardSaid : Prop := Claim7.holds Tryd.pinned (.plain (OpenSpec.upto syntaxSplitsSpec)) syntaxSplitsUptoCard

/-- THE SECOND FORM's CARD OF 'quaysidelaw01.SyntaxJoins'. -/
def syntaxJoinsUptoCard : Claim7 := { stood := { row := syntaxJoinsUptoRow, standIns := [], harness := (true, "26b92ea17b061aa79fcfdb4823ce9d91d5274565d43ffd7144c21118de2712c1"), looks := true }, kinds := [], alts := [], laidByText := true, laidKinds := [.data, .pinned], laidTests := true, laidLooks := .later }
def SyntaxJoinsUptoCardSaid : Prop := Claim7.holds Tryd.pinned (.plain (OpenSpec.upto syntaxJoinsSpec)) syntaxJoinsUptoCard

/-- THE SECOND FORM's CARD OF 'quaysidelaw01.SyntaxElements'. -/
def syntaxElementsUptoCard : Claim7 := { stood := { row := syntaxElementsUptoRow, standIns := [], harness := (true, "26b92ea17b061aa79fcfdb4823ce9d91d5274565d43ffd7144c21118de2712c1"), looks := true }, kinds := [], alts := [], laidByText := true, laidKinds := [.data, .pinned], laidTests := true, laidLooks := .later }
def SyntaxElementsUptoCardSaid : Prop := Claim7.holds Tryd.pinned (.plain (OpenSpec.upto syntaxElementsSpec)) syntaxElementsUptoCard

/-- THE SECOND FORM's CARD OF 'quaysidelaw02.FieldChecks'. -/
def fieldChecksUptoCard : Claim7 := { stood := { row := fieldChecksUptoRow, standIns := [], harness := (true, "26b92ea17b061aa79fcfdb4823ce9d91d5274565d43ffd7144c21118de2712c1"), looks := true }, kinds := [], alts := [], laidByText := true, laidKinds := [.data, .pinned], laidTests := true, laidLooks := .later }
def FieldChecksUptoCardSaid : Prop := Claim7.holds Tryd.pinned (.plain (OpenSpec.upto fieldChecksSpec)) fieldChecksUptoCard

/-- THE SECOND FORM's CARD OF 'quaysidelaw02.FieldStrips'. -/
def fieldStripsUptoCard : Claim7 := { stood := { row := fieldStripsUptoRow, standIns := [], harness := (true, "26b92ea17b061aa79fcfdb4823ce9d91d5274565d43ffd7144c21118de2712c1"), looks := true }, kinds := [], alts := [], laidByText := true, laidKinds := [.data, .pinned], laidTests := true, laidLooks := .later }
def FieldStripsUptoCardSaid : Prop := Claim7.holds Tryd.pinned (.plain (OpenSpec.upto fieldStripsSpec)) fieldStripsUptoCard
end Rows
end Go.Proofs.YtjcekkgoohkomaaDoor
