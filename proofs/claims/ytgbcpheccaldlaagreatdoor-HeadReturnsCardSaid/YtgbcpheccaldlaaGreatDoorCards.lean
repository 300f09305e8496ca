/-
  DERIVED. GIVEN WITH THE SEED: THE CARDS: each row of YtgbcpheccaldlaaGreatDoorRows.lean that lists a variable, with what it lists TIED to the program's text (the seventh form; the later family's looks); each row that meets fmt, with fmt's text TOLD by the authors' own Lean function (tested against real Go, not proved from fmt's source: count such statements apart). THE CARD IS WHAT COUNTS. Prove the row's statement (the work); the ties are given (YtgbcpheccaldlaaGreatDoorTie.lean); close each card by the builder's one call (the guide's Derived/Test/ToyasCard.lean, 'card_holds'). Laid BY PROGRAM, IN A SANDBOX (cutbox-door.mjs). By AI agents, Wed Nov 11 2026. No macro, syntax, notation, axiom, sorry.
-/
import Derived.Test.YtgbcpheccaldlaaGreatDoorRows
import GoSem.ClaimSeven
namespace Go.Proofs.YtgbcpheccaldlaaGreatDoor
namespace Rows

/-- THE TIED CARD OF 'quaysidelaw05.HeadReturns'. -/
def headReturnsCard : Claim7 := { stood := { row := headReturnsRow, standIns := [], harness := (true, "44f3cdf760926ff8c5893f1630612c60c1de6b212bb01bed2254430eb9ec01a2"), looks := false }, kinds := [], alts := [], laidByText := true, laidKinds := [.data, .data, .data, .data, .sentinel, .pinned], laidTests := true, laidLooks := .later }
def HeadReturnsCardSaid : Prop := Claim7.holds Tryz.pinned (.plain (OpenSpec.ofChange headReturnsSpec)) headReturnsCard

/-- THE SECOND FORM's CARD OF 'quaysidelaw05.HeadReturns'. -/
def headReturnsUptoCard : Claim7 := { stood := { row := headReturnsUptoRow, standIns := [], harness := (true, "44f3cdf760926ff8c5893f1630612c60c1de6b212bb01bed2254430eb9ec01a2"), looks := false }, kinds := [], alts := [], laidByText := true, laidKinds := [.data, .data, .data, .data, .sentinel, .pinned], laidTests := true, laidLooks := .later }
def HeadReturnsUptoCardSaid : Prop := Claim7.holds Tryz.pinned (.plain (OpenSpec.upto headReturnsSpec)) headReturnsUptoCard
end Rows
end Go.Proofs.YtgbcpheccaldlaaGreatDoor
