/-
  DERIVED. GIVEN WITH THE SEED: THE CARDS: each row of YtfggckdakmnfbaaGreatDoorRows.lean that lists a variable, with what it lists TIED to the program's text (the seventh form; the later family's looks); each row that meets fmt, with fmt's text TOLD by the authors' own Lean function (tested against real Go, not proved from fmt's source: count such statements apart). THE CARD IS WHAT COUNTS. Prove the row's statement (the work); the ties are given (YtfggckdakmnfbaaGreatDoorTie.lean); close each card by the builder's one call (the guide's Derived/Test/ToyasCard.lean, 'card_holds'). Laid BY PROGRAM, IN A SANDBOX (cutbox-door.mjs). By AI agents, Wed Nov 11 2026. No macro, syntax, notation, axiom, sorry.
-/
import Derived.Test.YtfggckdakmnfbaaGreatDoorRows
import GoSem.ClaimSeven
namespace Go.Proofs.YtfggckdakmnfbaaGreatDoor
namespace Rows

/-- THE TIED CARD OF 'quaysidelaw03.AddressParses'. -/
def addressParsesCard : Claim7 := { stood := { row := addressParsesRow, standIns := [], harness := (true, "c30bf9a43b088774905707e7f0f8664b5af53c39bad2af2575fbe4120b24dc80"), looks := true }, kinds := [], alts := [], laidByText := true, laidKinds := [.data, .data, .data, .data, .sentinel, .sentinel, .pinned, .pinned], laidTests := true, laidLooks := .later }
def AddressParsesCardSaid : Prop := Claim7.holds Tryz.pinned (.plain (OpenSpec.ofChange addressParsesSpec)) addressParsesCard

/-- THE SECOND FORM's CARD OF 'quaysidelaw03.AddressParses'. -/
def addressParsesUptoCard : Claim7 := { stood := { row := addressParsesUptoRow, standIns := [], harness := (true, "c30bf9a43b088774905707e7f0f8664b5af53c39bad2af2575fbe4120b24dc80"), looks := true }, kinds := [], alts := [], laidByText := true, laidKinds := [.data, .data, .data, .data, .sentinel, .sentinel, .pinned, .pinned], laidTests := true, laidLooks := .later }
def AddressParsesUptoCardSaid : Prop := Claim7.holds Tryz.pinned (.plain (OpenSpec.upto addressParsesSpec)) addressParsesUptoCard
end Rows
end Go.Proofs.YtfggckdakmnfbaaGreatDoor
