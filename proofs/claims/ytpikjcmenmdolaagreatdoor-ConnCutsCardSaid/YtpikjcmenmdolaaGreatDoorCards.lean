/-
  DERIVED. GIVEN WITH THE SEED: THE CARDS: each row of YtpikjcmenmdolaaGreatDoorRows.lean that lists a variable, with what it lists TIED to the program's text (the seventh form; the later family's looks); each row that meets fmt, with fmt's text TOLD by the authors' own Lean function (tested against real Go, not proved from fmt's source: count such statements apart). THE CARD IS WHAT COUNTS. Prove the row's statement (the work); the ties are given (YtpikjcmenmdolaaGreatDoorTie.lean); close each card by the builder's one call (the guide's Derived/Test/ToyasCard.lean, 'card_holds'). Laid BY PROGRAM, IN A SANDBOX (cutbox-door.mjs). By AI agents, Wed Nov 11 2026. No macro, syntax, notation, axiom, sorry.
-/
import Derived.Test.YtpikjcmenmdolaaGreatDoorRows
import GoSem.ClaimSeven
namespace Go.Proofs.YtpikjcmenmdolaaGreatDoor
namespace Rows

/-- THE TIED CARD OF 'quaysidelaw08.ConnRequests'. -/
def connRequestsCard : Claim7 := { stood := { row := connRequestsRow, standIns := [], harness := (true, "7239119ceb5b40efb31dd416b429c037eeb3100fea08f7337de5ea609fc53a1a"), looks := true }, kinds := [], alts := [], laidByText := true, laidKinds := [.data, .pinned], laidTests := true, laidLooks := .later }
def ConnRequestsCardSaid : Prop := Claim7.holds Tryz.pinned (.plain (OpenSpec.ofChange connRequestsSpec)) connRequestsCard

/-- THE TIED CARD OF 'quaysidelaw08.ConnResponses'. -/
def connResponsesCard : Claim7 := { stood := { row := connResponsesRow, standIns := [], harness := (true, "7239119ceb5b40efb31dd416b429c037eeb3100fea08f7337de5ea609fc53a1a"), looks := true }, kinds := [], alts := [], laidByText := true, laidKinds := [.data, .pinned], laidTests := true, laidLooks := .later }
def ConnResponsesCardSaid : Prop := Claim7.holds Tryz.pinned (.plain (OpenSpec.ofChange connResponsesSpec)) connResponsesCard

/-- THE TIED CARD OF 'quaysidelaw08.ConnCuts'. -/
def connCutsCard : Claim7 := { stood := { row := connCutsRow, standIns := [], harness := (true, "7239119ceb5b40efb31dd416b429c037eeb3100fea08f7337de5ea609fc53a1a"), looks := true }, kinds := [], alts := [], laidByText := true, laidKinds := [.data, .pinned], laidTests := true, laidLooks := .later }
def ConnCutsCardSaid : Prop := Claim7.holds Tryz.pinned (.plain (OpenSpec.ofChange connCutsSpec)) connCutsCard

/-- THE TIED CARD OF 'quaysidelaw08.ConnReturns'. -/
def connReturnsCard : Claim7 := { stood := { row := connReturnsRow, standIns := [], harness := (true, "7239119ceb5b40efb31dd416b429c037eeb3100fea08f7337de5ea609fc53a1a"), looks := true }, kinds := [], alts := [], laidByText := true, laidKinds := [.data, .data, .data, .data, .sentinel, .pinned], laidTests := true, laidLooks := .later }
def ConnReturnsCardSaid : Prop := Claim7.holds Tryz.pinned (.plain (OpenSpec.ofChange connReturnsSpec)) connReturnsCard

/-- THE SECOND FORM's CARD OF 'quaysidelaw08.ConnRequests'. -/
def connRequestsUptoCard : Claim7 := { stood := { row := connRequestsUptoRow, standIns := [], harness := (true, "7239119ceb5b40efb31dd416b429c037eeb3100fea08f7337de5ea609fc53a1a"), looks := true }, kinds := [], alts := [], laidByText := true, laidKinds := [.data, .pinned], laidTests := true, laidLooks := .later }
def ConnRequestsUptoCardSaid : Prop := Claim7.holds Tryz.pinned (.plain (OpenSpec.upto connRequestsSpec)) connRequestsUptoCard

/-- THE SECOND FORM's CARD OF 'quaysidelaw08.ConnResponses'. -/
def connResponsesUptoCard : Claim7 := { stood := { row := connResponsesUptoRow, standIns := [], harness := (true, "7239119ceb5b40efb31dd416b429c037eeb3100fea08f7337de5ea609fc53a1a"), looks := true }, kinds := [], alts := [], laidByText := true, laidKinds := [.data, .pinned], laidTests := true, laidLooks := .later }
def ConnResponsesUptoCardSaid : Prop := Claim7.holds Tryz.pinned (.plain (OpenSpec.upto connResponsesSpec)) connResponsesUptoCard

/-- THE SECOND FORM's CARD OF 'quaysidelaw08.ConnCuts'. -/
def connCutsUptoCard : Claim7 := { stood := { row := connCutsUptoRow, standIns := [], harness := (true, "7239119ceb5b40efb31dd416b429c037eeb3100fea08f7337de5ea609fc53a1a"), looks := true }, kinds := [], alts := [], laidByText := true, laidKinds := [.data, .pinned], laidTests := true, laidLooks := .later }
def ConnCutsUptoCardSaid : Prop := Claim7.holds Tryz.pinned (.plain (OpenSpec.upto connCutsSpec)) connCutsUptoCard

/-- THE SECOND FORM's CARD OF 'quaysidelaw08.ConnReturns'. -/
def connReturnsUptoCard : Claim7 := { stood := { row := connReturnsUptoRow, standIns := [], harness := (true, "7239119ceb5b40efb31dd416b429c037eeb3100fea08f7337de5ea609fc53a1a"), looks := true }, kinds := [], alts := [], laidByText := true, laidKinds := [.data, .data, .data, .data, .sentinel, .pinned], laidTests := true, laidLooks := .later }
def ConnReturnsUptoCardSaid : Prop := Claim7.holds Tryz.pinned (.plain (OpenSpec.upto connReturnsSpec)) connReturnsUptoCard
end Rows
end Go.Proofs.YtpikjcmenmdolaaGreatDoor
