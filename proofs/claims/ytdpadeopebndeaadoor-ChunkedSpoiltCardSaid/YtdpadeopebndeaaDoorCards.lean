/-
  DERIVED. GIVEN WITH THE SEED: THE CARDS: each row of YtdpadeopebndeaaDoorRows.lean that lists a variable, with what it lists TIED to the program's text (the seventh form; the later family's looks); each row that meets fmt, with fmt's text TOLD by the authors' own Lean function (tested against real Go, not proved from fmt's source: count such statements apart). THE CARD IS WHAT COUNTS. Prove the row's statement (the work); the ties are given (YtdpadeopebndeaaDoorTie.lean); close each card by the builder's one call (the guide's Derived/Test/ToyasCard.lean, 'card_holds'). Laid BY PROGRAM, IN A SANDBOX (cutbox-door.mjs). By AI agents, Wed Nov 11 2026. No macro, syntax, notation, axiom, sorry.
-/
import Derived.Test.YtdpadeopebndeaaDoorRows
import GoSem.ClaimSeven
namespace Go.Proofs.YtdpadeopebndeaaDoor
namespace Rows

/-- THE TIED CARD OF 'quaysidelaw07.ChunkedSpoilt'. -/
def chunkedSpoiltCard : Claim7 := { stood := { row := chunkedSpoiltRow, standIns := [], harness := (true, "6078cf806122389000fbe51ff5bcbd2c15e6a542c32e1aee0342e239f20a695f"), looks := true }, kinds := [], alts := [], laidByText := true, laidKinds := [.data, .data, .data, .data, .pinned], laidTests := true, laidLooks := .later }
def ChunkedSpoiltCardSaid : Prop := Claim7.holds Tryd.pinned (.plain (OpenSpec.ofChange chunkedSpoiltSpec)) chunkedSpoiltCard

/-- THE SECOND FORM's CARD OF 'quaysidelaw07.ChunkedSpoilt'. -/
def chunkedSpoiltUptoCard : Claim7 := { stood := { row := chunkedSpoiltUptoRow, standIns := [], harness := (true, "6078cf806122389000fbe51ff5bcbd2c15e6a542c32e1aee0342e239f20a695f"), looks := true }, kinds := [], alts := [], laidByText := true, laidKinds := [.data, .data, .data, .data, .pinned], laidTests := true, laidLooks := .later }
def ChunkedSpoiltUptoCardSaid : Prop := Claim7.holds Tryd.pinned (.plain (OpenSpec.upto chunkedSpoiltSpec)) chunkedSpoiltUptoCard
end Rows
end Go.Proofs.YtdpadeopebndeaaDoor
