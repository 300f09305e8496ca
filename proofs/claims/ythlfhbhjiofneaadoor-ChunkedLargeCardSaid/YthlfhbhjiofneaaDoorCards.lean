/-
  DERIVED. GIVEN WITH THE SEED: THE CARDS: each row of YthlfhbhjiofneaaDoorRows.lean that lists a variable, with what it lists TIED to the program's text (the seventh form; the later family's looks); each row that meets fmt, with fmt's text TOLD by the authors' own Lean function (tested against real Go, not proved from fmt's source: count such statements apart). THE CARD IS WHAT COUNTS. Prove the row's statement (the work); the ties are given (YthlfhbhjiofneaaDoorTie.lean); close each card by the builder's one call (the guide's Derived/Test/ToyasCard.lean, 'card_holds'). Laid BY PROGRAM, IN A SANDBOX (cutbox-door.mjs). By AI agents, Wed Nov 11 2026. No macro, syntax, notation, axiom, sorry.
-/
import Derived.Test.YthlfhbhjiofneaaDoorRows
import GoSem.ClaimSeven
namespace Go.Proofs.YthlfhbhjiofneaaDoor
namespace Rows

/-- THE TIED CARD OF 'quaysidelaw07.ChunkedEncodes'. -/
def chunkedEncodesCard : Claim7 := { stood := { row := chunkedEncodesRow, standIns := [], harness := (true, "c534c83dbee223558bb360db32efc8534e03661e52614f04e6ccad011a909241"), looks := true }, kinds := [], alts := [], laidByText := true, laidKinds := [.data, .data, .data, .data, .pinned], laidTests := true, laidLooks := .later }
def ChunkedEncodesCardSaid : Prop := Claim7.holds Tryd.pinned (.plain (OpenSpec.ofChange chunkedEncodesSpec)) chunkedEncodesCard

/-- THE TIED CARD OF 'quaysidelaw07.ChunkedReturns'. -/
def chunkedReturnsCard : Claim7 := { stood := { row := chunkedReturnsRow, standIns := [], harness := (true, "c534c83dbee223558bb360db32efc8534e03661e52614f04e6ccad011a909241"), looks := true }, kinds := [], alts := [], laidByText := true, laidKinds := [.data, .data, .data, .data, .pinned], laidTests := true, laidLooks := .later }
def ChunkedReturnsCardSaid : Prop := Claim7.holds Tryd.pinned (.plain (OpenSpec.ofChange chunkedReturnsSpec)) chunkedReturnsCard

/-- THE TIED CARD OF 'quaysidelaw07.ChunkedLarge'. -/
def chunkedLargeCard : Claim7 := { stood := { row := chunkedLargeRow, standIns := [], harness := (true, "c534c83dbee223558bb360db32efc8534e03661e52614f04e6ccad011a909241"), looks := true }, kinds := [], alts := [], laidByText := true, laidKinds := [.data, .data, .data, .data, .pinned], laidTests := true, laidLooks := .later }
def ChunkedLargeCardSaid : Prop := Claim7.holds Tryd.pinned (.plain (OpenSpec.ofChange chunkedLargeSpec)) chunkedLargeCard

/-- THE SECOND FORM's CARD OF 'quaysidelaw07.ChunkedEncodes'. -/
def chunkedEncodesUptoCard : Claim7 := { stood := { row := chunkedEncodesUptoRow, standIns := [], harness := (true, "c534c83dbee223558bb360db32efc8534e03661e52614f04e6ccad011a909241"), looks := true }, kinds := [], alts := [], laidByText := true, laidKinds := [.data, .data, .data, .data, .pinned], laidTests := true, laidLooks := .later }
def ChunkedEncodesUptoCardSaid : Prop := Claim7.holds Tryd.pinned (.plain (OpenSpec.upto chunkedEncodesSpec)) chunkedEncodesUptoCard

/-- THE SECOND FORM's CARD OF 'quaysidelaw07.ChunkedReturns'. -/
def chunkedReturnsUptoCard : Claim7 := { stood := { row := chunkedReturnsUptoRow, standIns := [], harness := (true, "c534c83dbee223558bb360db32efc8534e03661e52614f04e6ccad011a909241"), looks := true }, kinds := [], alts := [], laidByText := true, laidKinds := [.data, .data, .data, .data, .pinned], laidTests := true, laidLooks := .later }
def ChunkedReturnsUptoCardSaid : Prop := Claim7.holds Tryd.pinned (.plain (OpenSpec.upto chunkedReturnsSpec)) chunkedReturnsUptoCard

/-- THE SECOND FORM's CARD OF 'quaysidelaw07.ChunkedLarge'. -/
def chunkedLargeUptoCard : Claim7 := { stood := { row := chunkedLargeUptoRow, standIns := [], harness := (true, "c534c83dbee223558bb360db32efc8534e03661e52614f04e6ccad011a909241"), looks := true }, kinds := [], alts := [], laidByText := true, laidKinds := [.data, .data, .data, .data, .pinned], laidTests := true, laidLooks := .later }
def ChunkedLargeUptoCardSaid : Prop := Claim7.holds Tryd.pinned (.plain (OpenSpec.upto chunkedLargeSpec)) chunkedLargeUptoCard
end Rows
end Go.Proofs.YthlfhbhjiofneaaDoor
