/-
  DERIVED. GIVEN WITH THE SEED: THE CARDS: each row of YtboemdhmmdcmpaaDoorRows.lean that lists a variable, with what it lists TIED to the program's text (the seventh form; the later family's looks); each row that meets fmt, with fmt's text TOLD by the authors' own Lean function (tested against real Go, not proved from fmt's source: count such statements apart). THE CARD IS WHAT COUNTS. Prove the row's statement (the work); the ties are given (YtboemdhmmdcmpaaDoorTie.lean); close each card by the builder's one call (the guide's Derived/Test/ToyasCard.lean, 'card_holds'). Laid BY PROGRAM, IN A SANDBOX (cutbox-door.mjs). By AI agents, Wed Nov 11 2026. No macro, syntax, notation, axiom, sorry.
-/
import Derived.Test.YtboemdhmmdcmpaaDoorRows
import GoSem.ClaimSeven
namespace Go.Proofs.YtboemdhmmdcmpaaDoor
namespace Rows

/-- THE TIED CARD OF 'quaysidelaw05.HeadAnswers'. -/
def headAnswersCard : Claim7 := { stood := { row := headAnswersRow, standIns := [], harness := (true, "8089efa98e26cbd8b7aa9c1d6310398ee1e5b9c3a1c0f55d35695a1b58ac4e49"), looks := true }, kinds := [], alts := [], laidByText := true, laidKinds := [.data, .data, .data, .data, .sentinel, .pinned], laidTests := true, laidLooks := .later }
def HeadAnswersCardSaid : Prop := Claim7.holds Tryd.pinned (.plain (OpenSpec.ofChange headAnswersSpec)) headAnswersCard

/-- THE TIED CARD OF 'quaysidelaw07.ChunkedEncodes'. -/
def chunkedEncodesCard : Claim7 := { stood := { row := chunkedEncodesRow, standIns := [], harness := (true, "8089efa98e26cbd8b7aa9c1d6310398ee1e5b9c3a1c0f55d35695a1b58ac4e49"), looks := true }, kinds := [], alts := [], laidByText := true, laidKinds := [.data, .data, .data, .data, .pinned], laidTests := true, laidLooks := .later }
def ChunkedEncodesCardSaid : Prop := Claim7.holds Tryd.pinned (.plain (OpenSpec.ofChange chunkedEncodesSpec)) chunkedEncodesCard

/-- THE TIED CARD OF 'quaysidelaw07.ChunkedReturns'. -/
def chunkedReturnsCard : Claim7 := { stood := { row := chunkedReturnsRow, standIns := [], harness := (true, "8089efa98e26cbd8b7aa9c1d6310398ee1e5b9c3a1c0f55d35695a1b58ac4e49"), looks := true }, kinds := [], alts := [], laidByText := true, laidKinds := [.data, .data, .data, .data, .pinned], laidTests := true, laidLooks := .later }
def ChunkedReturnsCardSaid : Prop := Claim7.holds Tryd.pinned (.plain (OpenSpec.ofChange chunkedReturnsSpec)) chunkedReturnsCard

/-- THE TIED CARD OF 'quaysidelaw07.ChunkedSpoilt'. -/
def chunkedSpoiltCard : Claim7 := { stood := { row := chunkedSpoiltRow, standIns := [], harness := (true, "8089efa98e26cbd8b7aa9c1d6310398ee1e5b9c3a1c0f55d35695a1b58ac4e49"), looks := true }, kinds := [], alts := [], laidByText := true, laidKinds := [.data, .data, .data, .data, .pinned], laidTests := true, laidLooks := .later }
def ChunkedSpoiltCardSaid : Prop := Claim7.holds Tryd.pinned (.plain (OpenSpec.ofChange chunkedSpoiltSpec)) chunkedSpoiltCard

/-- THE TIED CARD OF 'quaysidelaw07.ChunkedLarge'. -/
def chunkedLargeCard : Claim7 := { stood := { row := chunkedLargeRow, standIns := [], harness := (true, "8089efa98e26cbd8b7aa9c1d6310398ee1e5b9c3a1c0f55d35695a1b58ac4e49"), looks := true }, kinds := [], alts := [], laidByText := true, laidKinds := [.data, .data, .data, .data, .pinned], laidTests := true, laidLooks := .later }
def ChunkedLargeCardSaid : Prop := Claim7.holds Tryd.pinned (.plain (OpenSpec.ofChange chunkedLargeSpec)) chunkedLargeCard

/-- THE SECOND FORM's CARD OF 'quaysidelaw05.HeadAnswers'. -/
def headAnswersUptoCard : Claim7 := { stood := { row := headAnswersUptoRow, standIns := [], harness := (true, "8089efa98e26cbd8b7aa9c1d6310398ee1e5b9c3a1c0f55d35695a1b58ac4e49"), looks := true }, kinds := [], alts := [], laidByText := true, laidKinds := [.data, .data, .data, .data, .sentinel, .pinned], laidTests := true, laidLooks := .later }
def HeadAnswersUptoCardSaid : Prop := Claim7.holds Tryd.pinned (.plain (OpenSpec.upto headAnswersSpec)) headAnswersUptoCard

/-- THE SECOND FORM's CARD OF 'quaysidelaw07.ChunkedEncodes'. -/
def chunkedEncodesUptoCard : Claim7 := { stood := { row := chunkedEncodesUptoRow, standIns := [], harness := (true, "8089efa98e26cbd8b7aa9c1d6310398ee1e5b9c3a1c0f55d35695a1b58ac4e49"), looks := true }, kinds := [], alts := [], laidByText := true, laidKinds := [.data, .data, .data, .data, .pinned], laidTests := true, laidLooks := .later }
def ChunkedEncodesUptoCardSaid : Prop := Claim7.holds Tryd.pinned (.plain (OpenSpec.upto chunkedEncodesSpec)) chunkedEncodesUptoCard

/-- THE SECOND FORM's CARD OF 'quaysidelaw07.ChunkedReturns'. -/
def chunkedReturnsUptoCard : Claim7 := { stood := { row := chunkedReturnsUptoRow, standIns := [], harness := (true, "8089efa98e26cbd8b7aa9c1d6310398ee1e5b9c3a1c0f55d35695a1b58ac4e49"), looks := true }, kinds := [], alts := [], laidByText := true, laidKinds := [.data, .data, .data, .data, .pinned], laidTests := true, laidLooks := .later }
def ChunkedReturnsUptoCardSaid : Prop := Claim7.holds Tryd.pinned (.plain (OpenSpec.upto chunkedReturnsSpec)) chunkedReturnsUptoCard

/-- THE SECOND FORM's CARD OF 'quaysidelaw07.ChunkedSpoilt'. -/
def chunkedSpoiltUptoCard : Claim7 := { stood := { row := chunkedSpoiltUptoRow, standIns := [], harness := (true, "8089efa98e26cbd8b7aa9c1d6310398ee1e5b9c3a1c0f55d35695a1b58ac4e49"), looks := true }, kinds := [], alts := [], laidByText := true, laidKinds := [.data, .data, .data, .data, .pinned], laidTests := true, laidLooks := .later }
def ChunkedSpoiltUptoCardSaid : Prop := Claim7.holds Tryd.pinned (.plain (OpenSpec.upto chunkedSpoiltSpec)) chunkedSpoiltUptoCard

/-- THE SECOND FORM's CARD OF 'quaysidelaw07.ChunkedLarge'. -/
def chunkedLargeUptoCard : Claim7 := { stood := { row := chunkedLargeUptoRow, standIns := [], harness := (true, "8089efa98e26cbd8b7aa9c1d6310398ee1e5b9c3a1c0f55d35695a1b58ac4e49"), looks := true }, kinds := [], alts := [], laidByText := true, laidKinds := [.data, .data, .data, .data, .pinned], laidTests := true, laidLooks := .later }
def ChunkedLargeUptoCardSaid : Prop := Claim7.holds Tryd.pinned (.plain (OpenSpec.upto chunkedLargeSpec)) chunkedLargeUptoCard
end Rows
end Go.Proofs.YtboemdhmmdcmpaaDoor
