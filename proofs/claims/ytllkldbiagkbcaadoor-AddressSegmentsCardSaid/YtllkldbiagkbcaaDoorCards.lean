/-
  DERIVED. GIVEN WITH THE SEED: THE CARDS: each row of YtllkldbiagkbcaaDoorRows.lean that lists a variable, with what it lists TIED to the program's text (the seventh form; the later family's looks); each row that meets fmt, with fmt's text TOLD by the authors' own Lean function (tested against real Go, not proved from fmt's source: count such statements apart). THE CARD IS WHAT COUNTS. Prove the row's statement (the work); the ties are given (YtllkldbiagkbcaaDoorTie.lean); close each card by the builder's one call (the guide's Derived/Test/ToyasCard.lean, 'card_holds'). Laid BY PROGRAM, IN A SANDBOX (cutbox-door.mjs). By AI agents, Wed Nov 11 2026. No macro, syntax, notation, axiom, sorry.
-/
import Derived.Test.YtllkldbiagkbcaaDoorRows
import GoSem.ClaimSeven
namespace Go.Proofs.YtllkldbiagkbcaaDoor
namespace Rows

/-- THE TIED CARD OF 'quaysidelaw03.AddressHosts'. -/
def addressHostsCard : Claim7 := { stood := { row := addressHostsRow, standIns := [], harness := (true, "f391f4af829aae2ccd79db5e255a10ead2845d110f0bbccc0105b17bc61c87ac"), looks := true }, kinds := [], alts := [], laidByText := true, laidKinds := [.data, .data, .data, .data, .sentinel, .sentinel, .pinned, .pinned], laidTests := true, laidLooks := .later }
def AddressHostsCardSaid : Prop := Claim7.holds Tryd.pinned (.plain (OpenSpec.ofChange addressHostsSpec)) addressHostsCard

/-- THE TIED CARD OF 'quaysidelaw03.AddressReturns'. -/
def addressReturnsCard : Claim7 := { stood := { row := addressReturnsRow, standIns := [], harness := (true, "f391f4af829aae2ccd79db5e255a10ead2845d110f0bbccc0105b17bc61c87ac"), looks := true }, kinds := [], alts := [], laidByText := true, laidKinds := [.data, .data, .data, .data, .sentinel, .sentinel, .pinned, .pinned], laidTests := true, laidLooks := .later }
def AddressReturnsCardSaid : Prop := Claim7.holds Tryd.pinned (.plain (OpenSpec.ofChange addressReturnsSpec)) addressReturnsCard

/-- THE TIED CARD OF 'quaysidelaw03.AddressEquals'. -/
def addressEqualsCard : Claim7 := { stood := { row := addressEqualsRow, standIns := [], harness := (true, "f391f4af829aae2ccd79db5e255a10ead2845d110f0bbccc0105b17bc61c87ac"), looks := true }, kinds := [], alts := [], laidByText := true, laidKinds := [.data, .data, .data, .data, .sentinel, .sentinel, .pinned, .pinned], laidTests := true, laidLooks := .later }
def AddressEqualsCardSaid : Prop := Claim7.holds Tryd.pinned (.plain (OpenSpec.ofChange addressEqualsSpec)) addressEqualsCard

/-- THE TIED CARD OF 'quaysidelaw03.AddressUnder'. -/
def addressUnderCard : Claim7 := { stood := { row := addressUnderRow, standIns := [], harness := (true, "f391f4af829aae2ccd79db5e255a10ead2845d110f0bbccc0105b17bc61c87ac"), looks := true }, kinds := [], alts := [], laidByText := true, laidKinds := [.data, .data, .data, .data, .sentinel, .sentinel, .pinned, .pinned], laidTests := true, laidLooks := .later }
def AddressUnderCardSaid : Prop := Claim7.holds Tryd.pinned (.plain (OpenSpec.ofChange addressUnderSpec)) addressUnderCard

/-- THE TIED CARD OF 'quaysidelaw03.AddressSegments'. -/
def addressSegmentsCard : Claim7 := { stood := { row := addressSegmentsRow, standIns := [], harness := (true, "f391f4af829aae2ccd79db5e255a10ead2845d110f0bbccc0105b17bc61c87ac"), looks := true }, kinds := [], alts := [], laidByText := true, laidKinds := [.data, .data, .data, .data, .sentinel, .sentinel, .pinned, .pinned], laidTests := true, laidLooks := .later }
def AddressSegmentsCardSaid : Prop := Claim7.holds Tryd.pinned (.plain (OpenSpec.ofChange addressSegmentsSpec)) addressSegmentsCard

/-- THE TIED CARD OF 'quaysidelaw03.AddressArgs'. -/
def addressArgsCard : Claim7 := { stood := { row := addressArgsRow, standIns := [], harness := (true, "f391f4af829aae2ccd79db5e255a10ead2845d110f0bbccc0105b17bc61c87ac"), looks := true }, kinds := [], alts := [], laidByText := true, laidKinds := [.data, .data, .data, .data, .sentinel, .sentinel, .pinned, .pinned], laidTests := true, laidLooks := .later }
def AddressArgsCardSaid : Prop := Claim7.holds Tryd.pinned (.plain (OpenSpec.ofChange addressArgsSpec)) addressArgsCard

/-- THE SECOND FORM's CARD OF 'quaysidelaw03.AddressHosts'. -/
def addressHostsUptoCard : Claim7 := { stood := { row := addressHostsUptoRow, standIns := [], harness := (true, "f391f4af829aae2ccd79db5e255a10ead2845d110f0bbccc0105b17bc61c87ac"), looks := true }, kinds := [], alts := [], laidByText := true, laidKinds := [.data, .data, .data, .data, .sentinel, .sentinel, .pinned, .pinned], laidTests := true, laidLooks := .later }
def AddressHostsUptoCardSaid : Prop := Claim7.holds Tryd.pinned (.plain (OpenSpec.upto addressHostsSpec)) addressHostsUptoCard

/-- THE SECOND FORM's CARD OF 'quaysidelaw03.AddressReturns'. -/
def addressReturnsUptoCard : Claim7 := { stood := { row := addressReturnsUptoRow, standIns := [], harness := (true, "f391f4af829aae2ccd79db5e255a10ead2845d110f0bbccc0105b17bc61c87ac"), looks := true }, kinds := [], alts := [], laidByText := true, laidKinds := [.data, .data, .data, .data, .sentinel, .sentinel, .pinned, .pinned], laidTests := true, laidLooks := .later }
def AddressReturnsUptoCardSaid : Prop := Claim7.holds Tryd.pinned (.plain (OpenSpec.upto addressReturnsSpec)) addressReturnsUptoCard

/-- THE SECOND FORM's CARD OF 'quaysidelaw03.AddressEquals'. -/
def addressEqualsUptoCard : Claim7 := { stood := { row := addressEqualsUptoRow, standIns := [], harness := (true, "f391f4af829aae2ccd79db5e255a10ead2845d110f0bbccc0105b17bc61c87ac"), looks := true }, kinds := [], alts := [], laidByText := true, laidKinds := [.data, .data, .data, .data, .sentinel, .sentinel, .pinned, .pinned], laidTests := true, laidLooks := .later }
def AddressEqualsUptoCardSaid : Prop := Claim7.holds Tryd.pinned (.plain (OpenSpec.upto addressEqualsSpec)) addressEqualsUptoCard

/-- THE SECOND FORM's CARD OF 'quaysidelaw03.AddressUnder'. -/
def addressUnderUptoCard : Claim7 := { stood := { row := addressUnderUptoRow, standIns := [], harness := (true, "f391f4af829aae2ccd79db5e255a10ead2845d110f0bbccc0105b17bc61c87ac"), looks := true }, kinds := [], alts := [], laidByText := true, laidKinds := [.data, .data, .data, .data, .sentinel, .sentinel, .pinned, .pinned], laidTests := true, laidLooks := .later }
def AddressUnderUptoCardSaid : Prop := Claim7.holds Tryd.pinned (.plain (OpenSpec.upto addressUnderSpec)) addressUnderUptoCard

/-- THE SECOND FORM's CARD OF 'quaysidelaw03.AddressSegments'. -/
def addressSegmentsUptoCard : Claim7 := { stood := { row := addressSegmentsUptoRow, standIns := [], harness := (true, "f391f4af829aae2ccd79db5e255a10ead2845d110f0bbccc0105b17bc61c87ac"), looks := true }, kinds := [], alts := [], laidByText := true, laidKinds := [.data, .data, .data, .data, .sentinel, .sentinel, .pinned, .pinned], laidTests := true, laidLooks := .later }
def AddressSegmentsUptoCardSaid : Prop := Claim7.holds Tryd.pinned (.plain (OpenSpec.upto addressSegmentsSpec)) addressSegmentsUptoCard

/-- THE SECOND FORM's CARD OF 'quaysidelaw03.AddressArgs'. -/
def addressArgsUptoCard : Claim7 := { stood := { row := addressArgsUptoRow, standIns := [], harness := (true, "f391f4af829aae2ccd79db5e255a10ead2845d110f0bbccc0105b17bc61c87ac"), looks := true }, kinds := [], alts := [], laidByText := true, laidKinds := [.data, .data, .data, .data, .sentinel, .sentinel, .pinned, .pinned], laidTests := true, laidLooks := .later }
def AddressArgsUptoCardSaid : Prop := Claim7.holds Tryd.pinned (.plain (OpenSpec.upto addressArgsSpec)) addressArgsUptoCard
end Rows
end Go.Proofs.YtllkldbiagkbcaaDoor
