/-
  DERIVED. GIVEN WITH THE SEED: THE CARDS: each row of YtllkldbiagkbcaaGreatDoorRows.lean that lists a variable, with what it lists TIED to the program's text (the seventh form; the later family's looks); each row that meets fmt, with fmt's text TOLD by the authors' own Lean function (tested against real Go, not proved from fmt's source: count such statements apart). THE CARD IS WHAT COUNTS. Prove the row's statement (the work); the ties are given (YtllkldbiagkbcaaGreatDoorTie.lean); close each card by the builder's one call (the guide's Derived/Test/ToyasCard.lean, 'card_holds'). Laid BY PROGRAM, IN A SANDBOX (cutbox-door.mjs). By AI agents, Wed Nov 11 2026. No macro, syntax, notation, axiom, sorry.
-/
import Derived.Test.YtllkldbiagkbcaaGreatDoorRows
import GoSem.ClaimSeven
namespace Go.Proofs.YtllkldbiagkbcaaGreatDoor
namespace Rows

/-- THE TIED CARD OF 'quaysidelaw03.AddressParses'. -/
def addressParsesCard : Claim7 := { stood := { row := addressParsesRow, standIns := [], harness := (true, "27adfbe0cb4a3bd9ce3f506f1c4d61009b7862b7692c63815b3de5a00c0901c6"), looks := true }, kinds := [], alts := [], laidByText := true, laidKinds := [.data, .data, .data, .data, .sentinel, .sentinel, .pinned, .pinned], laidTests := true, laidLooks := .later }
def AddressParsesCardSaid : Prop := Claim7.holds Tryz.pinned (.plain (OpenSpec.ofChange addressParsesSpec)) addressParsesCard

/-- THE TIED CARD OF 'quaysidelaw03.AddressFormats'. -/
def addressFormatsCard : Claim7 := { stood := { row := addressFormatsRow, standIns := [], harness := (true, "27adfbe0cb4a3bd9ce3f506f1c4d61009b7862b7692c63815b3de5a00c0901c6"), looks := true }, kinds := [], alts := [], laidByText := true, laidKinds := [.data, .data, .data, .data, .sentinel, .sentinel, .pinned, .pinned], laidTests := true, laidLooks := .later }
def AddressFormatsCardSaid : Prop := Claim7.holds Tryz.pinned (.plain (OpenSpec.ofChange addressFormatsSpec)) addressFormatsCard

/-- THE TIED CARD OF 'quaysidelaw03.AddressReads'. -/
def addressReadsCard : Claim7 := { stood := { row := addressReadsRow, standIns := [], harness := (true, "27adfbe0cb4a3bd9ce3f506f1c4d61009b7862b7692c63815b3de5a00c0901c6"), looks := true }, kinds := [], alts := [], laidByText := true, laidKinds := [.data, .data, .data, .data, .sentinel, .sentinel, .pinned, .pinned], laidTests := true, laidLooks := .later }
def AddressReadsCardSaid : Prop := Claim7.holds Tryz.pinned (.plain (OpenSpec.ofChange addressReadsSpec)) addressReadsCard

/-- THE SECOND FORM's CARD OF 'quaysidelaw03.AddressParses'. -/
def addressParsesUptoCard : Claim7 := { stood := { row := addressParsesUptoRow, standIns := [], harness := (true, "27adfbe0cb4a3bd9ce3f506f1c4d61009b7862b7692c63815b3de5a00c0901c6"), looks := true }, kinds := [], alts := [], laidByText := true, laidKinds := [.data, .data, .data, .data, .sentinel, .sentinel, .pinned, .pinned], laidTests := true, laidLooks := .later }
def AddressParsesUptoCardSaid : Prop := Claim7.holds Tryz.pinned (.plain (OpenSpec.upto addressParsesSpec)) addressParsesUptoCard

/-- THE SECOND FORM's CARD OF 'quaysidelaw03.AddressFormats'. -/
def addressFormatsUptoCard : Claim7 := { stood := { row := addressFormatsUptoRow, standIns := [], harness := (true, "27adfbe0cb4a3bd9ce3f506f1c4d61009b7862b7692c63815b3de5a00c0901c6"), looks := true }, kinds := [], alts := [], laidByText := true, laidKinds := [.data, .data, .data, .data, .sentinel, .sentinel, .pinned, .pinned], laidTests := true, laidLooks := .later }
def AddressFormatsUptoCardSaid : Prop := Claim7.holds Tryz.pinned (.plain (OpenSpec.upto addressFormatsSpec)) addressFormatsUptoCard

/-- THE SECOND FORM's CARD OF 'quaysidelaw03.AddressReads'. -/
def addressReadsUptoCard : Claim7 := { stood := { row := addressReadsUptoRow, standIns := [], harness := (true, "27adfbe0cb4a3bd9ce3f506f1c4d61009b7862b7692c63815b3de5a00c0901c6"), looks := true }, kinds := [], alts := [], laidByText := true, laidKinds := [.data, .data, .data, .data, .sentinel, .sentinel, .pinned, .pinned], laidTests := true, laidLooks := .later }
def AddressReadsUptoCardSaid : Prop := Claim7.holds Tryz.pinned (.plain (OpenSpec.upto addressReadsSpec)) addressReadsUptoCard
end Rows
end Go.Proofs.YtllkldbiagkbcaaGreatDoor
