/-
  DERIVED. GIVEN WITH THE SEED: THE CARDS: each row of YtoiampkdmjpljaaGreatDoorRows.lean that lists a variable, with what it lists TIED to the program's text (the seventh form; the later family's looks); each row that meets fmt, with fmt's text TOLD by the authors' own Lean function (tested against real Go, not proved from fmt's source: count such statements apart). THE CARD IS WHAT COUNTS. Prove the row's statement (the work); the ties are given (YtoiampkdmjpljaaGreatDoorTie.lean); close each card by the builder's one call (the guide's Derived/Test/ToyasCard.lean, 'card_holds'). Laid BY PROGRAM, IN A SANDBOX (cutbox-door.mjs). By AI agents, Wed Nov 11 2026. No macro, syntax, notation, axiom, sorry.
-/
import Derived.Test.YtoiampkdmjpljaaGreatDoorRows
import GoSem.ClaimSeven
namespace Go.Proofs.YtoiampkdmjpljaaGreatDoor
namespace Rows

/-- THE TIED CARD OF 'quaysidelaw15.StorableReasons'. -/
def storableReasonsCard : Claim7 := { stood := { row := storableReasonsRow, standIns := [], harness := (true, "26254c479503f04da53f5458d9fbbdb6ee4b0d7d731b2b755f38ca89ce279789"), looks := true }, kinds := [], alts := [], laidByText := true, laidKinds := [.data, .data, .data, .data, .sentinel, .sentinel, .data, .data, .pinned], laidTests := true, laidLooks := .later }
def StorableReasonsCardSaid : Prop := Claim7.holds Tryz.pinned (.plain (OpenSpec.ofChange storableReasonsSpec)) storableReasonsCard

/-- THE TIED CARD OF 'quaysidelaw15.StorablePasses'. -/
def storablePassesCard : Claim7 := { stood := { row := storablePassesRow, standIns := [], harness := (true, "26254c479503f04da53f5458d9fbbdb6ee4b0d7d731b2b755f38ca89ce279789"), looks := true }, kinds := [], alts := [], laidByText := true, laidKinds := [.data, .data, .data, .data, .sentinel, .sentinel, .data, .data, .pinned], laidTests := true, laidLooks := .later }
def StorablePassesCardSaid : Prop := Claim7.holds Tryz.pinned (.plain (OpenSpec.ofChange storablePassesSpec)) storablePassesCard

/-- THE TIED CARD OF 'quaysidelaw15.StorableForbids'. -/
def storableForbidsCard : Claim7 := { stood := { row := storableForbidsRow, standIns := [], harness := (true, "26254c479503f04da53f5458d9fbbdb6ee4b0d7d731b2b755f38ca89ce279789"), looks := true }, kinds := [], alts := [], laidByText := true, laidKinds := [.data, .data, .data, .data, .sentinel, .sentinel, .data, .data, .pinned], laidTests := true, laidLooks := .later }
def StorableForbidsCardSaid : Prop := Claim7.holds Tryz.pinned (.plain (OpenSpec.ofChange storableForbidsSpec)) storableForbidsCard

/-- THE TIED CARD OF 'quaysidelaw15.StorableAuthorizes'. -/
def storableAuthorizesCard : Claim7 := { stood := { row := storableAuthorizesRow, standIns := [], harness := (true, "26254c479503f04da53f5458d9fbbdb6ee4b0d7d731b2b755f38ca89ce279789"), looks := true }, kinds := [], alts := [], laidByText := true, laidKinds := [.data, .data, .data, .data, .sentinel, .sentinel, .data, .data, .pinned], laidTests := true, laidLooks := .later }
def StorableAuthorizesCardSaid : Prop := Claim7.holds Tryz.pinned (.plain (OpenSpec.ofChange storableAuthorizesSpec)) storableAuthorizesCard

/-- THE TIED CARD OF 'quaysidelaw15.StorableUpdates'. -/
def storableUpdatesCard : Claim7 := { stood := { row := storableUpdatesRow, standIns := [], harness := (true, "26254c479503f04da53f5458d9fbbdb6ee4b0d7d731b2b755f38ca89ce279789"), looks := true }, kinds := [], alts := [], laidByText := true, laidKinds := [.data, .data, .data, .data, .sentinel, .sentinel, .data, .data, .pinned], laidTests := true, laidLooks := .later }
def StorableUpdatesCardSaid : Prop := Claim7.holds Tryz.pinned (.plain (OpenSpec.ofChange storableUpdatesSpec)) storableUpdatesCard

/-- THE TIED CARD OF 'quaysidelaw15.StorableKeeps'. -/
def storableKeepsCard : Claim7 := { stood := { row := storableKeepsRow, standIns := [], harness := (true, "26254c479503f04da53f5458d9fbbdb6ee4b0d7d731b2b755f38ca89ce279789"), looks := true }, kinds := [], alts := [], laidByText := true, laidKinds := [.data, .data, .data, .data, .sentinel, .sentinel, .data, .data, .pinned], laidTests := true, laidLooks := .later }
def StorableKeepsCardSaid : Prop := Claim7.holds Tryz.pinned (.plain (OpenSpec.ofChange storableKeepsSpec)) storableKeepsCard

/-- THE TIED CARD OF 'quaysidelaw15.StorableMixes'. -/
def storableMixesCard : Claim7 := { stood := { row := storableMixesRow, standIns := [], harness := (true, "26254c479503f04da53f5458d9fbbdb6ee4b0d7d731b2b755f38ca89ce279789"), looks := true }, kinds := [], alts := [], laidByText := true, laidKinds := [.data, .data, .data, .data, .sentinel, .sentinel, .data, .data, .pinned], laidTests := true, laidLooks := .later }
def StorableMixesCardSaid : Prop := Claim7.holds Tryz.pinned (.plain (OpenSpec.ofChange storableMixesSpec)) storableMixesCard

/-- THE TIED CARD OF 'quaysidelaw15.StorableMethods'. -/
def storableMethodsCard : Claim7 := { stood := { row := storableMethodsRow, standIns := [], harness := (true, "26254c479503f04da53f5458d9fbbdb6ee4b0d7d731b2b755f38ca89ce279789"), looks := true }, kinds := [], alts := [], laidByText := true, laidKinds := [.data, .data, .data, .data, .sentinel, .sentinel, .data, .data, .pinned], laidTests := true, laidLooks := .later }
def StorableMethodsCardSaid : Prop := Claim7.holds Tryz.pinned (.plain (OpenSpec.ofChange storableMethodsSpec)) storableMethodsCard

/-- THE SECOND FORM's CARD OF 'quaysidelaw15.StorableReasons'. -/
def storableReasonsUptoCard : Claim7 := { stood := { row := storableReasonsUptoRow, standIns := [], harness := (true, "26254c479503f04da53f5458d9fbbdb6ee4b0d7d731b2b755f38ca89ce279789"), looks := true }, kinds := [], alts := [], laidByText := true, laidKinds := [.data, .data, .data, .data, .sentinel, .sentinel, .data, .data, .pinned], laidTests := true, laidLooks := .later }
def StorableReasonsUptoCardSaid : Prop := Claim7.holds Tryz.pinned (.plain (OpenSpec.upto storableReasonsSpec)) storableReasonsUptoCard

/-- THE SECOND FORM's CARD OF 'quaysidelaw15.StorablePasses'. -/
def storablePassesUptoCard : Claim7 := { stood := { row := storablePassesUptoRow, standIns := [], harness := (true, "26254c479503f04da53f5458d9fbbdb6ee4b0d7d731b2b755f38ca89ce279789"), looks := true }, kinds := [], alts := [], laidByText := true, laidKinds := [.data, .data, .data, .data, .sentinel, .sentinel, .data, .data, .pinned], laidTests := true, laidLooks := .later }
def StorablePassesUptoCardSaid : Prop := Claim7.holds Tryz.pinned (.plain (OpenSpec.upto storablePassesSpec)) storablePassesUptoCard

/-- THE SECOND FORM's CARD OF 'quaysidelaw15.StorableForbids'. -/
def storableForbidsUptoCard : Claim7 := { stood := { row := storableForbidsUptoRow, standIns := [], harness := (true, "26254c479503f04da53f5458d9fbbdb6ee4b0d7d731b2b755f38ca89ce279789"), looks := true }, kinds := [], alts := [], laidByText := true, laidKinds := [.data, .data, .data, .data, .sentinel, .sentinel, .data, .data, .pinned], laidTests := true, laidLooks := .later }
def StorableForbidsUptoCardSaid : Prop := Claim7.holds Tryz.pinned (.plain (OpenSpec.upto storableForbidsSpec)) storableForbidsUptoCard

/-- THE SECOND FORM's CARD OF 'quaysidelaw15.StorableAuthorizes'. -/
def storableAuthorizesUptoCard : Claim7 := { stood := { row := storableAuthorizesUptoRow, standIns := [], harness := (true, "26254c479503f04da53f5458d9fbbdb6ee4b0d7d731b2b755f38ca89ce279789"), looks := true }, kinds := [], alts := [], laidByText := true, laidKinds := [.data, .data, .data, .data, .sentinel, .sentinel, .data, .data, .pinned], laidTests := true, laidLooks := .later }
def StorableAuthorizesUptoCardSaid : Prop := Claim7.holds Tryz.pinned (.plain (OpenSpec.upto storableAuthorizesSpec)) storableAuthorizesUptoCard

/-- THE SECOND FORM's CARD OF 'quaysidelaw15.StorableUpdates'. -/
def storableUpdatesUptoCard : Claim7 := { stood := { row := storableUpdatesUptoRow, standIns := [], harness := (true, "26254c479503f04da53f5458d9fbbdb6ee4b0d7d731b2b755f38ca89ce279789"), looks := true }, kinds := [], alts := [], laidByText := true, laidKinds := [.data, .data, .data, .data, .sentinel, .sentinel, .data, .data, .pinned], laidTests := true, laidLooks := .later }
def StorableUpdatesUptoCardSaid : Prop := Claim7.holds Tryz.pinned (.plain (OpenSpec.upto storableUpdatesSpec)) storableUpdatesUptoCard

/-- THE SECOND FORM's CARD OF 'quaysidelaw15.StorableKeeps'. -/
def storableKeepsUptoCard : Claim7 := { stood := { row := storableKeepsUptoRow, standIns := [], harness := (true, "26254c479503f04da53f5458d9fbbdb6ee4b0d7d731b2b755f38ca89ce279789"), looks := true }, kinds := [], alts := [], laidByText := true, laidKinds := [.data, .data, .data, .data, .sentinel, .sentinel, .data, .data, .pinned], laidTests := true, laidLooks := .later }
def StorableKeepsUptoCardSaid : Prop := Claim7.holds Tryz.pinned (.plain (OpenSpec.upto storableKeepsSpec)) storableKeepsUptoCard

/-- THE SECOND FORM's CARD OF 'quaysidelaw15.StorableMixes'. -/
def storableMixesUptoCard : Claim7 := { stood := { row := storableMixesUptoRow, standIns := [], harness := (true, "26254c479503f04da53f5458d9fbbdb6ee4b0d7d731b2b755f38ca89ce279789"), looks := true }, kinds := [], alts := [], laidByText := true, laidKinds := [.data, .data, .data, .data, .sentinel, .sentinel, .data, .data, .pinned], laidTests := true, laidLooks := .later }
def StorableMixesUptoCardSaid : Prop := Claim7.holds Tryz.pinned (.plain (OpenSpec.upto storableMixesSpec)) storableMixesUptoCard

/-- THE SECOND FORM's CARD OF 'quaysidelaw15.StorableMethods'. -/
def storableMethodsUptoCard : Claim7 := { stood := { row := storableMethodsUptoRow, standIns := [], harness := (true, "26254c479503f04da53f5458d9fbbdb6ee4b0d7d731b2b755f38ca89ce279789"), looks := true }, kinds := [], alts := [], laidByText := true, laidKinds := [.data, .data, .data, .data, .sentinel, .sentinel, .data, .data, .pinned], laidTests := true, laidLooks := .later }
def StorableMethodsUptoCardSaid : Prop := Claim7.holds Tryz.pinned (.plain (OpenSpec.upto storableMethodsSpec)) storableMethodsUptoCard
end Rows
end Go.Proofs.YtoiampkdmjpljaaGreatDoor
