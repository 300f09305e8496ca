/-
  DERIVED. GIVEN WITH THE SEED: THE CARDS: each row of YtieolalohindgaaGreatDoorRows.lean that lists a variable, with what it lists TIED to the program's text (the seventh form; the later family's looks); each row that meets fmt, with fmt's text TOLD by the authors' own Lean function (tested against real Go, not proved from fmt's source: count such statements apart). THE CARD IS WHAT COUNTS. Prove the row's statement (the work); the ties are given (YtieolalohindgaaGreatDoorTie.lean); close each card by the builder's one call (the guide's Derived/Test/ToyasCard.lean, 'card_holds'). Laid BY PROGRAM, IN A SANDBOX (cutbox-door.mjs). By AI agents, Wed Nov 11 2026. No macro, syntax, notation, axiom, sorry.
-/
import Derived.Test.YtieolalohindgaaGreatDoorRows
import GoSem.ClaimSeven
namespace Go.Proofs.YtieolalohindgaaGreatDoor
namespace Rows

/-- THE TIED CARD OF 'quaysidelaw17.PolicyJudges'. -/
def policyJudgesCard : Claim7 := { stood := { row := policyJudgesRow, standIns := [], harness := (true, "6de4d6bb0575389d1b2e0d72d7e7324c02aa3abc6ad7a3673f8357468f63dd1b"), looks := true }, kinds := [], alts := [], laidByText := true, laidKinds := [.data, .data, .data, .data, .sentinel, .sentinel, .data, .data, .pinned], laidTests := true, laidLooks := .later }
def PolicyJudgesCardSaid : Prop := Claim7.holds Tryz.pinned (.plain (OpenSpec.ofChange policyJudgesSpec)) policyJudgesCard

/-- THE TIED CARD OF 'quaysidelaw17.PolicyErrors'. -/
def policyErrorsCard : Claim7 := { stood := { row := policyErrorsRow, standIns := [], harness := (true, "6de4d6bb0575389d1b2e0d72d7e7324c02aa3abc6ad7a3673f8357468f63dd1b"), looks := true }, kinds := [], alts := [], laidByText := true, laidKinds := [.data, .data, .data, .data, .sentinel, .sentinel, .data, .data, .pinned], laidTests := true, laidLooks := .later }
def PolicyErrorsCardSaid : Prop := Claim7.holds Tryz.pinned (.plain (OpenSpec.ofChange policyErrorsSpec)) policyErrorsCard

/-- THE TIED CARD OF 'quaysidelaw17.PolicyTruth'. -/
def policyTruthCard : Claim7 := { stood := { row := policyTruthRow, standIns := [], harness := (true, "6de4d6bb0575389d1b2e0d72d7e7324c02aa3abc6ad7a3673f8357468f63dd1b"), looks := true }, kinds := [], alts := [], laidByText := true, laidKinds := [.data, .data, .data, .data, .sentinel, .sentinel, .data, .data, .pinned], laidTests := true, laidLooks := .later }
def PolicyTruthCardSaid : Prop := Claim7.holds Tryz.pinned (.plain (OpenSpec.ofChange policyTruthSpec)) policyTruthCard

/-- THE TIED CARD OF 'quaysidelaw17.PolicyStricter'. -/
def policyStricterCard : Claim7 := { stood := { row := policyStricterRow, standIns := [], harness := (true, "6de4d6bb0575389d1b2e0d72d7e7324c02aa3abc6ad7a3673f8357468f63dd1b"), looks := true }, kinds := [], alts := [], laidByText := true, laidKinds := [.data, .data, .data, .data, .sentinel, .sentinel, .data, .data, .pinned], laidTests := true, laidLooks := .later }
def PolicyStricterCardSaid : Prop := Claim7.holds Tryz.pinned (.plain (OpenSpec.ofChange policyStricterSpec)) policyStricterCard

/-- THE TIED CARD OF 'quaysidelaw17.PolicyLater'. -/
def policyLaterCard : Claim7 := { stood := { row := policyLaterRow, standIns := [], harness := (true, "6de4d6bb0575389d1b2e0d72d7e7324c02aa3abc6ad7a3673f8357468f63dd1b"), looks := true }, kinds := [], alts := [], laidByText := true, laidKinds := [.data, .data, .data, .data, .sentinel, .sentinel, .data, .data, .pinned], laidTests := true, laidLooks := .later }
def PolicyLaterCardSaid : Prop := Claim7.holds Tryz.pinned (.plain (OpenSpec.ofChange policyLaterSpec)) policyLaterCard

/-- THE TIED CARD OF 'quaysidelaw17.PolicyPlain'. -/
def policyPlainCard : Claim7 := { stood := { row := policyPlainRow, standIns := [], harness := (true, "6de4d6bb0575389d1b2e0d72d7e7324c02aa3abc6ad7a3673f8357468f63dd1b"), looks := true }, kinds := [], alts := [], laidByText := true, laidKinds := [.data, .data, .data, .data, .sentinel, .sentinel, .data, .data, .pinned], laidTests := true, laidLooks := .later }
def PolicyPlainCardSaid : Prop := Claim7.holds Tryz.pinned (.plain (OpenSpec.ofChange policyPlainSpec)) policyPlainCard

/-- THE TIED CARD OF 'quaysidelaw17.PolicyValidators'. -/
def policyValidatorsCard : Claim7 := { stood := { row := policyValidatorsRow, standIns := [], harness := (true, "6de4d6bb0575389d1b2e0d72d7e7324c02aa3abc6ad7a3673f8357468f63dd1b"), looks := true }, kinds := [], alts := [], laidByText := true, laidKinds := [.data, .data, .data, .data, .sentinel, .sentinel, .data, .data, .pinned], laidTests := true, laidLooks := .later }
def PolicyValidatorsCardSaid : Prop := Claim7.holds Tryz.pinned (.plain (OpenSpec.ofChange policyValidatorsSpec)) policyValidatorsCard

/-- THE SECOND FORM's CARD OF 'quaysidelaw17.PolicyJudges'. -/
def policyJudgesUptoCard : Claim7 := { stood := { row := policyJudgesUptoRow, standIns := [], harness := (true, "6de4d6bb0575389d1b2e0d72d7e7324c02aa3abc6ad7a3673f8357468f63dd1b"), looks := true }, kinds := [], alts := [], laidByText := true, laidKinds := [.data, .data, .data, .data, .sentinel, .sentinel, .data, .data, .pinned], laidTests := true, laidLooks := .later }
def PolicyJudgesUptoCardSaid : Prop := Claim7.holds Tryz.pinned (.plain (OpenSpec.upto policyJudgesSpec)) policyJudgesUptoCard

/-- THE SECOND FORM's CARD OF 'quaysidelaw17.PolicyErrors'. -/
def policyErrorsUptoCard : Claim7 := { stood := { row := policyErrorsUptoRow, standIns := [], harness := (true, "6de4d6bb0575389d1b2e0d72d7e7324c02aa3abc6ad7a3673f8357468f63dd1b"), looks := true }, kinds := [], alts := [], laidByText := true, laidKinds := [.data, .data, .data, .data, .sentinel, .sentinel, .data, .data, .pinned], laidTests := true, laidLooks := .later }
def PolicyErrorsUptoCardSaid : Prop := Claim7.holds Tryz.pinned (.plain (OpenSpec.upto policyErrorsSpec)) policyErrorsUptoCard

/-- THE SECOND FORM's CARD OF 'quaysidelaw17.PolicyTruth'. -/
def policyTruthUptoCard : Claim7 := { stood := { row := policyTruthUptoRow, standIns := [], harness := (true, "6de4d6bb0575389d1b2e0d72d7e7324c02aa3abc6ad7a3673f8357468f63dd1b"), looks := true }, kinds := [], alts := [], laidByText := true, laidKinds := [.data, .data, .data, .data, .sentinel, .sentinel, .data, .data, .pinned], laidTests := true, laidLooks := .later }
def PolicyTruthUptoCardSaid : Prop := Claim7.holds Tryz.pinned (.plain (OpenSpec.upto policyTruthSpec)) policyTruthUptoCard

/-- THE SECOND FORM's CARD OF 'quaysidelaw17.PolicyStricter'. -/
def policyStricterUptoCard : Claim7 := { stood := { row := policyStricterUptoRow, standIns := [], harness := (true, "6de4d6bb0575389d1b2e0d72d7e7324c02aa3abc6ad7a3673f8357468f63dd1b"), looks := true }, kinds := [], alts := [], laidByText := true, laidKinds := [.data, .data, .data, .data, .sentinel, .sentinel, .data, .data, .pinned], laidTests := true, laidLooks := .later }
def PolicyStricterUptoCardSaid : Prop := Claim7.holds Tryz.pinned (.plain (OpenSpec.upto policyStricterSpec)) policyStricterUptoCard

/-- THE SECOND FORM's CARD OF 'quaysidelaw17.PolicyLater'. -/
def policyLaterUptoCard : Claim7 := { stood := { row := policyLaterUptoRow, standIns := [], harness := (true, "6de4d6bb0575389d1b2e0d72d7e7324c02aa3abc6ad7a3673f8357468f63dd1b"), looks := true }, kinds := [], alts := [], laidByText := true, laidKinds := [.data, .data, .data, .data, .sentinel, .sentinel, .data, .data, .pinned], laidTests := true, laidLooks := .later }
def PolicyLaterUptoCardSaid : Prop := Claim7.holds Tryz.pinned (.plain (OpenSpec.upto policyLaterSpec)) policyLaterUptoCard

/-- THE SECOND FORM's CARD OF 'quaysidelaw17.PolicyPlain'. -/
def policyPlainUptoCard : Claim7 := { stood := { row := policyPlainUptoRow, standIns := [], harness := (true, "6de4d6bb0575389d1b2e0d72d7e7324c02aa3abc6ad7a3673f8357468f63dd1b"), looks := true }, kinds := [], alts := [], laidByText := true, laidKinds := [.data, .data, .data, .data, .sentinel, .sentinel, .data, .data, .pinned], laidTests := true, laidLooks := .later }
def PolicyPlainUptoCardSaid : Prop := Claim7.holds Tryz.pinned (.plain (OpenSpec.upto policyPlainSpec)) policyPlainUptoCard

/-- THE SECOND FORM's CARD OF 'quaysidelaw17.PolicyValidators'. -/
def policyValidatorsUptoCard : Claim7 := { stood := { row := policyValidatorsUptoRow, standIns := [], harness := (true, "6de4d6bb0575389d1b2e0d72d7e7324c02aa3abc6ad7a3673f8357468f63dd1b"), looks := true }, kinds := [], alts := [], laidByText := true, laidKinds := [.data, .data, .data, .data, .sentinel, .sentinel, .data, .data, .pinned], laidTests := true, laidLooks := .later }
def PolicyValidatorsUptoCardSaid : Prop := Claim7.holds Tryz.pinned (.plain (OpenSpec.upto policyValidatorsSpec)) policyValidatorsUptoCard
end Rows
end Go.Proofs.YtieolalohindgaaGreatDoor
