/-
  DERIVED. GIVEN WITH THE SEED: THE CARDS: each row of YtfmgfcddnnggeaaGreatDoorRows.lean that lists a variable, with what it lists TIED to the program's text (the seventh form; the later family's looks); each row that meets fmt, with fmt's text TOLD by the authors' own Lean function (tested against real Go, not proved from fmt's source: count such statements apart). THE CARD IS WHAT COUNTS. Prove the row's statement (the work); the ties are given (YtfmgfcddnnggeaaGreatDoorTie.lean); close each card by the builder's one call (the guide's Derived/Test/ToyasCard.lean, 'card_holds'). Laid BY PROGRAM, IN A SANDBOX (cutbox-door.mjs). By AI agents, Wed Nov 11 2026. No macro, syntax, notation, axiom, sorry.
-/
import Derived.Test.YtfmgfcddnnggeaaGreatDoorRows
import GoSem.ClaimSeven
namespace Go.Proofs.YtfmgfcddnnggeaaGreatDoor
namespace Rows

/-- THE TIED CARD OF 'quaysidelaw08.ConnMany'. -/
def connManyCard : Claim7 := { stood := { row := connManyRow, standIns := [], harness := (true, "820bec1d679180dd6939adf5bec44f00c6583234f133a9f08ea22e7c2d317025"), looks := true }, kinds := [], alts := [], laidByText := true, laidKinds := [.data, .pinned], laidTests := true, laidLooks := .later }
def ConnManyCardSaid : Prop := Claim7.holds Tryz.pinned (.plain (OpenSpec.ofChange connManySpec)) connManyCard

/-- THE TIED CARD OF 'quaysidelaw08.ConnCloses'. -/
def connClosesCard : Claim7 := { stood := { row := connClosesRow, standIns := [], harness := (true, "820bec1d679180dd6939adf5bec44f00c6583234f133a9f08ea22e7c2d317025"), looks := true }, kinds := [], alts := [], laidByText := true, laidKinds := [.data, .pinned], laidTests := true, laidLooks := .later }
def ConnClosesCardSaid : Prop := Claim7.holds Tryz.pinned (.plain (OpenSpec.ofChange connClosesSpec)) connClosesCard

/-- THE TIED CARD OF 'quaysidelaw08.ConnNone'. -/
def connNoneCard : Claim7 := { stood := { row := connNoneRow, standIns := [], harness := (true, "820bec1d679180dd6939adf5bec44f00c6583234f133a9f08ea22e7c2d317025"), looks := true }, kinds := [], alts := [], laidByText := true, laidKinds := [.data, .pinned], laidTests := true, laidLooks := .later }
def ConnNoneCardSaid : Prop := Claim7.holds Tryz.pinned (.plain (OpenSpec.ofChange connNoneSpec)) connNoneCard

/-- THE SECOND FORM's CARD OF 'quaysidelaw08.ConnMany'. -/
def connManyUptoCard : Claim7 := { stood := { row := connManyUptoRow, standIns := [], harness := (true, "820bec1d679180dd6939adf5bec44f00c6583234f133a9f08ea22e7c2d317025"), looks := true }, kinds := [], alts := [], laidByText := true, laidKinds := [.data, .pinned], laidTests := true, laidLooks := .later }
def ConnManyUptoCardSaid : Prop := Claim7.holds Tryz.pinned (.plain (OpenSpec.upto connManySpec)) connManyUptoCard

/-- THE SECOND FORM's CARD OF 'quaysidelaw08.ConnCloses'. -/
def connClosesUptoCard : Claim7 := { stood := { row := connClosesUptoRow, standIns := [], harness := (true, "820bec1d679180dd6939adf5bec44f00c6583234f133a9f08ea22e7c2d317025"), looks := true }, kinds := [], alts := [], laidByText := true, laidKinds := [.data, .pinned], laidTests := true, laidLooks := .later }
def ConnClosesUptoCardSaid : Prop := Claim7.holds Tryz.pinned (.plain (OpenSpec.upto connClosesSpec)) connClosesUptoCard

/-- THE SECOND FORM's CARD OF 'quaysidelaw08.ConnNone'. -/
def connNoneUptoCard : Claim7 := { stood := { row := connNoneUptoRow, standIns := [], harness := (true, "820bec1d679180dd6939adf5bec44f00c6583234f133a9f08ea22e7c2d317025"), looks := true }, kinds := [], alts := [], laidByText := true, laidKinds := [.data, .pinned], laidTests := true, laidLooks := .later }
def ConnNoneUptoCardSaid : Prop := Claim7.holds Tryz.pinned (.plain (OpenSpec.upto connNoneSpec)) connNoneUptoCard
end Rows
end Go.Proofs.YtfmgfcddnnggeaaGreatDoor
