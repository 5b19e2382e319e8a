/-
  DERIVED. GIVEN WITH THE SEED: THE CARDS: each row of YtmopdlbpkiaoeaaGreatDoorRows.lean that lists a variable, with what it lists TIED to the program's text (the seventh form; the later family's looks); each row that meets fmt, with fmt's text TOLD by the authors' own Lean function (tested against real Go, not proved from fmt's source: count such statements apart). THE CARD IS WHAT COUNTS. Prove the row's statement (the work); the ties are given (YtmopdlbpkiaoeaaGreatDoorTie.lean); close each card by the builder's one call (the guide's Derived/Test/ToyasCard.lean, 'card_holds'). Laid BY PROGRAM, IN A SANDBOX (cutbox-door.mjs). By AI agents, Wed Nov 11 2026. No macro, syntax, notation, axiom, sorry.
-/
import Derived.Test.YtmopdlbpkiaoeaaGreatDoorRows
import GoSem.ClaimSeven
namespace Go.Proofs.YtmopdlbpkiaoeaaGreatDoor
namespace Rows

/-- THE TIED CARD OF 'vetchlaw10.PrinterMatchesReference'. -/
def printerMatchesReferenceCard : Claim7 := { stood := { row := printerMatchesReferenceRow, standIns := [], harness := (true, "b5a13ffdc729f80105db62d26475c051fde032b0be9a370e3db882cde9c43900"), looks := true }, kinds := [], alts := [], laidByText := true, laidKinds := [.data, .data], laidTests := true, laidLooks := .later }
def PrinterMatchesReferenceCardSaid : Prop := Claim7.holds Tryz.pinned (.plain (OpenSpec.ofChange printerMatchesReferenceSpec)) printerMatchesReferenceCard

/-- THE TIED CARD OF 'vetchlaw10.PrinterInverse'. -/
def printerInverseCard : Claim7 := { stood := { row := printerInverseRow, standIns := [], harness := (true, "b5a13ffdc729f80105db62d26475c051fde032b0be9a370e3db882cde9c43900"), looks := true }, kinds := [], alts := [], laidByText := true, laidKinds := [.data, .data], laidTests := true, laidLooks := .later }
def PrinterInverseCardSaid : Prop := Claim7.holds Tryz.pinned (.plain (OpenSpec.ofChange printerInverseSpec)) printerInverseCard

/-- THE TIED CARD OF 'vetchlaw10.PrinterClasses'. -/
def printerClassesCard : Claim7 := { stood := { row := printerClassesRow, standIns := [], harness := (true, "b5a13ffdc729f80105db62d26475c051fde032b0be9a370e3db882cde9c43900"), looks := true }, kinds := [], alts := [], laidByText := true, laidKinds := [.data, .data], laidTests := true, laidLooks := .later }
def PrinterClassesCardSaid : Prop := Claim7.holds Tryz.pinned (.plain (OpenSpec.ofChange printerClassesSpec)) printerClassesCard

/-- THE TIED CARD OF 'vetchlaw10.PrinterCanonical'. -/
def printerCanonicalCard : Claim7 := { stood := { row := printerCanonicalRow, standIns := [], harness := (true, "b5a13ffdc729f80105db62d26475c051fde032b0be9a370e3db882cde9c43900"), looks := true }, kinds := [], alts := [], laidByText := true, laidKinds := [.handle, .data, .data], laidTests := true, laidLooks := .later }
def PrinterCanonicalCardSaid : Prop := Claim7.holds Tryz.pinned (.plain (OpenSpec.ofChange printerCanonicalSpec)) printerCanonicalCard

/-- THE TIED CARD OF 'vetchlaw10.PrinterNodes'. -/
def printerNodesCard : Claim7 := { stood := { row := printerNodesRow, standIns := [], harness := (true, "b5a13ffdc729f80105db62d26475c051fde032b0be9a370e3db882cde9c43900"), looks := true }, kinds := [], alts := [], laidByText := true, laidKinds := [.data, .data], laidTests := true, laidLooks := .later }
def PrinterNodesCardSaid : Prop := Claim7.holds Tryz.pinned (.plain (OpenSpec.ofChange printerNodesSpec)) printerNodesCard

/-- THE SECOND FORM's CARD OF 'vetchlaw10.PrinterMatchesReference'. -/
def printerMatchesReferenceUptoCard : Claim7 := { stood := { row := printerMatchesReferenceUptoRow, standIns := [], harness := (true, "b5a13ffdc729f80105db62d26475c051fde032b0be9a370e3db882cde9c43900"), looks := true }, kinds := [], alts := [], laidByText := true, laidKinds := [.data, .data], laidTests := true, laidLooks := .later }
def PrinterMatchesReferenceUptoCardSaid : Prop := Claim7.holds Tryz.pinned (.plain (OpenSpec.upto printerMatchesReferenceSpec)) printerMatchesReferenceUptoCard

/-- THE SECOND FORM's CARD OF 'vetchlaw10.PrinterInverse'. -/
def printerInverseUptoCard : Claim7 := { stood := { row := printerInverseUptoRow, standIns := [], harness := (true, "b5a13ffdc729f80105db62d26475c051fde032b0be9a370e3db882cde9c43900"), looks := true }, kinds := [], alts := [], laidByText := true, laidKinds := [.data, .data], laidTests := true, laidLooks := .later }
def PrinterInverseUptoCardSaid : Prop := Claim7.holds Tryz.pinned (.plain (OpenSpec.upto printerInverseSpec)) printerInverseUptoCard

/-- THE SECOND FORM's CARD OF 'vetchlaw10.PrinterClasses'. -/
def printerClassesUptoCard : Claim7 := { stood := { row := printerClassesUptoRow, standIns := [], harness := (true, "b5a13ffdc729f80105db62d26475c051fde032b0be9a370e3db882cde9c43900"), looks := true }, kinds := [], alts := [], laidByText := true, laidKinds := [.data, .data], laidTests := true, laidLooks := .later }
def PrinterClassesUptoCardSaid : Prop := Claim7.holds Tryz.pinned (.plain (OpenSpec.upto printerClassesSpec)) printerClassesUptoCard

/-- THE SECOND FORM's CARD OF 'vetchlaw10.PrinterCanonical'. -/
def printerCanonicalUptoCard : Claim7 := { stood := { row := printerCanonicalUptoRow, standIns := [], harness := (true, "b5a13ffdc729f80105db62d26475c051fde032b0be9a370e3db882cde9c43900"), looks := true }, kinds := [], alts := [], laidByText := true, laidKinds := [.handle, .data, .data], laidTests := true, laidLooks := .later }
def PrinterCanonicalUptoCardSaid : Prop := Claim7.holds Tryz.pinned (.plain (OpenSpec.upto printerCanonicalSpec)) printerCanonicalUptoCard

/-- THE SECOND FORM's CARD OF 'vetchlaw10.PrinterNodes'. -/
def printerNodesUptoCard : Claim7 := { stood := { row := printerNodesUptoRow, standIns := [], harness := (true, "b5a13ffdc729f80105db62d26475c051fde032b0be9a370e3db882cde9c43900"), looks := true }, kinds := [], alts := [], laidByText := true, laidKinds := [.data, .data], laidTests := true, laidLooks := .later }
def PrinterNodesUptoCardSaid : Prop := Claim7.holds Tryz.pinned (.plain (OpenSpec.upto printerNodesSpec)) printerNodesUptoCard
end Rows
end Go.Proofs.YtmopdlbpkiaoeaaGreatDoor
