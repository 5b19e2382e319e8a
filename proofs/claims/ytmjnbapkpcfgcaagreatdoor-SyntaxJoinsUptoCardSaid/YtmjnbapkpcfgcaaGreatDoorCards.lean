/-
  DERIVED. GIVEN WITH THE SEED: THE CARDS: each row of YtmjnbapkpcfgcaaGreatDoorRows.lean that lists a variable, with what it lists TIED to the program's text (the seventh form; the later family's looks); each row that meets fmt, with fmt's text TOLD by the authors' own Lean function (tested against real Go, not proved from fmt's source: count such statements apart). THE CARD IS WHAT COUNTS. Prove the row's statement (the work); the ties are given (YtmjnbapkpcfgcaaGreatDoorTie.lean); close each card by the builder's one call (the guide's Derived/Test/ToyasCard.lean, 'card_holds'). Laid BY PROGRAM, IN A SANDBOX (cutbox-door.mjs). By AI agents, Wed Nov 11 2026. No macro, syntax, notation, axiom, sorry.
-/
import Derived.Test.YtmjnbapkpcfgcaaGreatDoorRows
import GoSem.ClaimSeven
namespace Go.Proofs.YtmjnbapkpcfgcaaGreatDoor
namespace Rows

/-- THE TIED CARD OF 'vetchlaw08.SyntaxMatchesReference'. -/
def syntaxMatchesReferenceCard : Claim7 := { stood := { row := syntaxMatchesReferenceRow, standIns := [], harness := (true, "fd8832315adb192c24f8bf688554b63cf974b363e824bd0646a2bc236a2b1838"), looks := true }, kinds := [], alts := [], laidByText := true, laidKinds := [.handle, .data], laidTests := true, laidLooks := .later }
def SyntaxMatchesReferenceCardSaid : Prop := Claim7.holds Tryz.pinned (.plain (OpenSpec.ofChange syntaxMatchesReferenceSpec)) syntaxMatchesReferenceCard

/-- THE TIED CARD OF 'vetchlaw08.SyntaxExpressions'. -/
def syntaxExpressionsCard : Claim7 := { stood := { row := syntaxExpressionsRow, standIns := [], harness := (true, "fd8832315adb192c24f8bf688554b63cf974b363e824bd0646a2bc236a2b1838"), looks := true }, kinds := [], alts := [], laidByText := true, laidKinds := [.handle, .data], laidTests := true, laidLooks := .later }
def SyntaxExpressionsCardSaid : Prop := Claim7.holds Tryz.pinned (.plain (OpenSpec.ofChange syntaxExpressionsSpec)) syntaxExpressionsCard

/-- THE TIED CARD OF 'vetchlaw08.SyntaxSpaces'. -/
def syntaxSpacesCard : Claim7 := { stood := { row := syntaxSpacesRow, standIns := [], harness := (true, "fd8832315adb192c24f8bf688554b63cf974b363e824bd0646a2bc236a2b1838"), looks := true }, kinds := [], alts := [], laidByText := true, laidKinds := [.handle, .data], laidTests := true, laidLooks := .later }
def SyntaxSpacesCardSaid : Prop := Claim7.holds Tryz.pinned (.plain (OpenSpec.ofChange syntaxSpacesSpec)) syntaxSpacesCard

/-- THE TIED CARD OF 'vetchlaw08.SyntaxJoins'. -/
def syntaxJoinsCard : Claim7 := { stood := { row := syntaxJoinsRow, standIns := [], harness := (true, "fd8832315adb192c24f8bf688554b63cf974b363e824bd0646a2bc236a2b1838"), looks := true }, kinds := [], alts := [], laidByText := true, laidKinds := [.handle, .data], laidTests := true, laidLooks := .later }
def SyntaxJoinsCardSaid : Prop := Claim7.holds Tryz.pinned (.plain (OpenSpec.ofChange syntaxJoinsSpec)) syntaxJoinsCard

/-- THE TIED CARD OF 'vetchlaw08.SyntaxDeep'. -/
def syntaxDeepCard : Claim7 := { stood := { row := syntaxDeepRow, standIns := [], harness := (true, "fd8832315adb192c24f8bf688554b63cf974b363e824bd0646a2bc236a2b1838"), looks := true }, kinds := [], alts := [], laidByText := true, laidKinds := [.handle, .data], laidTests := true, laidLooks := .later }
def SyntaxDeepCardSaid : Prop := Claim7.holds Tryz.pinned (.plain (OpenSpec.ofChange syntaxDeepSpec)) syntaxDeepCard

/-- THE SECOND FORM's CARD OF 'vetchlaw08.SyntaxMatchesReference'. -/
def syntaxMatchesReferenceUptoCard : Claim7 := { stood := { row := syntaxMatchesReferenceUptoRow, standIns := [], harness := (true, "fd8832315adb192c24f8bf688554b63cf974b363e824bd0646a2bc236a2b1838"), looks := true }, kinds := [], alts := [], laidByText := true, laidKinds := [.handle, .data], laidTests := true, laidLooks := .later }
def SyntaxMatchesReferenceUptoCardSaid : Prop := Claim7.holds Tryz.pinned (.plain (OpenSpec.upto syntaxMatchesReferenceSpec)) syntaxMatchesReferenceUptoCard

/-- THE SECOND FORM's CARD OF 'vetchlaw08.SyntaxExpressions'. -/
def syntaxExpressionsUptoCard : Claim7 := { stood := { row := syntaxExpressionsUptoRow, standIns := [], harness := (true, "fd8832315adb192c24f8bf688554b63cf974b363e824bd0646a2bc236a2b1838"), looks := true }, kinds := [], alts := [], laidByText := true, laidKinds := [.handle, .data], laidTests := true, laidLooks := .later }
def SyntaxExpressionsUptoCardSaid : Prop := Claim7.holds Tryz.pinned (.plain (OpenSpec.upto syntaxExpressionsSpec)) syntaxExpressionsUptoCard

/-- THE SECOND FORM's CARD OF 'vetchlaw08.SyntaxSpaces'. -/
def syntaxSpacesUptoCard : Claim7 := { stood := { row := syntaxSpacesUptoRow, standIns := [], harness := (true, "fd8832315adb192c24f8bf688554b63cf974b363e824bd0646a2bc236a2b1838"), looks := true }, kinds := [], alts := [], laidByText := true, laidKinds := [.handle, .data], laidTests := true, laidLooks := .later }
def SyntaxSpacesUptoCardSaid : Prop := Claim7.holds Tryz.pinned (.plain (OpenSpec.upto syntaxSpacesSpec)) syntaxSpacesUptoCard

/-- THE SECOND FORM's CARD OF 'vetchlaw08.SyntaxJoins'. -/
def syntaxJoinsUptoCard : Claim7 := { stood := { row := syntaxJoinsUptoRow, standIns := [], harness := (true, "fd8832315adb192c24f8bf688554b63cf974b363e824bd0646a2bc236a2b1838"), looks := true }, kinds := [], alts := [], laidByText := true, laidKinds := [.handle, .data], laidTests := true, laidLooks := .later }
def SyntaxJoinsUptoCardSaid : Prop := Claim7.holds Tryz.pinned (.plain (OpenSpec.upto syntaxJoinsSpec)) syntaxJoinsUptoCard

/-- THE SECOND FORM's CARD OF 'vetchlaw08.SyntaxDeep'. -/
def syntaxDeepUptoCard : Claim7 := { stood := { row := syntaxDeepUptoRow, standIns := [], harness := (true, "fd8832315adb192c24f8bf688554b63cf974b363e824bd0646a2bc236a2b1838"), looks := true }, kinds := [], alts := [], laidByText := true, laidKinds := [.handle, .data], laidTests := true, laidLooks := .later }
def SyntaxDeepUptoCardSaid : Prop := Claim7.holds Tryz.pinned (.plain (OpenSpec.upto syntaxDeepSpec)) syntaxDeepUptoCard
end Rows
end Go.Proofs.YtmjnbapkpcfgcaaGreatDoor
