/-
  DERIVED. GIVEN WITH THE SEED: THE CARDS: each row of YtnmflokhnaiiiaaGreatDoorRows.lean that lists a variable, with what it lists TIED to the program's text (the seventh form; the later family's looks); each row that meets fmt, with fmt's text TOLD by the authors' own Lean function (tested against real Go, not proved from fmt's source: count such statements apart). THE CARD IS WHAT COUNTS. Prove the row's statement (the work); the ties are given (YtnmflokhnaiiiaaGreatDoorTie.lean); close each card by the builder's one call (the guide's Derived/Test/ToyasCard.lean, 'card_holds'). Laid BY PROGRAM, IN A SANDBOX (cutbox-door.mjs). By AI agents, Wed Nov 11 2026. No macro, syntax, notation, axiom, sorry.
-/
import Derived.Test.YtnmflokhnaiiiaaGreatDoorRows
import GoSem.ClaimSeven
namespace Go.Proofs.YtnmflokhnaiiiaaGreatDoor
namespace Rows

/-- THE TIED CARD OF 'vetchlaw09.ResolveMatchesReference'. -/
def resolveMatchesReferenceCard : Claim7 := { stood := { row := resolveMatchesReferenceRow, standIns := [], harness := (true, "eb677d7526a88da2d1edad6a3f4203fbd812e37da1e77a6cd72fc136f1eba670"), looks := true }, kinds := [], alts := [], laidByText := true, laidKinds := [.handle, .data], laidTests := true, laidLooks := .later }
def ResolveMatchesReferenceCardSaid : Prop := Claim7.holds Tryz.pinned (.plain (OpenSpec.ofChange resolveMatchesReferenceSpec)) resolveMatchesReferenceCard

/-- THE TIED CARD OF 'vetchlaw09.ResolveNames'. -/
def resolveNamesCard : Claim7 := { stood := { row := resolveNamesRow, standIns := [], harness := (true, "eb677d7526a88da2d1edad6a3f4203fbd812e37da1e77a6cd72fc136f1eba670"), looks := true }, kinds := [], alts := [], laidByText := true, laidKinds := [.handle, .data], laidTests := true, laidLooks := .later }
def ResolveNamesCardSaid : Prop := Claim7.holds Tryz.pinned (.plain (OpenSpec.ofChange resolveNamesSpec)) resolveNamesCard

/-- THE TIED CARD OF 'vetchlaw09.ResolveGrammars'. -/
def resolveGrammarsCard : Claim7 := { stood := { row := resolveGrammarsRow, standIns := [], harness := (true, "eb677d7526a88da2d1edad6a3f4203fbd812e37da1e77a6cd72fc136f1eba670"), looks := true }, kinds := [], alts := [], laidByText := true, laidKinds := [.handle, .data], laidTests := true, laidLooks := .later }
def ResolveGrammarsCardSaid : Prop := Claim7.holds Tryz.pinned (.plain (OpenSpec.ofChange resolveGrammarsSpec)) resolveGrammarsCard

/-- THE TIED CARD OF 'vetchlaw09.ResolveCloses'. -/
def resolveClosesCard : Claim7 := { stood := { row := resolveClosesRow, standIns := [], harness := (true, "eb677d7526a88da2d1edad6a3f4203fbd812e37da1e77a6cd72fc136f1eba670"), looks := true }, kinds := [], alts := [], laidByText := true, laidKinds := [.handle, .data], laidTests := true, laidLooks := .later }
def ResolveClosesCardSaid : Prop := Claim7.holds Tryz.pinned (.plain (OpenSpec.ofChange resolveClosesSpec)) resolveClosesCard

/-- THE TIED CARD OF 'vetchlaw09.ResolveRenames'. -/
def resolveRenamesCard : Claim7 := { stood := { row := resolveRenamesRow, standIns := [], harness := (true, "eb677d7526a88da2d1edad6a3f4203fbd812e37da1e77a6cd72fc136f1eba670"), looks := true }, kinds := [], alts := [], laidByText := true, laidKinds := [.handle, .data], laidTests := true, laidLooks := .later }
def ResolveRenamesCardSaid : Prop := Claim7.holds Tryz.pinned (.plain (OpenSpec.ofChange resolveRenamesSpec)) resolveRenamesCard

/-- THE SECOND FORM's CARD OF 'vetchlaw09.ResolveMatchesReference'. -/
def resolveMatchesReferenceUptoCard : Claim7 := { stood := { row := resolveMatchesReferenceUptoRow, standIns := [], harness := (true, "eb677d7526a88da2d1edad6a3f4203fbd812e37da1e77a6cd72fc136f1eba670"), looks := true }, kinds := [], alts := [], laidByText := true, laidKinds := [.handle, .data], laidTests := true, laidLooks := .later }
def ResolveMatchesReferenceUptoCardSaid : Prop := Claim7.holds Tryz.pinned (.plain (OpenSpec.upto resolveMatchesReferenceSpec)) resolveMatchesReferenceUptoCard

/-- THE SECOND FORM's CARD OF 'vetchlaw09.ResolveNames'. -/
def resolveNamesUptoCard : Claim7 := { stood := { row := resolveNamesUptoRow, standIns := [], harness := (true, "eb677d7526a88da2d1edad6a3f4203fbd812e37da1e77a6cd72fc136f1eba670"), looks := true }, kinds := [], alts := [], laidByText := true, laidKinds := [.handle, .data], laidTests := true, laidLooks := .later }
def ResolveNamesUptoCardSaid : Prop := Claim7.holds Tryz.pinned (.plain (OpenSpec.upto resolveNamesSpec)) resolveNamesUptoCard

/-- THE SECOND FORM's CARD OF 'vetchlaw09.ResolveGrammars'. -/
def resolveGrammarsUptoCard : Claim7 := { stood := { row := resolveGrammarsUptoRow, standIns := [], harness := (true, "eb677d7526a88da2d1edad6a3f4203fbd812e37da1e77a6cd72fc136f1eba670"), looks := true }, kinds := [], alts := [], laidByText := true, laidKinds := [.handle, .data], laidTests := true, laidLooks := .later }
def ResolveGrammarsUptoCardSaid : Prop := Claim7.holds Tryz.pinned (.plain (OpenSpec.upto resolveGrammarsSpec)) resolveGrammarsUptoCard

/-- THE SECOND FORM's CARD OF 'vetchlaw09.ResolveCloses'. -/
def resolveClosesUptoCard : Claim7 := { stood := { row := resolveClosesUptoRow, standIns := [], harness := (true, "eb677d7526a88da2d1edad6a3f4203fbd812e37da1e77a6cd72fc136f1eba670"), looks := true }, kinds := [], alts := [], laidByText := true, laidKinds := [.handle, .data], laidTests := true, laidLooks := .later }
def ResolveClosesUptoCardSaid : Prop := Claim7.holds Tryz.pinned (.plain (OpenSpec.upto resolveClosesSpec)) resolveClosesUptoCard

/-- THE SECOND FORM's CARD OF 'vetchlaw09.ResolveRenames'. -/
def resolveRenamesUptoCard : Claim7 := { stood := { row := resolveRenamesUptoRow, standIns := [], harness := (true, "eb677d7526a88da2d1edad6a3f4203fbd812e37da1e77a6cd72fc136f1eba670"), looks := true }, kinds := [], alts := [], laidByText := true, laidKinds := [.handle, .data], laidTests := true, laidLooks := .later }
def ResolveRenamesUptoCardSaid : Prop := Claim7.holds Tryz.pinned (.plain (OpenSpec.upto resolveRenamesSpec)) resolveRenamesUptoCard
end Rows
end Go.Proofs.YtnmflokhnaiiiaaGreatDoor
