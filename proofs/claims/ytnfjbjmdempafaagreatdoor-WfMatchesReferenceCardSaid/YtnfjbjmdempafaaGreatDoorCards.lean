/-
  DERIVED. GIVEN WITH THE SEED: THE CARDS: each row of YtnfjbjmdempafaaGreatDoorRows.lean that lists a variable, with what it lists TIED to the program's text (the seventh form; the later family's looks); each row that meets fmt, with fmt's text TOLD by the authors' own Lean function (tested against real Go, not proved from fmt's source: count such statements apart). THE CARD IS WHAT COUNTS. Prove the row's statement (the work); the ties are given (YtnfjbjmdempafaaGreatDoorTie.lean); close each card by the builder's one call (the guide's Derived/Test/ToyasCard.lean, 'card_holds'). Laid BY PROGRAM, IN A SANDBOX (cutbox-door.mjs). By AI agents, Wed Nov 11 2026. No macro, syntax, notation, axiom, sorry.
-/
import Derived.Test.YtnfjbjmdempafaaGreatDoorRows
import GoSem.ClaimSeven
namespace Go.Proofs.YtnfjbjmdempafaaGreatDoor
namespace Rows

/-- THE TIED CARD OF 'vetchlaw12.WfMatchesReference'. -/
def wfMatchesReferenceCard : Claim7 := { stood := { row := wfMatchesReferenceRow, standIns := [], harness := (true, "c20152e9616f15d9832ecc52510646281f9785e22bfad8972ad33f3247b2cd2f"), looks := true }, kinds := [], alts := [], laidByText := true, laidKinds := [.handle], laidTests := true, laidLooks := .later }
def WfMatchesReferenceCardSaid : Prop := Claim7.holds Tryz.pinned (.plain (OpenSpec.ofChange wfMatchesReferenceSpec)) wfMatchesReferenceCard

/-- THE SECOND FORM's CARD OF 'vetchlaw12.WfMatchesReference'. -/
def wfMatchesReferenceUptoCard : Claim7 := { stood := { row := wfMatchesReferenceUptoRow, standIns := [], harness := (true, "c20152e9616f15d9832ecc52510646281f9785e22bfad8972ad33f3247b2cd2f"), looks := true }, kinds := [], alts := [], laidByText := true, laidKinds := [.handle], laidTests := true, laidLooks := .later }
def WfMatchesReferenceUptoCardSaid : Prop := Claim7.holds Tryz.pinned (.plain (OpenSpec.upto wfMatchesReferenceSpec)) wfMatchesReferenceUptoCard
end Rows
end Go.Proofs.YtnfjbjmdempafaaGreatDoor
