/-
  DERIVED. GIVEN WITH THE SEED: THE CARDS: each row of YthhppmehhdlmnaaGreatDoorRows.lean that lists a variable, with what it lists TIED to the program's text (the seventh form; the later family's looks); each row that meets fmt, with fmt's text TOLD by the authors' own Lean function (tested against real Go, not proved from fmt's source: count such statements apart). THE CARD IS WHAT COUNTS. Prove the row's statement (the work); the ties are given (YthhppmehhdlmnaaGreatDoorTie.lean); close each card by the builder's one call (the guide's Derived/Test/ToyasCard.lean, 'card_holds'). Laid BY PROGRAM, IN A SANDBOX (cutbox-door.mjs). By AI agents, Wed Nov 11 2026. No macro, syntax, notation, axiom, sorry.
-/
import Derived.Test.YthhppmehhdlmnaaGreatDoorRows
import GoSem.ClaimSeven
namespace Go.Proofs.YthhppmehhdlmnaaGreatDoor
namespace Rows

/-- THE TIED CARD OF 'vetchlaw13.LeftMatchesReference'. -/
def leftMatchesReferenceCard : Claim7 := { stood := { row := leftMatchesReferenceRow, standIns := [], harness := (true, "3152fef9a1d9b6fed17bc420ef2fc1bf813cb2cd6f51d58b6547ceb8c2c0062f"), looks := true }, kinds := [], alts := [], laidByText := true, laidKinds := [.data], laidTests := true, laidLooks := .later }
def LeftMatchesReferenceCardSaid : Prop := Claim7.holds Tryz.pinned (.plain (OpenSpec.ofChange leftMatchesReferenceSpec)) leftMatchesReferenceCard

/-- THE TIED CARD OF 'vetchlaw13.LeftOrders'. -/
def leftOrdersCard : Claim7 := { stood := { row := leftOrdersRow, standIns := [], harness := (true, "3152fef9a1d9b6fed17bc420ef2fc1bf813cb2cd6f51d58b6547ceb8c2c0062f"), looks := true }, kinds := [], alts := [], laidByText := true, laidKinds := [.data], laidTests := true, laidLooks := .later }
def LeftOrdersCardSaid : Prop := Claim7.holds Tryz.pinned (.plain (OpenSpec.ofChange leftOrdersSpec)) leftOrdersCard

/-- THE TIED CARD OF 'vetchlaw13.LeftDecides'. -/
def leftDecidesCard : Claim7 := { stood := { row := leftDecidesRow, standIns := [], harness := (true, "3152fef9a1d9b6fed17bc420ef2fc1bf813cb2cd6f51d58b6547ceb8c2c0062f"), looks := true }, kinds := [], alts := [], laidByText := true, laidKinds := [.data], laidTests := true, laidLooks := .later }
def LeftDecidesCardSaid : Prop := Claim7.holds Tryz.pinned (.plain (OpenSpec.ofChange leftDecidesSpec)) leftDecidesCard

/-- THE TIED CARD OF 'vetchlaw13.LeftCycles'. -/
def leftCyclesCard : Claim7 := { stood := { row := leftCyclesRow, standIns := [], harness := (true, "3152fef9a1d9b6fed17bc420ef2fc1bf813cb2cd6f51d58b6547ceb8c2c0062f"), looks := true }, kinds := [], alts := [], laidByText := true, laidKinds := [.data], laidTests := true, laidLooks := .later }
def LeftCyclesCardSaid : Prop := Claim7.holds Tryz.pinned (.plain (OpenSpec.ofChange leftCyclesSpec)) leftCyclesCard

/-- THE TIED CARD OF 'vetchlaw13.LeftReaches'. -/
def leftReachesCard : Claim7 := { stood := { row := leftReachesRow, standIns := [], harness := (true, "3152fef9a1d9b6fed17bc420ef2fc1bf813cb2cd6f51d58b6547ceb8c2c0062f"), looks := true }, kinds := [], alts := [], laidByText := true, laidKinds := [.data], laidTests := true, laidLooks := .later }
def LeftReachesCardSaid : Prop := Claim7.holds Tryz.pinned (.plain (OpenSpec.ofChange leftReachesSpec)) leftReachesCard

/-- THE SECOND FORM's CARD OF 'vetchlaw13.LeftMatchesReference'. -/
def leftMatchesReferenceUptoCard : Claim7 := { stood := { row := leftMatchesReferenceUptoRow, standIns := [], harness := (true, "3152fef9a1d9b6fed17bc420ef2fc1bf813cb2cd6f51d58b6547ceb8c2c0062f"), looks := true }, kinds := [], alts := [], laidByText := true, laidKinds := [.data], laidTests := true, laidLooks := .later }
def LeftMatchesReferenceUptoCardSaid : Prop := Claim7.holds Tryz.pinned (.plain (OpenSpec.upto leftMatchesReferenceSpec)) leftMatchesReferenceUptoCard

/-- THE SECOND FORM's CARD OF 'vetchlaw13.LeftOrders'. -/
def leftOrdersUptoCard : Claim7 := { stood := { row := leftOrdersUptoRow, standIns := [], harness := (true, "3152fef9a1d9b6fed17bc420ef2fc1bf813cb2cd6f51d58b6547ceb8c2c0062f"), looks := true }, kinds := [], alts := [], laidByText := true, laidKinds := [.data], laidTests := true, laidLooks := .later }
def LeftOrdersUptoCardSaid : Prop := Claim7.holds Tryz.pinned (.plain (OpenSpec.upto leftOrdersSpec)) leftOrdersUptoCard

/-- THE SECOND FORM's CARD OF 'vetchlaw13.LeftDecides'. -/
def leftDecidesUptoCard : Claim7 := { stood := { row := leftDecidesUptoRow, standIns := [], harness := (true, "3152fef9a1d9b6fed17bc420ef2fc1bf813cb2cd6f51d58b6547ceb8c2c0062f"), looks := true }, kinds := [], alts := [], laidByText := true, laidKinds := [.data], laidTests := true, laidLooks := .later }
def LeftDecidesUptoCardSaid : Prop := Claim7.holds Tryz.pinned (.plain (OpenSpec.upto leftDecidesSpec)) leftDecidesUptoCard

/-- THE SECOND FORM's CARD OF 'vetchlaw13.LeftCycles'. -/
def leftCyclesUptoCard : Claim7 := { stood := { row := leftCyclesUptoRow, standIns := [], harness := (true, "3152fef9a1d9b6fed17bc420ef2fc1bf813cb2cd6f51d58b6547ceb8c2c0062f"), looks := true }, kinds := [], alts := [], laidByText := true, laidKinds := [.data], laidTests := true, laidLooks := .later }
def LeftCyclesUptoCardSaid : Prop := Claim7.holds Tryz.pinned (.plain (OpenSpec.upto leftCyclesSpec)) leftCyclesUptoCard

/-- THE SECOND FORM's CARD OF 'vetchlaw13.LeftReaches'. -/
def leftReachesUptoCard : Claim7 := { stood := { row := leftReachesUptoRow, standIns := [], harness := (true, "3152fef9a1d9b6fed17bc420ef2fc1bf813cb2cd6f51d58b6547ceb8c2c0062f"), looks := true }, kinds := [], alts := [], laidByText := true, laidKinds := [.data], laidTests := true, laidLooks := .later }
def LeftReachesUptoCardSaid : Prop := Claim7.holds Tryz.pinned (.plain (OpenSpec.upto leftReachesSpec)) leftReachesUptoCard
end Rows
end Go.Proofs.YthhppmehhdlmnaaGreatDoor
