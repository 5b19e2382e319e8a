/-
  DERIVED. GIVEN WITH THE SEED: THE CARDS: each row of YtbhejkjgebhpoaaDoorRows.lean that lists a variable, with what it lists TIED to the program's text (the seventh form; the later family's looks); each row that meets fmt, with fmt's text TOLD by the authors' own Lean function (tested against real Go, not proved from fmt's source: count such statements apart). THE CARD IS WHAT COUNTS. Prove the row's statement (the work); the ties are given (YtbhejkjgebhpoaaDoorTie.lean); close each card by the builder's one call (the guide's Derived/Test/ToyasCard.lean, 'card_holds'). Laid BY PROGRAM, IN A SANDBOX (cutbox-door.mjs). By AI agents, Wed Nov 11 2026. No macro, syntax, notation, axiom, sorry.
-/
import Derived.Test.YtbhejkjgebhpoaaDoorRows
import GoSem.ClaimSeven
namespace Go.Proofs.YtbhejkjgebhpoaaDoor
namespace Rows

/-- THE TIED CARD OF 'vetchlaw05.GramChecks'. -/
def gramChecksCard : Claim7 := { stood := { row := gramChecksRow, standIns := [], harness := (true, "dfad5d08f581749e3b8d8988e6da59aa218b03520eb085b92f8fe0eec01363aa"), looks := true }, kinds := [], alts := [], laidByText := true, laidKinds := [.handle], laidTests := true, laidLooks := .later }
def GramChecksCardSaid : Prop := Claim7.holds Tryd.pinned (.plain (OpenSpec.ofChange gramChecksSpec)) gramChecksCard

/-- THE TIED CARD OF 'vetchlaw05.GramLimits'. -/
def gramLimitsCard : Claim7 := { stood := { row := gramLimitsRow, standIns := [], harness := (true, "dfad5d08f581749e3b8d8988e6da59aa218b03520eb085b92f8fe0eec01363aa"), looks := true }, kinds := [], alts := [], laidByText := true, laidKinds := [.handle], laidTests := true, laidLooks := .later }
def GramLimitsCardSaid : Prop := Claim7.holds Tryd.pinned (.plain (OpenSpec.ofChange gramLimitsSpec)) gramLimitsCard

/-- THE SECOND FORM's CARD OF 'vetchlaw05.GramChecks'. -/
def gramChecksUptoCard : Claim7 := { stood := { row := gramChecksUptoRow, standIns := [], harness := (true, "dfad5d08f581749e3b8d8988e6da59aa218b03520eb085b92f8fe0eec01363aa"), looks := true }, kinds := [], alts := [], laidByText := true, laidKinds := [.handle], laidTests := true, laidLooks := .later }
def GramChecksUptoCardSaid : Prop := Claim7.holds Tryd.pinned (.plain (OpenSpec.upto gramChecksSpec)) gramChecksUptoCard

/-- THE SECOND FORM's CARD OF 'vetchlaw05.GramLimits'. -/
def gramLimitsUptoCard : Claim7 := { stood := { row := gramLimitsUptoRow, standIns := [], harness := (true, "dfad5d08f581749e3b8d8988e6da59aa218b03520eb085b92f8fe0eec01363aa"), looks := true }, kinds := [], alts := [], laidByText := true, laidKinds := [.handle], laidTests := true, laidLooks := .later }
def GramLimitsUptoCardSaid : Prop := Claim7.holds Tryd.pinned (.plain (OpenSpec.upto gramLimitsSpec)) gramLimitsUptoCard
end Rows
end Go.Proofs.YtbhejkjgebhpoaaDoor
