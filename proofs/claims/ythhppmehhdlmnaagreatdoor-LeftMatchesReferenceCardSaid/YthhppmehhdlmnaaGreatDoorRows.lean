/-
  NARROWER THAN 'FOR EVERY INPUT', by the rows' own cells (each row's printed sentence says how): LeftMatchesReference: laid · LeftOrders: laid · LeftDecides: laid · LeftCycles: laid · LeftReaches: laid.
  DERIVED. THE GIVEN ROWS OF THIS SEAT. 5 by the template 'for every input the law returns true; each argument reads behind the call as it read before'; 0 by the template 'total and deterministic' (their statements: YthhppmehhdlmnaaGreatDoorTotals.lean).
  GIVEN WITH THE SEED: the statements are not yours to turn. If you find one false, say at which input.
  Laid BY PROGRAM, IN A SANDBOX (cutbox-rows.mjs): the forced cells as the released guide's own fill.sh prints them over the translation 129a592796b93a81… (all of the seat's roots in one cut). By AI agents, Wed Nov 11 2026. No macro, syntax, notation, axiom, sorry.
-/
import Derived.Test.YthhppmehhdlmnaaGreatDoorChecked
import GoSem.Claim
import GoSem.ClaimJoined
import GoSem.ClaimMapViews
import Derived.JoinedTies
import Derived.KernelRfl
namespace Go.Proofs.YthhppmehhdlmnaaGreatDoor
/- THE CELL 'sum', in the pinned program and in every row, IS THE sha256 OF THE DUMP (.gsa) THAT YthhppmehhdlmnaaGreatDoorProg.lean LOADS. Nothing in Lean hashes anything: it is a label: what it is worth is what the hold of that sum in a sandbox is worth. -/
noncomputable def Tryz.pinned : Pinned := { name := "ythhppmehhdlmnaagreatdoor", sum := "129a592796b93a812d32fe917457ebbc4334a9ec5bb7690b29e09c7d47b8da9c", checked := Tryz.checked }
namespace Rows
def none {H : Type} : Left H := { results := [], args := [] }

/- WHAT THE LISTED PACKAGE-LEVEL VARIABLES READ AS WHEN THE CALL BEGINS. Each datum BY PROGRAM (the guide's laid-datum.mjs) off the statement by which the dump's own 'gosem.cut.vars' lays the variable. In a bare row this is a premise. The card (YthhppmehhdlmnaaGreatDoorCards.lean) ties it to the program's text. -/
def laid_vetch_lexer_signs {H : Type} : DataW H := .agg [.lit (.string [60, 45]), .lit (.string [47]), .lit (.string [38]), .lit (.string [33]), .lit (.string [63]), .lit (.string [42]), .lit (.string [43]), .lit (.string [40]), .lit (.string [41]), .lit (.string [46])]

/-- 'vetchlaw13.LeftMatchesReference': WHATEVER THE INPUT: true; the input reads as it did. -/
def leftMatchesReferenceSpec : ChangeSpec := { name := "leftMatchesReference", fn := fun _ => fun
  | [d1, d2] => { results := [.lit (.bool true)], args := [d1, d2] }
  | _ => none }
def leftMatchesReferenceRow : OpenClaim := { program := "ythhppmehhdlmnaagreatdoor", sum := "129a592796b93a812d32fe917457ebbc4334a9ec5bb7690b29e09c7d47b8da9c", func := "vetch/vetchlaw13.LeftMatchesReference", spec := "leftMatchesReference", inPlace := ["internal/bytealg.IndexByteString", "internal/bytealg.IndexString", "internal/abi.NoEscape", "internal/bytealg.MakeNoZero"], unfollowed := true, recurses := true, named := ["vetch/lexer.signs", "internal/bytealg.MaxLen"], apart := false, laid := [("vetch/lexer.signs", laid_vetch_lexer_signs)] }
def LeftMatchesReferenceSaid : Prop := leftMatchesReferenceRow.holds Tryz.pinned (OpenSpec.ofChange leftMatchesReferenceSpec)

/-- ITS FALSE NEIGHBOUR: 'it returns false'. Refute it at one input. -/
def leftMatchesReferenceWrong : ChangeSpec := { name := "leftMatchesReference", fn := fun _ => fun
  | [d1, d2] => { results := [.lit (.bool false)], args := [d1, d2] }
  | _ => none }
def LeftMatchesReferenceWrongFalsely : Prop := leftMatchesReferenceRow.holds Tryz.pinned (OpenSpec.ofChange leftMatchesReferenceWrong)

/-- 'vetchlaw13.LeftOrders': WHATEVER THE INPUT: true; the input reads as it did. -/
def leftOrdersSpec : ChangeSpec := { name := "leftOrders", fn := fun _ => fun
  | [d] => { results := [.lit (.bool true)], args := [d] }
  | _ => none }
def leftOrdersRow : OpenClaim := { program := "ythhppmehhdlmnaagreatdoor", sum := "129a592796b93a812d32fe917457ebbc4334a9ec5bb7690b29e09c7d47b8da9c", func := "vetch/vetchlaw13.LeftOrders", spec := "leftOrders", inPlace := ["internal/bytealg.IndexByteString", "internal/bytealg.IndexString", "internal/abi.NoEscape", "internal/bytealg.MakeNoZero"], unfollowed := true, recurses := true, named := ["vetch/lexer.signs", "internal/bytealg.MaxLen"], apart := false, laid := [("vetch/lexer.signs", laid_vetch_lexer_signs)] }
def LeftOrdersSaid : Prop := leftOrdersRow.holds Tryz.pinned (OpenSpec.ofChange leftOrdersSpec)

/-- ITS FALSE NEIGHBOUR: 'it returns false'. Refute it at one input. -/
def leftOrdersWrong : ChangeSpec := { name := "leftOrders", fn := fun _ => fun
  | [d] => { results := [.lit (.bool false)], args := [d] }
  | _ => none }
def LeftOrdersWrongFalsely : Prop := leftOrdersRow.holds Tryz.pinned (OpenSpec.ofChange leftOrdersWrong)

/-- 'vetchlaw13.LeftDecides': WHATEVER THE INPUT: true; the input reads as it did. -/
def leftDecidesSpec : ChangeSpec := { name := "leftDecides", fn := fun _ => fun
  | [d] => { results := [.lit (.bool true)], args := [d] }
  | _ => none }
def leftDecidesRow : OpenClaim := { program := "ythhppmehhdlmnaagreatdoor", sum := "129a592796b93a812d32fe917457ebbc4334a9ec5bb7690b29e09c7d47b8da9c", func := "vetch/vetchlaw13.LeftDecides", spec := "leftDecides", inPlace := ["internal/bytealg.IndexByteString", "internal/bytealg.IndexString", "internal/abi.NoEscape", "internal/bytealg.MakeNoZero"], unfollowed := true, recurses := true, named := ["vetch/lexer.signs", "internal/bytealg.MaxLen"], apart := false, laid := [("vetch/lexer.signs", laid_vetch_lexer_signs)] }
def LeftDecidesSaid : Prop := leftDecidesRow.holds Tryz.pinned (OpenSpec.ofChange leftDecidesSpec)

/-- ITS FALSE NEIGHBOUR: 'it returns false'. Refute it at one input. -/
def leftDecidesWrong : ChangeSpec := { name := "leftDecides", fn := fun _ => fun
  | [d] => { results := [.lit (.bool false)], args := [d] }
  | _ => none }
def LeftDecidesWrongFalsely : Prop := leftDecidesRow.holds Tryz.pinned (OpenSpec.ofChange leftDecidesWrong)

/-- 'vetchlaw13.LeftCycles': WHATEVER THE INPUT: true; the input reads as it did. -/
def leftCyclesSpec : ChangeSpec := { name := "leftCycles", fn := fun _ => fun
  | [d1, d2] => { results := [.lit (.bool true)], args := [d1, d2] }
  | _ => none }
def leftCyclesRow : OpenClaim := { program := "ythhppmehhdlmnaagreatdoor", sum := "129a592796b93a812d32fe917457ebbc4334a9ec5bb7690b29e09c7d47b8da9c", func := "vetch/vetchlaw13.LeftCycles", spec := "leftCycles", inPlace := ["internal/bytealg.IndexByteString", "internal/bytealg.IndexString", "internal/abi.NoEscape", "internal/bytealg.MakeNoZero"], unfollowed := true, recurses := true, named := ["vetch/lexer.signs", "internal/bytealg.MaxLen"], apart := false, laid := [("vetch/lexer.signs", laid_vetch_lexer_signs)] }
def LeftCyclesSaid : Prop := leftCyclesRow.holds Tryz.pinned (OpenSpec.ofChange leftCyclesSpec)

/-- ITS FALSE NEIGHBOUR: 'it returns false'. Refute it at one input. -/
def leftCyclesWrong : ChangeSpec := { name := "leftCycles", fn := fun _ => fun
  | [d1, d2] => { results := [.lit (.bool false)], args := [d1, d2] }
  | _ => none }
def LeftCyclesWrongFalsely : Prop := leftCyclesRow.holds Tryz.pinned (OpenSpec.ofChange leftCyclesWrong)

/-- 'vetchlaw13.LeftReaches': WHATEVER THE INPUT: true; the input reads as it did. -/
def leftReachesSpec : ChangeSpec := { name := "leftReaches", fn := fun _ => fun
  | [d1, d2] => { results := [.lit (.bool true)], args := [d1, d2] }
  | _ => none }
def leftReachesRow : OpenClaim := { program := "ythhppmehhdlmnaagreatdoor", sum := "129a592796b93a812d32fe917457ebbc4334a9ec5bb7690b29e09c7d47b8da9c", func := "vetch/vetchlaw13.LeftReaches", spec := "leftReaches", inPlace := ["internal/bytealg.IndexByteString", "internal/bytealg.IndexString", "internal/abi.NoEscape", "internal/bytealg.MakeNoZero"], unfollowed := true, recurses := true, named := ["vetch/lexer.signs", "internal/bytealg.MaxLen"], apart := false, laid := [("vetch/lexer.signs", laid_vetch_lexer_signs)] }
def LeftReachesSaid : Prop := leftReachesRow.holds Tryz.pinned (OpenSpec.ofChange leftReachesSpec)

/-- ITS FALSE NEIGHBOUR: 'it returns false'. Refute it at one input. -/
def leftReachesWrong : ChangeSpec := { name := "leftReaches", fn := fun _ => fun
  | [d1, d2] => { results := [.lit (.bool false)], args := [d1, d2] }
  | _ => none }
def LeftReachesWrongFalsely : Prop := leftReachesRow.holds Tryz.pinned (OpenSpec.ofChange leftReachesWrong)

/- THE SECOND FORM. 'bulk': how many values and letters a reading holds, each counted each time it is reached (what is shared counts as often as it is met; a slice's spare places count too). A statement '..UptoSaid' is the law's where the arguments, and the package variables that the reading takes, are together of bulk at most 1048576: NARROWER than '..Said'. Prove '..Said' where nothing that the law and all that it calls make is longer than what came in: it says more and counts as full. Else prove '..UptoSaid'. A law counts once. -/
mutual
def uptoBulk {H : Type} : DataW H → Nat
  | .lit (.string bytes) => bytes.length + 1
  | .lit _ => 1
  | .nil => 1
  | .ptr d => uptoBulk d + 1
  | .slice elems spare => uptoBulkAll elems + uptoBulkAll spare + 1
  | .agg parts => uptoBulkAll parts + 1
  | .iface _ d => uptoBulk d + 1
  | .map entries => uptoBulkEntries entries + 1
  | .held _ => 1
def uptoBulkAll {H : Type} : List (DataW H) → Nat
  | [] => 0
  | d :: r => uptoBulk d + uptoBulkAll r
def uptoBulkEntries {H : Type} : List (Lit × DataW H) → Nat
  | [] => 0
  | x :: r => uptoBulkEntry x + uptoBulkEntries r
def uptoBulkEntry {H : Type} : Lit × DataW H → Nat
  | (.string bytes, d) => bytes.length + uptoBulk d + 1
  | (_, d) => uptoBulk d + 1
 end
def uptoSmall : (H : Type) → List (DataW H) → Bool := fun _ ds => decide (uptoBulkAll ds ≤ 1048576)
def OpenSpec.upto (s : _root_.Go.ChangeSpec) : _root_.Go.OpenSpec := { _root_.Go.OpenSpec.ofChange s with cond := some uptoSmall }

/-- 'vetchlaw13.LeftMatchesReference', WHERE WHAT IT READS IS OF BULK AT MOST 1048576: true; the input reads as it did. -/
def leftMatchesReferenceUptoRow : OpenClaim := { program := "ythhppmehhdlmnaagreatdoor", sum := "129a592796b93a812d32fe917457ebbc4334a9ec5bb7690b29e09c7d47b8da9c", func := "vetch/vetchlaw13.LeftMatchesReference", spec := "leftMatchesReference", inPlace := ["internal/bytealg.IndexByteString", "internal/bytealg.IndexString", "internal/abi.NoEscape", "internal/bytealg.MakeNoZero"], unfollowed := true, recurses := true, named := ["vetch/lexer.signs", "internal/bytealg.MaxLen"], apart := false, laid := [("vetch/lexer.signs", laid_vetch_lexer_signs)], narrowed := true }
def LeftMatchesReferenceUptoSaid : Prop := leftMatchesReferenceUptoRow.holds Tryz.pinned (OpenSpec.upto leftMatchesReferenceSpec)

/-- 'vetchlaw13.LeftOrders', WHERE WHAT IT READS IS OF BULK AT MOST 1048576: true; the input reads as it did. -/
def leftOrdersUptoRow : OpenClaim := { program := "ythhppmehhdlmnaagreatdoor", sum := "129a592796b93a812d32fe917457ebbc4334a9ec5bb7690b29e09c7d47b8da9c", func := "vetch/vetchlaw13.LeftOrders", spec := "leftOrders", inPlace := ["internal/bytealg.IndexByteString", "internal/bytealg.IndexString", "internal/abi.NoEscape", "internal/bytealg.MakeNoZero"], unfollowed := true, recurses := true, named := ["vetch/lexer.signs", "internal/bytealg.MaxLen"], apart := false, laid := [("vetch/lexer.signs", laid_vetch_lexer_signs)], narrowed := true }
def LeftOrdersUptoSaid : Prop := leftOrdersUptoRow.holds Tryz.pinned (OpenSpec.upto leftOrdersSpec)

/-- 'vetchlaw13.LeftDecides', WHERE WHAT IT READS IS OF BULK AT MOST 1048576: true; the input reads as it did. -/
def leftDecidesUptoRow : OpenClaim := { program := "ythhppmehhdlmnaagreatdoor", sum := "129a592796b93a812d32fe917457ebbc4334a9ec5bb7690b29e09c7d47b8da9c", func := "vetch/vetchlaw13.LeftDecides", spec := "leftDecides", inPlace := ["internal/bytealg.IndexByteString", "internal/bytealg.IndexString", "internal/abi.NoEscape", "internal/bytealg.MakeNoZero"], unfollowed := true, recurses := true, named := ["vetch/lexer.signs", "internal/bytealg.MaxLen"], apart := false, laid := [("vetch/lexer.signs", laid_vetch_lexer_signs)], narrowed := true }
def LeftDecidesUptoSaid : Prop := leftDecidesUptoRow.holds Tryz.pinned (OpenSpec.upto leftDecidesSpec)

/-- 'vetchlaw13.LeftCycles', WHERE WHAT IT READS IS OF BULK AT MOST 1048576: true; the input reads as it did. -/
def leftCyclesUptoRow : OpenClaim := { program := "ythhppmehhdlmnaagreatdoor", sum := "129a592796b93a812d32fe917457ebbc4334a9ec5bb7690b29e09c7d47b8da9c", func := "vetch/vetchlaw13.LeftCycles", spec := "leftCycles", inPlace := ["internal/bytealg.IndexByteString", "internal/bytealg.IndexString", "internal/abi.NoEscape", "internal/bytealg.MakeNoZero"], unfollowed := true, recurses := true, named := ["vetch/lexer.signs", "internal/bytealg.MaxLen"], apart := false, laid := [("vetch/lexer.signs", laid_vetch_lexer_signs)], narrowed := true }
def LeftCyclesUptoSaid : Prop := leftCyclesUptoRow.holds Tryz.pinned (OpenSpec.upto leftCyclesSpec)

/-- 'vetchlaw13.LeftReaches', WHERE WHAT IT READS IS OF BULK AT MOST 1048576: true; the input reads as it did. -/
def leftReachesUptoRow : OpenClaim := { program := "ythhppmehhdlmnaagreatdoor", sum := "129a592796b93a812d32fe917457ebbc4334a9ec5bb7690b29e09c7d47b8da9c", func := "vetch/vetchlaw13.LeftReaches", spec := "leftReaches", inPlace := ["internal/bytealg.IndexByteString", "internal/bytealg.IndexString", "internal/abi.NoEscape", "internal/bytealg.MakeNoZero"], unfollowed := true, recurses := true, named := ["vetch/lexer.signs", "internal/bytealg.MaxLen"], apart := false, laid := [("vetch/lexer.signs", laid_vetch_lexer_signs)], narrowed := true }
def LeftReachesUptoSaid : Prop := leftReachesUptoRow.holds Tryz.pinned (OpenSpec.upto leftReachesSpec)

end Rows
end Go.Proofs.YthhppmehhdlmnaaGreatDoor
