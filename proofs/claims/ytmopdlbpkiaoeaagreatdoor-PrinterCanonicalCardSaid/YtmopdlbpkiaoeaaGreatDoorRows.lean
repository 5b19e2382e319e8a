/-
  NARROWER THAN 'FOR EVERY INPUT', by the rows' own cells (each row's printed sentence says how): PrinterMatchesReference: laid · PrinterInverse: laid · PrinterClasses: laid · PrinterCanonical: laid · PrinterNodes: laid.
  DERIVED. THE GIVEN ROWS OF THIS SEAT. 5 by the template 'for every input the law returns true; each argument reads behind the call as it read before'; 0 by the template 'total and deterministic' (their statements: YtmopdlbpkiaoeaaGreatDoorTotals.lean).
  GIVEN WITH THE SEED: the statements are not yours to turn. If you find one false, say at which input.
  Laid BY PROGRAM, IN A SANDBOX (cutbox-rows.mjs): the forced cells as the released guide's own fill.sh prints them over the translation 19e2c31a04cfc7a4… (all of the seat's roots in one cut). By AI agents, Wed Nov 11 2026. No macro, syntax, notation, axiom, sorry.
-/
import Derived.Test.YtmopdlbpkiaoeaaGreatDoorChecked
import GoSem.Claim
import GoSem.ClaimJoined
import GoSem.ClaimMapViews
import Derived.JoinedTies
import Derived.KernelRfl
namespace Go.Proofs.YtmopdlbpkiaoeaaGreatDoor
/- THE CELL 'sum', in the pinned program and in every row, IS THE sha256 OF THE DUMP (.gsa) THAT YtmopdlbpkiaoeaaGreatDoorProg.lean LOADS. Nothing in Lean hashes anything: it is a label: what it is worth is what the hold of that sum in a sandbox is worth. -/
noncomputable def Tryz.pinned : Pinned := { name := "ytmopdlbpkiaoeaagreatdoor", sum := "19e2c31a04cfc7a4ada527ca2beb010952367ffab4a8ff17d70d1d7764c5731c", checked := Tryz.checked }
namespace Rows
def none {H : Type} : Left H := { results := [], args := [] }

/- WHAT THE LISTED PACKAGE-LEVEL VARIABLES READ AS WHEN THE CALL BEGINS. Each datum BY PROGRAM (the guide's laid-datum.mjs) off the statement by which the dump's own 'gosem.cut.vars' lays the variable. In a bare row this is a premise. The card (YtmopdlbpkiaoeaaGreatDoorCards.lean) ties it to the program's text. -/
def laid_vetch_lexer_signs {H : Type} : DataW H := .agg [.lit (.string [60, 45]), .lit (.string [47]), .lit (.string [38]), .lit (.string [33]), .lit (.string [63]), .lit (.string [42]), .lit (.string [43]), .lit (.string [40]), .lit (.string [41]), .lit (.string [46])]
def laid_vetch_printer_signs {H : Type} : DataW H := .agg [.lit (.int .u8 0), .lit (.int .u8 0), .lit (.int .u8 0), .lit (.int .u8 0), .lit (.int .u8 0), .lit (.int .u8 42), .lit (.int .u8 43), .lit (.int .u8 63), .lit (.int .u8 38), .lit (.int .u8 33)]
def laid_errors_errorType {H : Type} : DataW H := .iface "internal/reflectlite.rtype" (.agg [.ptr (.lit (.string [101, 114, 114, 111, 114]))])

/-- 'vetchlaw10.PrinterMatchesReference': WHATEVER THE INPUT: true; the input reads as it did. -/
def printerMatchesReferenceSpec : ChangeSpec := { name := "printerMatchesReference", fn := fun _ => fun
  | [d1, d2] => { results := [.lit (.bool true)], args := [d1, d2] }
  | _ => none }
def printerMatchesReferenceRow : OpenClaim := { program := "ytmopdlbpkiaoeaagreatdoor", sum := "19e2c31a04cfc7a4ada527ca2beb010952367ffab4a8ff17d70d1d7764c5731c", func := "vetch/vetchlaw10.PrinterMatchesReference", spec := "printerMatchesReference", inPlace := ["internal/bytealg.IndexByteString", "internal/bytealg.IndexString", "internal/abi.NoEscape"], unfollowed := true, recurses := true, named := ["vetch/lexer.signs", "vetch/printer.signs", "internal/bytealg.MaxLen"], apart := false, laid := [("vetch/lexer.signs", laid_vetch_lexer_signs), ("vetch/printer.signs", laid_vetch_printer_signs)] }
def PrinterMatchesReferenceSaid : Prop := printerMatchesReferenceRow.holds Tryz.pinned (OpenSpec.ofChange printerMatchesReferenceSpec)

/-- ITS FALSE NEIGHBOUR: 'it returns false'. Refute it at one input. -/
def printerMatchesReferenceWrong : ChangeSpec := { name := "printerMatchesReference", fn := fun _ => fun
  | [d1, d2] => { results := [.lit (.bool false)], args := [d1, d2] }
  | _ => none }
def PrinterMatchesReferenceWrongFalsely : Prop := printerMatchesReferenceRow.holds Tryz.pinned (OpenSpec.ofChange printerMatchesReferenceWrong)

/-- 'vetchlaw10.PrinterInverse': WHATEVER THE INPUT: true; the input reads as it did. -/
def printerInverseSpec : ChangeSpec := { name := "printerInverse", fn := fun _ => fun
  | [d] => { results := [.lit (.bool true)], args := [d] }
  | _ => none }
def printerInverseRow : OpenClaim := { program := "ytmopdlbpkiaoeaagreatdoor", sum := "19e2c31a04cfc7a4ada527ca2beb010952367ffab4a8ff17d70d1d7764c5731c", func := "vetch/vetchlaw10.PrinterInverse", spec := "printerInverse", inPlace := ["internal/bytealg.IndexByteString", "internal/bytealg.IndexString", "internal/abi.NoEscape"], unfollowed := true, recurses := true, named := ["vetch/lexer.signs", "vetch/printer.signs", "internal/bytealg.MaxLen"], apart := false, laid := [("vetch/lexer.signs", laid_vetch_lexer_signs), ("vetch/printer.signs", laid_vetch_printer_signs)] }
def PrinterInverseSaid : Prop := printerInverseRow.holds Tryz.pinned (OpenSpec.ofChange printerInverseSpec)

/-- ITS FALSE NEIGHBOUR: 'it returns false'. Refute it at one input. -/
def printerInverseWrong : ChangeSpec := { name := "printerInverse", fn := fun _ => fun
  | [d] => { results := [.lit (.bool false)], args := [d] }
  | _ => none }
def PrinterInverseWrongFalsely : Prop := printerInverseRow.holds Tryz.pinned (OpenSpec.ofChange printerInverseWrong)

/-- 'vetchlaw10.PrinterClasses': WHATEVER THE INPUT: true; the input reads as it did. -/
def printerClassesSpec : ChangeSpec := { name := "printerClasses", fn := fun _ => fun
  | [d] => { results := [.lit (.bool true)], args := [d] }
  | _ => none }
def printerClassesRow : OpenClaim := { program := "ytmopdlbpkiaoeaagreatdoor", sum := "19e2c31a04cfc7a4ada527ca2beb010952367ffab4a8ff17d70d1d7764c5731c", func := "vetch/vetchlaw10.PrinterClasses", spec := "printerClasses", inPlace := ["internal/bytealg.IndexByteString", "internal/bytealg.IndexString", "internal/abi.NoEscape"], unfollowed := true, recurses := true, named := ["vetch/lexer.signs", "vetch/printer.signs", "internal/bytealg.MaxLen"], apart := false, laid := [("vetch/lexer.signs", laid_vetch_lexer_signs), ("vetch/printer.signs", laid_vetch_printer_signs)] }
def PrinterClassesSaid : Prop := printerClassesRow.holds Tryz.pinned (OpenSpec.ofChange printerClassesSpec)

/-- ITS FALSE NEIGHBOUR: 'it returns false'. Refute it at one input. -/
def printerClassesWrong : ChangeSpec := { name := "printerClasses", fn := fun _ => fun
  | [d] => { results := [.lit (.bool false)], args := [d] }
  | _ => none }
def PrinterClassesWrongFalsely : Prop := printerClassesRow.holds Tryz.pinned (OpenSpec.ofChange printerClassesWrong)

/-- 'vetchlaw10.PrinterCanonical': WHATEVER THE INPUT: true; the input reads as it did. -/
def printerCanonicalSpec : ChangeSpec := { name := "printerCanonical", fn := fun _ => fun
  | [d] => { results := [.lit (.bool true)], args := [d] }
  | _ => none }
def printerCanonicalRow : OpenClaim := { program := "ytmopdlbpkiaoeaagreatdoor", sum := "19e2c31a04cfc7a4ada527ca2beb010952367ffab4a8ff17d70d1d7764c5731c", func := "vetch/vetchlaw10.PrinterCanonical", spec := "printerCanonical", inPlace := ["internal/bytealg.IndexByteString", "internal/bytealg.IndexString", "internal/abi.NoEscape", "internal/reflectlite.ValueOf", "(internal/reflectlite.Value).Type", "(internal/reflectlite.Value).IsNil", "internal/reflectlite.TypeOf", "(internal/reflectlite.Value).Elem", "(internal/reflectlite.Value).Set"], unfollowed := true, recurses := true, named := ["vetch/lexer.signs", "vetch/printer.signs", "errors.errorType", "internal/bytealg.MaxLen"], apart := false, laid := [("errors.errorType", laid_errors_errorType), ("vetch/lexer.signs", laid_vetch_lexer_signs), ("vetch/printer.signs", laid_vetch_printer_signs)] }
def PrinterCanonicalSaid : Prop := printerCanonicalRow.holds Tryz.pinned (OpenSpec.ofChange printerCanonicalSpec)

/-- ITS FALSE NEIGHBOUR: 'it returns false'. Refute it at one input. -/
def printerCanonicalWrong : ChangeSpec := { name := "printerCanonical", fn := fun _ => fun
  | [d] => { results := [.lit (.bool false)], args := [d] }
  | _ => none }
def PrinterCanonicalWrongFalsely : Prop := printerCanonicalRow.holds Tryz.pinned (OpenSpec.ofChange printerCanonicalWrong)

/-- 'vetchlaw10.PrinterNodes': WHATEVER THE INPUT: true; the input reads as it did. -/
def printerNodesSpec : ChangeSpec := { name := "printerNodes", fn := fun _ => fun
  | [d1, d2] => { results := [.lit (.bool true)], args := [d1, d2] }
  | _ => none }
def printerNodesRow : OpenClaim := { program := "ytmopdlbpkiaoeaagreatdoor", sum := "19e2c31a04cfc7a4ada527ca2beb010952367ffab4a8ff17d70d1d7764c5731c", func := "vetch/vetchlaw10.PrinterNodes", spec := "printerNodes", inPlace := ["internal/bytealg.IndexByteString", "internal/bytealg.IndexString", "internal/abi.NoEscape"], unfollowed := true, recurses := true, named := ["vetch/lexer.signs", "vetch/printer.signs", "internal/bytealg.MaxLen"], apart := false, laid := [("vetch/lexer.signs", laid_vetch_lexer_signs), ("vetch/printer.signs", laid_vetch_printer_signs)] }
def PrinterNodesSaid : Prop := printerNodesRow.holds Tryz.pinned (OpenSpec.ofChange printerNodesSpec)

/-- ITS FALSE NEIGHBOUR: 'it returns false'. Refute it at one input. -/
def printerNodesWrong : ChangeSpec := { name := "printerNodes", fn := fun _ => fun
  | [d1, d2] => { results := [.lit (.bool false)], args := [d1, d2] }
  | _ => none }
def PrinterNodesWrongFalsely : Prop := printerNodesRow.holds Tryz.pinned (OpenSpec.ofChange printerNodesWrong)

/- THE SECOND FORM. 'bulk': how many values and letters a reading holds, each counted each time it is reached (what is shared counts as often as it is met; a slice's spare places count too). A statement '..UptoSaid' is the law's where the arguments, and the package variables that the reading takes, are together of bulk at most 1048576: NARROWER than '..Said'. Prove '..Said' where nothing that the law and all that it calls make is longer than what came in: it says more and counts as full. Else prove '..UptoSaid'. A law counts once. -/
mutual
def uptoBulk {H : Type} : DataW H → Nat
  | .lit (.string bytes) => bytes.length + 1
  | .lit _ => 1
  | .nil => 1
  | .ptr d => uptoBulk d + 1
  | .slice elems spare => uptoBulkAll elems + uptoBulkAll spare + 1
  | .agg parts => uptoBulkAll parts + 1
  | .iface _ d => uptoBulk d + 1
  | .map entries => uptoBulkEntries entries + 1
  | .held _ => 1
def uptoBulkAll {H : Type} : List (DataW H) → Nat
  | [] => 0
  | d :: r => uptoBulk d + uptoBulkAll r
def uptoBulkEntries {H : Type} : List (Lit × DataW H) → Nat
  | [] => 0
  | x :: r => uptoBulkEntry x + uptoBulkEntries r
def uptoBulkEntry {H : Type} : Lit × DataW H → Nat
  | (.string bytes, d) => bytes.length + uptoBulk d + 1
  | (_, d) => uptoBulk d + 1
 end
def uptoSmall : (H : Type) → List (DataW H) → Bool := fun _ ds => decide (uptoBulkAll ds ≤ 1048576)
def OpenSpec.upto (s : _root_.Go.ChangeSpec) : _root_.Go.OpenSpec := { _root_.Go.OpenSpec.ofChange s with cond := some uptoSmall }

/-- 'vetchlaw10.PrinterMatchesReference', WHERE WHAT IT READS IS OF BULK AT MOST 1048576: true; the input reads as it did. -/
def printerMatchesReferenceUptoRow : OpenClaim := { program := "ytmopdlbpkiaoeaagreatdoor", sum := "19e2c31a04cfc7a4ada527ca2beb010952367ffab4a8ff17d70d1d7764c5731c", func := "vetch/vetchlaw10.PrinterMatchesReference", spec := "printerMatchesReference", inPlace := ["internal/bytealg.IndexByteString", "internal/bytealg.IndexString", "internal/abi.NoEscape"], unfollowed := true, recurses := true, named := ["vetch/lexer.signs", "vetch/printer.signs", "internal/bytealg.MaxLen"], apart := false, laid := [("vetch/lexer.signs", laid_vetch_lexer_signs), ("vetch/printer.signs", laid_vetch_printer_signs)], narrowed := true }
def PrinterMatchesReferenceUptoSaid : Prop := printerMatchesReferenceUptoRow.holds Tryz.pinned (OpenSpec.upto printerMatchesReferenceSpec)

/-- 'vetchlaw10.PrinterInverse', WHERE WHAT IT READS IS OF BULK AT MOST 1048576: true; the input reads as it did. -/
def printerInverseUptoRow : OpenClaim := { program := "ytmopdlbpkiaoeaagreatdoor", sum := "19e2c31a04cfc7a4ada527ca2beb010952367ffab4a8ff17d70d1d7764c5731c", func := "vetch/vetchlaw10.PrinterInverse", spec := "printerInverse", inPlace := ["internal/bytealg.IndexByteString", "internal/bytealg.IndexString", "internal/abi.NoEscape"], unfollowed := true, recurses := true, named := ["vetch/lexer.signs", "vetch/printer.signs", "internal/bytealg.MaxLen"], apart := false, laid := [("vetch/lexer.signs", laid_vetch_lexer_signs), ("vetch/printer.signs", laid_vetch_printer_signs)], narrowed := true }
def PrinterInverseUptoSaid : Prop := printerInverseUptoRow.holds Tryz.pinned (OpenSpec.upto printerInverseSpec)

/-- 'vetchlaw10.PrinterClasses', WHERE WHAT IT READS IS OF BULK AT MOST 1048576: true; the input reads as it did. -/
def printerClassesUptoRow : OpenClaim := { program := "ytmopdlbpkiaoeaagreatdoor", sum := "19e2c31a04cfc7a4ada527ca2beb010952367ffab4a8ff17d70d1d7764c5731c", func := "vetch/vetchlaw10.PrinterClasses", spec := "printerClasses", inPlace := ["internal/bytealg.IndexByteString", "internal/bytealg.IndexString", "internal/abi.NoEscape"], unfollowed := true, recurses := true, named := ["vetch/lexer.signs", "vetch/printer.signs", "internal/bytealg.MaxLen"], apart := false, laid := [("vetch/lexer.signs", laid_vetch_lexer_signs), ("vetch/printer.signs", laid_vetch_printer_signs)], narrowed := true }
def PrinterClassesUptoSaid : Prop := printerClassesUptoRow.holds Tryz.pinned (OpenSpec.upto printerClassesSpec)

/-- 'vetchlaw10.PrinterCanonical', WHERE WHAT IT READS IS OF BULK AT MOST 1048576: true; the input reads as it did. -/
def printerCanonicalUptoRow : OpenClaim := { program := "ytmopdlbpkiaoeaagreatdoor", sum := "19e2c31a04cfc7a4ada527ca2beb010952367ffab4a8ff17d70d1d7764c5731c", func := "vetch/vetchlaw10.PrinterCanonical", spec := "printerCanonical", inPlace := ["internal/bytealg.IndexByteString", "internal/bytealg.IndexString", "internal/abi.NoEscape", "internal/reflectlite.ValueOf", "(internal/reflectlite.Value).Type", "(internal/reflectlite.Value).IsNil", "internal/reflectlite.TypeOf", "(internal/reflectlite.Value).Elem", "(internal/reflectlite.Value).Set"], unfollowed := true, recurses := true, named := ["vetch/lexer.signs", "vetch/printer.signs", "errors.errorType", "internal/bytealg.MaxLen"], apart := false, laid := [("errors.errorType", laid_errors_errorType), ("vetch/lexer.signs", laid_vetch_lexer_signs), ("vetch/printer.signs", laid_vetch_printer_signs)], narrowed := true }
def PrinterCanonicalUptoSaid : Prop := printerCanonicalUptoRow.holds Tryz.pinned (OpenSpec.upto printerCanonicalSpec)

/-- 'vetchlaw10.PrinterNodes', WHERE WHAT IT READS IS OF BULK AT MOST 1048576: true; the input reads as it did. -/
def printerNodesUptoRow : OpenClaim := { program := "ytmopdlbpkiaoeaagreatdoor", sum := "19e2c31a04cfc7a4ada527ca2beb010952367ffab4a8ff17d70d1d7764c5731c", func := "vetch/vetchlaw10.PrinterNodes", spec := "printerNodes", inPlace := ["internal/bytealg.IndexByteString", "internal/bytealg.IndexString", "internal/abi.NoEscape"], unfollowed := true, recurses := true, named := ["vetch/lexer.signs", "vetch/printer.signs", "internal/bytealg.MaxLen"], apart := false, laid := [("vetch/lexer.signs", laid_vetch_lexer_signs), ("vetch/printer.signs", laid_vetch_printer_signs)], narrowed := true }
def PrinterNodesUptoSaid : Prop := printerNodesUptoRow.holds Tryz.pinned (OpenSpec.upto printerNodesSpec)

end Rows
end Go.Proofs.YtmopdlbpkiaoeaaGreatDoor
