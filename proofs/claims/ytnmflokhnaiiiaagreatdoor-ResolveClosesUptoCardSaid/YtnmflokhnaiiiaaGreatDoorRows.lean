/-
  NARROWER THAN 'FOR EVERY INPUT', by the rows' own cells (each row's printed sentence says how): ResolveMatchesReference: laid · ResolveNames: laid · ResolveGrammars: laid · ResolveCloses: laid · ResolveRenames: laid.
  DERIVED. THE GIVEN ROWS OF THIS SEAT. 5 by the template 'for every input the law returns true; each argument reads behind the call as it read before'; 0 by the template 'total and deterministic' (their statements: YtnmflokhnaiiiaaGreatDoorTotals.lean).
  GIVEN WITH THE SEED: the statements are not yours to turn. If you find one false, say at which input.
  Laid BY PROGRAM, IN A SANDBOX (cutbox-rows.mjs): the forced cells as the released guide's own fill.sh prints them over the translation 1d10adcff20d0994… (all of the seat's roots in one cut). By AI agents, Wed Nov 11 2026. No macro, syntax, notation, axiom, sorry.
-/
import Derived.Test.YtnmflokhnaiiiaaGreatDoorChecked
import GoSem.Claim
import GoSem.ClaimJoined
import GoSem.ClaimMapViews
import Derived.JoinedTies
import Derived.KernelRfl
namespace Go.Proofs.YtnmflokhnaiiiaaGreatDoor
/- THE CELL 'sum', in the pinned program and in every row, IS THE sha256 OF THE DUMP (.gsa) THAT YtnmflokhnaiiiaaGreatDoorProg.lean LOADS. Nothing in Lean hashes anything: it is a label: what it is worth is what the hold of that sum in a sandbox is worth. -/
noncomputable def Tryz.pinned : Pinned := { name := "ytnmflokhnaiiiaagreatdoor", sum := "1d10adcff20d09946e18f9d2f37d91ae10088cbdb1d0b6592dfa53e83cf61c6f", checked := Tryz.checked }
namespace Rows
def none {H : Type} : Left H := { results := [], args := [] }

/- WHAT THE LISTED PACKAGE-LEVEL VARIABLES READ AS WHEN THE CALL BEGINS. Each datum BY PROGRAM (the guide's laid-datum.mjs) off the statement by which the dump's own 'gosem.cut.vars' lays the variable. In a bare row this is a premise. The card (YtnmflokhnaiiiaaGreatDoorCards.lean) ties it to the program's text. -/
def laid_errors_errorType {H : Type} : DataW H := .iface "internal/reflectlite.rtype" (.agg [.ptr (.lit (.string [101, 114, 114, 111, 114]))])
def laid_vetch_lexer_signs {H : Type} : DataW H := .agg [.lit (.string [60, 45]), .lit (.string [47]), .lit (.string [38]), .lit (.string [33]), .lit (.string [63]), .lit (.string [42]), .lit (.string [43]), .lit (.string [40]), .lit (.string [41]), .lit (.string [46])]

/-- 'vetchlaw09.ResolveMatchesReference': WHATEVER THE INPUT: true; the input reads as it did. -/
def resolveMatchesReferenceSpec : ChangeSpec := { name := "resolveMatchesReference", fn := fun _ => fun
  | [d] => { results := [.lit (.bool true)], args := [d] }
  | _ => none }
def resolveMatchesReferenceRow : OpenClaim := { program := "ytnmflokhnaiiiaagreatdoor", sum := "1d10adcff20d09946e18f9d2f37d91ae10088cbdb1d0b6592dfa53e83cf61c6f", func := "vetch/vetchlaw09.ResolveMatchesReference", spec := "resolveMatchesReference", inPlace := ["internal/bytealg.IndexByteString", "internal/bytealg.IndexString", "internal/reflectlite.ValueOf", "(internal/reflectlite.Value).Type", "(internal/reflectlite.Value).IsNil", "internal/reflectlite.TypeOf", "(internal/reflectlite.Value).Elem", "(internal/reflectlite.Value).Set"], unfollowed := true, recurses := true, named := ["vetch/lexer.signs", "errors.errorType", "internal/bytealg.MaxLen"], apart := false, laid := [("errors.errorType", laid_errors_errorType), ("vetch/lexer.signs", laid_vetch_lexer_signs)] }
def ResolveMatchesReferenceSaid : Prop := resolveMatchesReferenceRow.holds Tryz.pinned (OpenSpec.ofChange resolveMatchesReferenceSpec)

/-- ITS FALSE NEIGHBOUR: 'it returns false'. Refute it at one input. -/
def resolveMatchesReferenceWrong : ChangeSpec := { name := "resolveMatchesReference", fn := fun _ => fun
  | [d] => { results := [.lit (.bool false)], args := [d] }
  | _ => none }
def ResolveMatchesReferenceWrongFalsely : Prop := resolveMatchesReferenceRow.holds Tryz.pinned (OpenSpec.ofChange resolveMatchesReferenceWrong)

/-- 'vetchlaw09.ResolveNames': WHATEVER THE INPUT: true; the input reads as it did. -/
def resolveNamesSpec : ChangeSpec := { name := "resolveNames", fn := fun _ => fun
  | [d1, d2] => { results := [.lit (.bool true)], args := [d1, d2] }
  | _ => none }
def resolveNamesRow : OpenClaim := { program := "ytnmflokhnaiiiaagreatdoor", sum := "1d10adcff20d09946e18f9d2f37d91ae10088cbdb1d0b6592dfa53e83cf61c6f", func := "vetch/vetchlaw09.ResolveNames", spec := "resolveNames", inPlace := ["internal/bytealg.IndexByteString", "internal/bytealg.IndexString", "internal/reflectlite.ValueOf", "(internal/reflectlite.Value).Type", "(internal/reflectlite.Value).IsNil", "internal/reflectlite.TypeOf", "(internal/reflectlite.Value).Elem", "(internal/reflectlite.Value).Set"], unfollowed := true, recurses := true, named := ["vetch/lexer.signs", "errors.errorType", "internal/bytealg.MaxLen"], apart := false, laid := [("errors.errorType", laid_errors_errorType), ("vetch/lexer.signs", laid_vetch_lexer_signs)] }
def ResolveNamesSaid : Prop := resolveNamesRow.holds Tryz.pinned (OpenSpec.ofChange resolveNamesSpec)

/-- ITS FALSE NEIGHBOUR: 'it returns false'. Refute it at one input. -/
def resolveNamesWrong : ChangeSpec := { name := "resolveNames", fn := fun _ => fun
  | [d1, d2] => { results := [.lit (.bool false)], args := [d1, d2] }
  | _ => none }
def ResolveNamesWrongFalsely : Prop := resolveNamesRow.holds Tryz.pinned (OpenSpec.ofChange resolveNamesWrong)

/-- 'vetchlaw09.ResolveGrammars': WHATEVER THE INPUT: true; the input reads as it did. -/
def resolveGrammarsSpec : ChangeSpec := { name := "resolveGrammars", fn := fun _ => fun
  | [d] => { results := [.lit (.bool true)], args := [d] }
  | _ => none }
def resolveGrammarsRow : OpenClaim := { program := "ytnmflokhnaiiiaagreatdoor", sum := "1d10adcff20d09946e18f9d2f37d91ae10088cbdb1d0b6592dfa53e83cf61c6f", func := "vetch/vetchlaw09.ResolveGrammars", spec := "resolveGrammars", inPlace := ["internal/bytealg.IndexByteString", "internal/bytealg.IndexString", "internal/reflectlite.ValueOf", "(internal/reflectlite.Value).Type", "(internal/reflectlite.Value).IsNil", "internal/reflectlite.TypeOf", "(internal/reflectlite.Value).Elem", "(internal/reflectlite.Value).Set"], unfollowed := true, recurses := true, named := ["vetch/lexer.signs", "errors.errorType", "internal/bytealg.MaxLen"], apart := false, laid := [("errors.errorType", laid_errors_errorType), ("vetch/lexer.signs", laid_vetch_lexer_signs)] }
def ResolveGrammarsSaid : Prop := resolveGrammarsRow.holds Tryz.pinned (OpenSpec.ofChange resolveGrammarsSpec)

/-- ITS FALSE NEIGHBOUR: 'it returns false'. Refute it at one input. -/
def resolveGrammarsWrong : ChangeSpec := { name := "resolveGrammars", fn := fun _ => fun
  | [d] => { results := [.lit (.bool false)], args := [d] }
  | _ => none }
def ResolveGrammarsWrongFalsely : Prop := resolveGrammarsRow.holds Tryz.pinned (OpenSpec.ofChange resolveGrammarsWrong)

/-- 'vetchlaw09.ResolveCloses': WHATEVER THE INPUT: true; the input reads as it did. -/
def resolveClosesSpec : ChangeSpec := { name := "resolveCloses", fn := fun _ => fun
  | [d] => { results := [.lit (.bool true)], args := [d] }
  | _ => none }
def resolveClosesRow : OpenClaim := { program := "ytnmflokhnaiiiaagreatdoor", sum := "1d10adcff20d09946e18f9d2f37d91ae10088cbdb1d0b6592dfa53e83cf61c6f", func := "vetch/vetchlaw09.ResolveCloses", spec := "resolveCloses", inPlace := ["internal/bytealg.IndexByteString", "internal/bytealg.IndexString", "internal/reflectlite.ValueOf", "(internal/reflectlite.Value).Type", "(internal/reflectlite.Value).IsNil", "internal/reflectlite.TypeOf", "(internal/reflectlite.Value).Elem", "(internal/reflectlite.Value).Set"], unfollowed := true, recurses := true, named := ["vetch/lexer.signs", "errors.errorType", "internal/bytealg.MaxLen"], apart := false, laid := [("errors.errorType", laid_errors_errorType), ("vetch/lexer.signs", laid_vetch_lexer_signs)] }
def ResolveClosesSaid : Prop := resolveClosesRow.holds Tryz.pinned (OpenSpec.ofChange resolveClosesSpec)

/-- ITS FALSE NEIGHBOUR: 'it returns false'. Refute it at one input. -/
def resolveClosesWrong : ChangeSpec := { name := "resolveCloses", fn := fun _ => fun
  | [d] => { results := [.lit (.bool false)], args := [d] }
  | _ => none }
def ResolveClosesWrongFalsely : Prop := resolveClosesRow.holds Tryz.pinned (OpenSpec.ofChange resolveClosesWrong)

/-- 'vetchlaw09.ResolveRenames': WHATEVER THE INPUT: true; the input reads as it did. -/
def resolveRenamesSpec : ChangeSpec := { name := "resolveRenames", fn := fun _ => fun
  | [d] => { results := [.lit (.bool true)], args := [d] }
  | _ => none }
def resolveRenamesRow : OpenClaim := { program := "ytnmflokhnaiiiaagreatdoor", sum := "1d10adcff20d09946e18f9d2f37d91ae10088cbdb1d0b6592dfa53e83cf61c6f", func := "vetch/vetchlaw09.ResolveRenames", spec := "resolveRenames", inPlace := ["internal/bytealg.IndexByteString", "internal/bytealg.IndexString", "internal/reflectlite.ValueOf", "(internal/reflectlite.Value).Type", "(internal/reflectlite.Value).IsNil", "internal/reflectlite.TypeOf", "(internal/reflectlite.Value).Elem", "(internal/reflectlite.Value).Set"], unfollowed := true, recurses := true, named := ["vetch/lexer.signs", "errors.errorType", "internal/bytealg.MaxLen"], apart := false, laid := [("errors.errorType", laid_errors_errorType), ("vetch/lexer.signs", laid_vetch_lexer_signs)] }
def ResolveRenamesSaid : Prop := resolveRenamesRow.holds Tryz.pinned (OpenSpec.ofChange resolveRenamesSpec)

/-- ITS FALSE NEIGHBOUR: 'it returns false'. Refute it at one input. -/
def resolveRenamesWrong : ChangeSpec := { name := "resolveRenames", fn := fun _ => fun
  | [d] => { results := [.lit (.bool false)], args := [d] }
  | _ => none }
def ResolveRenamesWrongFalsely : Prop := resolveRenamesRow.holds Tryz.pinned (OpenSpec.ofChange resolveRenamesWrong)

/- THE SECOND FORM. 'bulk': how many values and letters a reading holds, each counted each time it is reached (what is shared counts as often as it is met; a slice's spare places count too). A statement '..UptoSaid' is the law's where the arguments, and the package variables that the reading takes, are together of bulk at most 1048576: NARROWER than '..Said'. Prove '..Said' where nothing that the law and all that it calls make is longer than what came in: it says more and counts as full. Else prove '..UptoSaid'. A law counts once. -/
mutual
def uptoBulk {H : Type} : DataW H → Nat
  | .lit (.string bytes) => bytes.length + 1
  | .lit _ => 1
  | .nil => 1
  | .ptr d => uptoBulk d + 1
  | .slice elems spare => uptoBulkAll elems + uptoBulkAll spare + 1
  | .agg parts => uptoBulkAll parts + 1
  | .iface _ d => uptoBulk d + 1
  | .map entries => uptoBulkEntries entries + 1
  | .held _ => 1
def uptoBulkAll {H : Type} : List (DataW H) → Nat
  | [] => 0
  | d :: r => uptoBulk d + uptoBulkAll r
def uptoBulkEntries {H : Type} : List (Lit × DataW H) → Nat
  | [] => 0
  | x :: r => uptoBulkEntry x + uptoBulkEntries r
def uptoBulkEntry {H : Type} : Lit × DataW H → Nat
  | (.string bytes, d) => bytes.length + uptoBulk d + 1
  | (_, d) => uptoBulk d + 1
 end
def uptoSmall : (H : Type) → List (DataW H) → Bool := fun _ ds => decide (uptoBulkAll ds ≤ 1048576)
def OpenSpec.upto (s : _root_.Go.ChangeSpec) : _root_.Go.OpenSpec := { _root_.Go.OpenSpec.ofChange s with cond := some uptoSmall }

/-- 'vetchlaw09.ResolveMatchesReference', WHERE WHAT IT READS IS OF BULK AT MOST 1048576: true; the input reads as it did. -/
def resolveMatchesReferenceUptoRow : OpenClaim := { program := "ytnmflokhnaiiiaagreatdoor", sum := "1d10adcff20d09946e18f9d2f37d91ae10088cbdb1d0b6592dfa53e83cf61c6f", func := "vetch/vetchlaw09.ResolveMatchesReference", spec := "resolveMatchesReference", inPlace := ["internal/bytealg.IndexByteString", "internal/bytealg.IndexString", "internal/reflectlite.ValueOf", "(internal/reflectlite.Value).Type", "(internal/reflectlite.Value).IsNil", "internal/reflectlite.TypeOf", "(internal/reflectlite.Value).Elem", "(internal/reflectlite.Value).Set"], unfollowed := true, recurses := true, named := ["vetch/lexer.signs", "errors.errorType", "internal/bytealg.MaxLen"], apart := false, laid := [("errors.errorType", laid_errors_errorType), ("vetch/lexer.signs", laid_vetch_lexer_signs)], narrowed := true }
def ResolveMatchesReferenceUptoSaid : Prop := resolveMatchesReferenceUptoRow.holds Tryz.pinned (OpenSpec.upto resolveMatchesReferenceSpec)

/-- 'vetchlaw09.ResolveNames', WHERE WHAT IT READS IS OF BULK AT MOST 1048576: true; the input reads as it did. -/
def resolveNamesUptoRow : OpenClaim := { program := "ytnmflokhnaiiiaagreatdoor", sum := "1d10adcff20d09946e18f9d2f37d91ae10088cbdb1d0b6592dfa53e83cf61c6f", func := "vetch/vetchlaw09.ResolveNames", spec := "resolveNames", inPlace := ["internal/bytealg.IndexByteString", "internal/bytealg.IndexString", "internal/reflectlite.ValueOf", "(internal/reflectlite.Value).Type", "(internal/reflectlite.Value).IsNil", "internal/reflectlite.TypeOf", "(internal/reflectlite.Value).Elem", "(internal/reflectlite.Value).Set"], unfollowed := true, recurses := true, named := ["vetch/lexer.signs", "errors.errorType", "internal/bytealg.MaxLen"], apart := false, laid := [("errors.errorType", laid_errors_errorType), ("vetch/lexer.signs", laid_vetch_lexer_signs)], narrowed := true }
def ResolveNamesUptoSaid : Prop := resolveNamesUptoRow.holds Tryz.pinned (OpenSpec.upto resolveNamesSpec)

/-- 'vetchlaw09.ResolveGrammars', WHERE WHAT IT READS IS OF BULK AT MOST 1048576: true; the input reads as it did. -/
def resolveGrammarsUptoRow : OpenClaim := { program := "ytnmflokhnaiiiaagreatdoor", sum := "1d10adcff20d09946e18f9d2f37d91ae10088cbdb1d0b6592dfa53e83cf61c6f", func := "vetch/vetchlaw09.ResolveGrammars", spec := "resolveGrammars", inPlace := ["internal/bytealg.IndexByteString", "internal/bytealg.IndexString", "internal/reflectlite.ValueOf", "(internal/reflectlite.Value).Type", "(internal/reflectlite.Value).IsNil", "internal/reflectlite.TypeOf", "(internal/reflectlite.Value).Elem", "(internal/reflectlite.Value).Set"], unfollowed := true, recurses := true, named := ["vetch/lexer.signs", "errors.errorType", "internal/bytealg.MaxLen"], apart := false, laid := [("errors.errorType", laid_errors_errorType), ("vetch/lexer.signs", laid_vetch_lexer_signs)], narrowed := true }
def ResolveGrammarsUptoSaid : Prop := resolveGrammarsUptoRow.holds Tryz.pinned (OpenSpec.upto resolveGrammarsSpec)

/-- 'vetchlaw09.ResolveCloses', WHERE WHAT IT READS IS OF BULK AT MOST 1048576: true; the input reads as it did. -/
def resolveClosesUptoRow : OpenClaim := { program := "ytnmflokhnaiiiaagreatdoor", sum := "1d10adcff20d09946e18f9d2f37d91ae10088cbdb1d0b6592dfa53e83cf61c6f", func := "vetch/vetchlaw09.ResolveCloses", spec := "resolveCloses", inPlace := ["internal/bytealg.IndexByteString", "internal/bytealg.IndexString", "internal/reflectlite.ValueOf", "(internal/reflectlite.Value).Type", "(internal/reflectlite.Value).IsNil", "internal/reflectlite.TypeOf", "(internal/reflectlite.Value).Elem", "(internal/reflectlite.Value).Set"], unfollowed := true, recurses := true, named := ["vetch/lexer.signs", "errors.errorType", "internal/bytealg.MaxLen"], apart := false, laid := [("errors.errorType", laid_errors_errorType), ("vetch/lexer.signs", laid_vetch_lexer_signs)], narrowed := true }
def ResolveClosesUptoSaid : Prop := resolveClosesUptoRow.holds Tryz.pinned (OpenSpec.upto resolveClosesSpec)

/-- 'vetchlaw09.ResolveRenames', WHERE WHAT IT READS IS OF BULK AT MOST 1048576: true; the input reads as it did. -/
def resolveRenamesUptoRow : OpenClaim := { program := "ytnmflokhnaiiiaagreatdoor", sum := "1d10adcff20d09946e18f9d2f37d91ae10088cbdb1d0b6592dfa53e83cf61c6f", func := "vetch/vetchlaw09.ResolveRenames", spec := "resolveRenames", inPlace := ["internal/bytealg.IndexByteString", "internal/bytealg.IndexString", "internal/reflectlite.ValueOf", "(internal/reflectlite.Value).Type", "(internal/reflectlite.Value).IsNil", "internal/reflectlite.TypeOf", "(internal/reflectlite.Value).Elem", "(internal/reflectlite.Value).Set"], unfollowed := true, recurses := true, named := ["vetch/lexer.signs", "errors.errorType", "internal/bytealg.MaxLen"], apart := false, laid := [("errors.errorType", laid_errors_errorType), ("vetch/lexer.signs", laid_vetch_lexer_signs)], narrowed := true }
def ResolveRenamesUptoSaid : Prop := resolveRenamesUptoRow.holds Tryz.pinned (OpenSpec.upto resolveRenamesSpec)

end Rows
end Go.Proofs.YtnmflokhnaiiiaaGreatDoor
