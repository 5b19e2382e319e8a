/-
  No cell of these rows narrows 'for every input' (looked for: loops, veiled, ifaces, maps, wideKeys, modest, calm, conditions, laid).
  DERIVED. THE GIVEN ROWS OF THIS SEAT. 5 by the template 'for every input the law returns true; each argument reads behind the call as it read before'; 0 by the template 'total and deterministic' (their statements: YtocklhehfdilmaaTotals.lean).
  GIVEN WITH THE SEED: the statements are not yours to turn. If you find one false, say at which input.
  Laid BY PROGRAM, IN A SANDBOX (cutbox-rows.mjs): the forced cells as the released guide's own fill.sh prints them over the translation 14e27939b527c646… (all of the seat's roots in one cut). By AI agents, Wed Nov 11 2026. No macro, syntax, notation, axiom, sorry.
-/
import Derived.Test.YtocklhehfdilmaaChecked
import GoSem.Claim
import GoSem.ClaimJoined
import GoSem.ClaimMapViews
import Derived.JoinedTies
import Derived.KernelRfl
namespace Go.Proofs.Ytocklhehfdilmaa
/- THE CELL 'sum', in the pinned program and in every row, IS THE sha256 OF THE DUMP (.gsa) THAT YtocklhehfdilmaaProg.lean LOADS. Nothing in Lean hashes anything: it is a label: what it is worth is what the hold of that sum in a sandbox is worth. -/
noncomputable def Try.pinned : Pinned := { name := "ytocklhehfdilmaa", sum := "14e27939b527c64664818030df77f05f2279ba3809ea138a8d99668aa6edbf0f", checked := Try.checked }
namespace Rows
def none {H : Type} : Left H := { results := [], args := [] }

/-- 'vetchlaw11.FlowMatchesReference': WHATEVER THE INPUT: true; the input reads as it did. -/
def flowMatchesReferenceSpec : ChangeSpec := { name := "flowMatchesReference", fn := fun _ => fun
  | [d1, d2] => { results := [.lit (.bool true)], args := [d1, d2] }
  | _ => none }
def flowMatchesReferenceRow : OpenClaim := { program := "ytocklhehfdilmaa", sum := "14e27939b527c64664818030df77f05f2279ba3809ea138a8d99668aa6edbf0f", func := "vetch/vetchlaw11.FlowMatchesReference", spec := "flowMatchesReference", unfollowed := true, recurses := true, apart := false }
def FlowMatchesReferenceSaid : Prop := flowMatchesReferenceRow.holds Try.pinned (OpenSpec.ofChange flowMatchesReferenceSpec)

/-- ITS FALSE NEIGHBOUR: 'it returns false'. Refute it at one input. -/
def flowMatchesReferenceWrong : ChangeSpec := { name := "flowMatchesReference", fn := fun _ => fun
  | [d1, d2] => { results := [.lit (.bool false)], args := [d1, d2] }
  | _ => none }
def FlowMatchesReferenceWrongFalsely : Prop := flowMatchesReferenceRow.holds Try.pinned (OpenSpec.ofChange flowMatchesReferenceWrong)

/-- 'vetchlaw11.FlowSteps': WHATEVER THE INPUT: true; the input reads as it did. -/
def flowStepsSpec : ChangeSpec := { name := "flowSteps", fn := fun _ => fun
  | [d1, d2] => { results := [.lit (.bool true)], args := [d1, d2] }
  | _ => none }
def flowStepsRow : OpenClaim := { program := "ytocklhehfdilmaa", sum := "14e27939b527c64664818030df77f05f2279ba3809ea138a8d99668aa6edbf0f", func := "vetch/vetchlaw11.FlowSteps", spec := "flowSteps", unfollowed := true, recurses := true, apart := false }
def FlowStepsSaid : Prop := flowStepsRow.holds Try.pinned (OpenSpec.ofChange flowStepsSpec)

/-- ITS FALSE NEIGHBOUR: 'it returns false'. Refute it at one input. -/
def flowStepsWrong : ChangeSpec := { name := "flowSteps", fn := fun _ => fun
  | [d1, d2] => { results := [.lit (.bool false)], args := [d1, d2] }
  | _ => none }
def FlowStepsWrongFalsely : Prop := flowStepsRow.holds Try.pinned (OpenSpec.ofChange flowStepsWrong)

/-- 'vetchlaw11.FlowSettles': WHATEVER THE INPUT: true; the input reads as it did. -/
def flowSettlesSpec : ChangeSpec := { name := "flowSettles", fn := fun _ => fun
  | [d] => { results := [.lit (.bool true)], args := [d] }
  | _ => none }
def flowSettlesRow : OpenClaim := { program := "ytocklhehfdilmaa", sum := "14e27939b527c64664818030df77f05f2279ba3809ea138a8d99668aa6edbf0f", func := "vetch/vetchlaw11.FlowSettles", spec := "flowSettles", unfollowed := true, recurses := true, apart := false }
def FlowSettlesSaid : Prop := flowSettlesRow.holds Try.pinned (OpenSpec.ofChange flowSettlesSpec)

/-- ITS FALSE NEIGHBOUR: 'it returns false'. Refute it at one input. -/
def flowSettlesWrong : ChangeSpec := { name := "flowSettles", fn := fun _ => fun
  | [d] => { results := [.lit (.bool false)], args := [d] }
  | _ => none }
def FlowSettlesWrongFalsely : Prop := flowSettlesRow.holds Try.pinned (OpenSpec.ofChange flowSettlesWrong)

/-- 'vetchlaw11.FlowRises': WHATEVER THE INPUT: true; the input reads as it did. -/
def flowRisesSpec : ChangeSpec := { name := "flowRises", fn := fun _ => fun
  | [d1, d2, d3] => { results := [.lit (.bool true)], args := [d1, d2, d3] }
  | _ => none }
def flowRisesRow : OpenClaim := { program := "ytocklhehfdilmaa", sum := "14e27939b527c64664818030df77f05f2279ba3809ea138a8d99668aa6edbf0f", func := "vetch/vetchlaw11.FlowRises", spec := "flowRises", unfollowed := true, recurses := true, apart := false }
def FlowRisesSaid : Prop := flowRisesRow.holds Try.pinned (OpenSpec.ofChange flowRisesSpec)

/-- ITS FALSE NEIGHBOUR: 'it returns false'. Refute it at one input. -/
def flowRisesWrong : ChangeSpec := { name := "flowRises", fn := fun _ => fun
  | [d1, d2, d3] => { results := [.lit (.bool false)], args := [d1, d2, d3] }
  | _ => none }
def FlowRisesWrongFalsely : Prop := flowRisesRow.holds Try.pinned (OpenSpec.ofChange flowRisesWrong)

/-- 'vetchlaw11.FlowTexts': WHATEVER THE INPUT: true; the input reads as it did. -/
def flowTextsSpec : ChangeSpec := { name := "flowTexts", fn := fun _ => fun
  | [d1, d2] => { results := [.lit (.bool true)], args := [d1, d2] }
  | _ => none }
def flowTextsRow : OpenClaim := { program := "ytocklhehfdilmaa", sum := "14e27939b527c64664818030df77f05f2279ba3809ea138a8d99668aa6edbf0f", func := "vetch/vetchlaw11.FlowTexts", spec := "flowTexts", unfollowed := true, recurses := true, apart := false }
def FlowTextsSaid : Prop := flowTextsRow.holds Try.pinned (OpenSpec.ofChange flowTextsSpec)

/-- ITS FALSE NEIGHBOUR: 'it returns false'. Refute it at one input. -/
def flowTextsWrong : ChangeSpec := { name := "flowTexts", fn := fun _ => fun
  | [d1, d2] => { results := [.lit (.bool false)], args := [d1, d2] }
  | _ => none }
def FlowTextsWrongFalsely : Prop := flowTextsRow.holds Try.pinned (OpenSpec.ofChange flowTextsWrong)

/- THE SECOND FORM. 'bulk': how many values and letters a reading holds, each counted each time it is reached (what is shared counts as often as it is met; a slice's spare places count too). A statement '..UptoSaid' is the law's where the arguments, and the package variables that the reading takes, are together of bulk at most 1048576: NARROWER than '..Said'. Prove '..Said' where nothing that the law and all that it calls make is longer than what came in: it says more and counts as full. Else prove '..UptoSaid'. A law counts once. -/
mutual
def uptoBulk {H : Type} : DataW H → Nat
  | .lit (.string bytes) => bytes.length + 1
  | .lit _ => 1
  | .nil => 1
  | .ptr d => uptoBulk d + 1
  | .slice elems spare => uptoBulkAll elems + uptoBulkAll spare + 1
  | .agg parts => uptoBulkAll parts + 1
  | .iface _ d => uptoBulk d + 1
  | .map entries => uptoBulkEntries entries + 1
  | .held _ => 1
def uptoBulkAll {H : Type} : List (DataW H) → Nat
  | [] => 0
  | d :: r => uptoBulk d + uptoBulkAll r
def uptoBulkEntries {H : Type} : List (Lit × DataW H) → Nat
  | [] => 0
  | x :: r => uptoBulkEntry x + uptoBulkEntries r
def uptoBulkEntry {H : Type} : Lit × DataW H → Nat
  | (.string bytes, d) => bytes.length + uptoBulk d + 1
  | (_, d) => uptoBulk d + 1
 end
def uptoSmall : (H : Type) → List (DataW H) → Bool := fun _ ds => decide (uptoBulkAll ds ≤ 1048576)
def OpenSpec.upto (s : _root_.Go.ChangeSpec) : _root_.Go.OpenSpec := { _root_.Go.OpenSpec.ofChange s with cond := some uptoSmall }

/-- 'vetchlaw11.FlowMatchesReference', WHERE WHAT IT READS IS OF BULK AT MOST 1048576: true; the input reads as it did. -/
def flowMatchesReferenceUptoRow : OpenClaim := { program := "ytocklhehfdilmaa", sum := "14e27939b527c64664818030df77f05f2279ba3809ea138a8d99668aa6edbf0f", func := "vetch/vetchlaw11.FlowMatchesReference", spec := "flowMatchesReference", unfollowed := true, recurses := true, apart := false, narrowed := true }
def FlowMatchesReferenceUptoSaid : Prop := flowMatchesReferenceUptoRow.holds Try.pinned (OpenSpec.upto flowMatchesReferenceSpec)

/-- 'vetchlaw11.FlowSteps', WHERE WHAT IT READS IS OF BULK AT MOST 1048576: true; the input reads as it did. -/
def flowStepsUptoRow : OpenClaim := { program := "ytocklhehfdilmaa", sum := "14e27939b527c64664818030df77f05f2279ba3809ea138a8d99668aa6edbf0f", func := "vetch/vetchlaw11.FlowSteps", spec := "flowSteps", unfollowed := true, recurses := true, apart := false, narrowed := true }
def FlowStepsUptoSaid : Prop := flowStepsUptoRow.holds Try.pinned (OpenSpec.upto flowStepsSpec)

/-- 'vetchlaw11.FlowSettles', WHERE WHAT IT READS IS OF BULK AT MOST 1048576: true; the input reads as it did. -/
def flowSettlesUptoRow : OpenClaim := { program := "ytocklhehfdilmaa", sum := "14e27939b527c64664818030df77f05f2279ba3809ea138a8d99668aa6edbf0f", func := "vetch/vetchlaw11.FlowSettles", spec := "flowSettles", unfollowed := true, recurses := true, apart := false, narrowed := true }
def FlowSettlesUptoSaid : Prop := flowSettlesUptoRow.holds Try.pinned (OpenSpec.upto flowSettlesSpec)

/-- 'vetchlaw11.FlowRises', WHERE WHAT IT READS IS OF BULK AT MOST 1048576: true; the input reads as it did. -/
def flowRisesUptoRow : OpenClaim := { program := "ytocklhehfdilmaa", sum := "14e27939b527c64664818030df77f05f2279ba3809ea138a8d99668aa6edbf0f", func := "vetch/vetchlaw11.FlowRises", spec := "flowRises", unfollowed := true, recurses := true, apart := false, narrowed := true }
def FlowRisesUptoSaid : Prop := flowRisesUptoRow.holds Try.pinned (OpenSpec.upto flowRisesSpec)

/-- 'vetchlaw11.FlowTexts', WHERE WHAT IT READS IS OF BULK AT MOST 1048576: true; the input reads as it did. -/
def flowTextsUptoRow : OpenClaim := { program := "ytocklhehfdilmaa", sum := "14e27939b527c64664818030df77f05f2279ba3809ea138a8d99668aa6edbf0f", func := "vetch/vetchlaw11.FlowTexts", spec := "flowTexts", unfollowed := true, recurses := true, apart := false, narrowed := true }
def FlowTextsUptoSaid : Prop := flowTextsUptoRow.holds Try.pinned (OpenSpec.upto flowTextsSpec)

end Rows
end Go.Proofs.Ytocklhehfdilmaa
