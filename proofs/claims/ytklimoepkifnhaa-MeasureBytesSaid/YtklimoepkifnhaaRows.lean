/-
  No cell of these rows narrows 'for every input' (looked for: loops, veiled, ifaces, maps, wideKeys, modest, calm, conditions, laid).
  DERIVED. THE GIVEN ROWS OF THIS SEAT. 5 by the template 'for every input the law returns true; each argument reads behind the call as it read before'; 0 by the template 'total and deterministic' (their statements: YtklimoepkifnhaaTotals.lean).
  GIVEN WITH THE SEED: the statements are not yours to turn. If you find one false, say at which input.
  Laid BY PROGRAM, IN A SANDBOX (cutbox-rows.mjs): the forced cells as the released guide's own fill.sh prints them over the translation 8101fc96754d2cae… (all of the seat's roots in one cut). By AI agents, Wed Nov 11 2026. No macro, syntax, notation, axiom, sorry.
-/
import Derived.Test.YtklimoepkifnhaaChecked
import GoSem.Claim
import GoSem.ClaimJoined
import GoSem.ClaimMapViews
import Derived.JoinedTies
import Derived.KernelRfl
namespace Go.Proofs.Ytklimoepkifnhaa
/- THE CELL 'sum', in the pinned program and in every row, IS THE sha256 OF THE DUMP (.gsa) THAT YtklimoepkifnhaaProg.lean LOADS. Nothing in Lean hashes anything: it is a label: what it is worth is what the hold of that sum in a sandbox is worth. -/
noncomputable def Try.pinned : Pinned := { name := "ytklimoepkifnhaa", sum := "8101fc96754d2cae645a812d5bc8309640ba69bda8268df9d0a061e91f6ff886", checked := Try.checked }
namespace Rows
def none {H : Type} : Left H := { results := [], args := [] }

/-- 'vetchlaw07.MeasureMatchesReference': WHATEVER THE INPUT: true; the input reads as it did. -/
def measureMatchesReferenceSpec : ChangeSpec := { name := "measureMatchesReference", fn := fun _ => fun
  | [d] => { results := [.lit (.bool true)], args := [d] }
  | _ => none }
def measureMatchesReferenceRow : OpenClaim := { program := "ytklimoepkifnhaa", sum := "8101fc96754d2cae645a812d5bc8309640ba69bda8268df9d0a061e91f6ff886", func := "vetch/vetchlaw07.MeasureMatchesReference", spec := "measureMatchesReference", unfollowed := true, recurses := true, apart := false }
def MeasureMatchesReferenceSaid : Prop := measureMatchesReferenceRow.holds Try.pinned (OpenSpec.ofChange measureMatchesReferenceSpec)

/-- ITS FALSE NEIGHBOUR: 'it returns false'. Refute it at one input. -/
def measureMatchesReferenceWrong : ChangeSpec := { name := "measureMatchesReference", fn := fun _ => fun
  | [d] => { results := [.lit (.bool false)], args := [d] }
  | _ => none }
def MeasureMatchesReferenceWrongFalsely : Prop := measureMatchesReferenceRow.holds Try.pinned (OpenSpec.ofChange measureMatchesReferenceWrong)

/-- 'vetchlaw07.MeasureBytes': WHATEVER THE INPUT: true; the input reads as it did. -/
def measureBytesSpec : ChangeSpec := { name := "measureBytes", fn := fun _ => fun
  | [d] => { results := [.lit (.bool true)], args := [d] }
  | _ => none }
def measureBytesRow : OpenClaim := { program := "ytklimoepkifnhaa", sum := "8101fc96754d2cae645a812d5bc8309640ba69bda8268df9d0a061e91f6ff886", func := "vetch/vetchlaw07.MeasureBytes", spec := "measureBytes", unfollowed := true, recurses := true, apart := false }
def MeasureBytesSaid : Prop := measureBytesRow.holds Try.pinned (OpenSpec.ofChange measureBytesSpec)

/-- ITS FALSE NEIGHBOUR: 'it returns false'. Refute it at one input. -/
def measureBytesWrong : ChangeSpec := { name := "measureBytes", fn := fun _ => fun
  | [d] => { results := [.lit (.bool false)], args := [d] }
  | _ => none }
def MeasureBytesWrongFalsely : Prop := measureBytesRow.holds Try.pinned (OpenSpec.ofChange measureBytesWrong)

/-- 'vetchlaw07.MeasureReaches': WHATEVER THE INPUT: true; the input reads as it did. -/
def measureReachesSpec : ChangeSpec := { name := "measureReaches", fn := fun _ => fun
  | [d1, d2] => { results := [.lit (.bool true)], args := [d1, d2] }
  | _ => none }
def measureReachesRow : OpenClaim := { program := "ytklimoepkifnhaa", sum := "8101fc96754d2cae645a812d5bc8309640ba69bda8268df9d0a061e91f6ff886", func := "vetch/vetchlaw07.MeasureReaches", spec := "measureReaches", unfollowed := true, recurses := true, apart := false }
def MeasureReachesSaid : Prop := measureReachesRow.holds Try.pinned (OpenSpec.ofChange measureReachesSpec)

/-- ITS FALSE NEIGHBOUR: 'it returns false'. Refute it at one input. -/
def measureReachesWrong : ChangeSpec := { name := "measureReaches", fn := fun _ => fun
  | [d1, d2] => { results := [.lit (.bool false)], args := [d1, d2] }
  | _ => none }
def MeasureReachesWrongFalsely : Prop := measureReachesRow.holds Try.pinned (OpenSpec.ofChange measureReachesWrong)

/-- 'vetchlaw07.MeasureCallers': WHATEVER THE INPUT: true; the input reads as it did. -/
def measureCallersSpec : ChangeSpec := { name := "measureCallers", fn := fun _ => fun
  | [d] => { results := [.lit (.bool true)], args := [d] }
  | _ => none }
def measureCallersRow : OpenClaim := { program := "ytklimoepkifnhaa", sum := "8101fc96754d2cae645a812d5bc8309640ba69bda8268df9d0a061e91f6ff886", func := "vetch/vetchlaw07.MeasureCallers", spec := "measureCallers", unfollowed := true, recurses := true, apart := false }
def MeasureCallersSaid : Prop := measureCallersRow.holds Try.pinned (OpenSpec.ofChange measureCallersSpec)

/-- ITS FALSE NEIGHBOUR: 'it returns false'. Refute it at one input. -/
def measureCallersWrong : ChangeSpec := { name := "measureCallers", fn := fun _ => fun
  | [d] => { results := [.lit (.bool false)], args := [d] }
  | _ => none }
def MeasureCallersWrongFalsely : Prop := measureCallersRow.holds Try.pinned (OpenSpec.ofChange measureCallersWrong)

/-- 'vetchlaw07.MeasureChains': WHATEVER THE INPUT: true; the input reads as it did. -/
def measureChainsSpec : ChangeSpec := { name := "measureChains", fn := fun _ => fun
  | [d1, d2] => { results := [.lit (.bool true)], args := [d1, d2] }
  | _ => none }
def measureChainsRow : OpenClaim := { program := "ytklimoepkifnhaa", sum := "8101fc96754d2cae645a812d5bc8309640ba69bda8268df9d0a061e91f6ff886", func := "vetch/vetchlaw07.MeasureChains", spec := "measureChains", unfollowed := true, recurses := true, apart := false }
def MeasureChainsSaid : Prop := measureChainsRow.holds Try.pinned (OpenSpec.ofChange measureChainsSpec)

/-- ITS FALSE NEIGHBOUR: 'it returns false'. Refute it at one input. -/
def measureChainsWrong : ChangeSpec := { name := "measureChains", fn := fun _ => fun
  | [d1, d2] => { results := [.lit (.bool false)], args := [d1, d2] }
  | _ => none }
def MeasureChainsWrongFalsely : Prop := measureChainsRow.holds Try.pinned (OpenSpec.ofChange measureChainsWrong)

/- THE SECOND FORM. 'bulk': how many values and letters a reading holds, each counted each time it is reached (what is shared counts as often as it is met; a slice's spare places count too). A statement '..UptoSaid' is the law's where the arguments, and the package variables that the reading takes, are together of bulk at most 1048576: NARROWER than '..Said'. Prove '..Said' where nothing that the law and all that it calls make is longer than what came in: it says more and counts as full. Else prove '..UptoSaid'. A law counts once. -/
mutual
def uptoBulk {H : Type} : DataW H → Nat
  | .lit (.string bytes) => bytes.length + 1
  | .lit _ => 1
  | .nil => 1
  | .ptr d => uptoBulk d + 1
  | .slice elems spare => uptoBulkAll elems + uptoBulkAll spare + 1
  | .agg parts => uptoBulkAll parts + 1
  | .iface _ d => uptoBulk d + 1
  | .map entries => uptoBulkEntries entries + 1
  | .held _ => 1
def uptoBulkAll {H : Type} : List (DataW H) → Nat
  | [] => 0
  | d :: r => uptoBulk d + uptoBulkAll r
def uptoBulkEntries {H : Type} : List (Lit × DataW H) → Nat
  | [] => 0
  | x :: r => uptoBulkEntry x + uptoBulkEntries r
def uptoBulkEntry {H : Type} : Lit × DataW H → Nat
  | (.string bytes, d) => bytes.length + uptoBulk d + 1
  | (_, d) => uptoBulk d + 1
 end
def uptoSmall : (H : Type) → List (DataW H) → Bool := fun _ ds => decide (uptoBulkAll ds ≤ 1048576)
def OpenSpec.upto (s : _root_.Go.ChangeSpec) : _root_.Go.OpenSpec := { _root_.Go.OpenSpec.ofChange s with cond := some uptoSmall }

/-- 'vetchlaw07.MeasureMatchesReference', WHERE WHAT IT READS IS OF BULK AT MOST 1048576: true; the input reads as it did. -/
def measureMatchesReferenceUptoRow : OpenClaim := { program := "ytklimoepkifnhaa", sum := "8101fc96754d2cae645a812d5bc8309640ba69bda8268df9d0a061e91f6ff886", func := "vetch/vetchlaw07.MeasureMatchesReference", spec := "measureMatchesReference", unfollowed := true, recurses := true, apart := false, narrowed := true }
def MeasureMatchesReferenceUptoSaid : Prop := measureMatchesReferenceUptoRow.holds Try.pinned (OpenSpec.upto measureMatchesReferenceSpec)

/-- 'vetchlaw07.MeasureBytes', WHERE WHAT IT READS IS OF BULK AT MOST 1048576: true; the input reads as it did. -/
def measureBytesUptoRow : OpenClaim := { program := "ytklimoepkifnhaa", sum := "8101fc96754d2cae645a812d5bc8309640ba69bda8268df9d0a061e91f6ff886", func := "vetch/vetchlaw07.MeasureBytes", spec := "measureBytes", unfollowed := true, recurses := true, apart := false, narrowed := true }
def MeasureBytesUptoSaid : Prop := measureBytesUptoRow.holds Try.pinned (OpenSpec.upto measureBytesSpec)

/-- 'vetchlaw07.MeasureReaches', WHERE WHAT IT READS IS OF BULK AT MOST 1048576: true; the input reads as it did. -/
def measureReachesUptoRow : OpenClaim := { program := "ytklimoepkifnhaa", sum := "8101fc96754d2cae645a812d5bc8309640ba69bda8268df9d0a061e91f6ff886", func := "vetch/vetchlaw07.MeasureReaches", spec := "measureReaches", unfollowed := true, recurses := true, apart := false, narrowed := true }
def MeasureReachesUptoSaid : Prop := measureReachesUptoRow.holds Try.pinned (OpenSpec.upto measureReachesSpec)

/-- 'vetchlaw07.MeasureCallers', WHERE WHAT IT READS IS OF BULK AT MOST 1048576: true; the input reads as it did. -/
def measureCallersUptoRow : OpenClaim := { program := "ytklimoepkifnhaa", sum := "8101fc96754d2cae645a812d5bc8309640ba69bda8268df9d0a061e91f6ff886", func := "vetch/vetchlaw07.MeasureCallers", spec := "measureCallers", unfollowed := true, recurses := true, apart := false, narrowed := true }
def MeasureCallersUptoSaid : Prop := measureCallersUptoRow.holds Try.pinned (OpenSpec.upto measureCallersSpec)

/-- 'vetchlaw07.MeasureChains', WHERE WHAT IT READS IS OF BULK AT MOST 1048576: true; the input reads as it did. -/
def measureChainsUptoRow : OpenClaim := { program := "ytklimoepkifnhaa", sum := "8101fc96754d2cae645a812d5bc8309640ba69bda8268df9d0a061e91f6ff886", func := "vetch/vetchlaw07.MeasureChains", spec := "measureChains", unfollowed := true, recurses := true, apart := false, narrowed := true }
def MeasureChainsUptoSaid : Prop := measureChainsUptoRow.holds Try.pinned (OpenSpec.upto measureChainsSpec)

end Rows
end Go.Proofs.Ytklimoepkifnhaa
