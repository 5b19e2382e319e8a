/-
  No cell of these rows narrows 'for every input' (looked for: loops, veiled, ifaces, maps, wideKeys, modest, calm, conditions, laid).
  DERIVED. THE GIVEN ROWS OF THIS SEAT. 5 by the template 'for every input the law returns true; each argument reads behind the call as it read before'; 0 by the template 'total and deterministic' (their statements: YtnebdnonkefloaaTotals.lean).
  GIVEN WITH THE SEED: the statements are not yours to turn. If you find one false, say at which input.
  Laid BY PROGRAM, IN A SANDBOX (cutbox-rows.mjs): the forced cells as the released guide's own fill.sh prints them over the translation a62ae7afabcb9e49… (all of the seat's roots in one cut). By AI agents, Wed Nov 11 2026. No macro, syntax, notation, axiom, sorry.
-/
import Derived.Test.YtnebdnonkefloaaChecked
import GoSem.Claim
import GoSem.ClaimJoined
import GoSem.ClaimMapViews
import Derived.JoinedTies
import Derived.KernelRfl
namespace Go.Proofs.Ytnebdnonkefloaa
/- THE CELL 'sum', in the pinned program and in every row, IS THE sha256 OF THE DUMP (.gsa) THAT YtnebdnonkefloaaProg.lean LOADS. Nothing in Lean hashes anything: it is a label: what it is worth is what the hold of that sum in a sandbox is worth. -/
noncomputable def Try.pinned : Pinned := { name := "ytnebdnonkefloaa", sum := "a62ae7afabcb9e49e6590dfa472cd33d6b7a3d0d0bc76034f41417aeea5d3b01", checked := Try.checked }
namespace Rows
def none {H : Type} : Left H := { results := [], args := [] }

/-- 'vetchlaw06.BuildOf': WHATEVER THE INPUT: true; the input reads as it did. -/
def buildOfSpec : ChangeSpec := { name := "buildOf", fn := fun _ => fun
  | [d] => { results := [.lit (.bool true)], args := [d] }
  | _ => none }
def buildOfRow : OpenClaim := { program := "ytnebdnonkefloaa", sum := "a62ae7afabcb9e49e6590dfa472cd33d6b7a3d0d0bc76034f41417aeea5d3b01", func := "vetch/vetchlaw06.BuildOf", spec := "buildOf", unfollowed := true, recurses := true, apart := false }
def BuildOfSaid : Prop := buildOfRow.holds Try.pinned (OpenSpec.ofChange buildOfSpec)

/-- ITS FALSE NEIGHBOUR: 'it returns false'. Refute it at one input. -/
def buildOfWrong : ChangeSpec := { name := "buildOf", fn := fun _ => fun
  | [d] => { results := [.lit (.bool false)], args := [d] }
  | _ => none }
def BuildOfWrongFalsely : Prop := buildOfRow.holds Try.pinned (OpenSpec.ofChange buildOfWrong)

/-- 'vetchlaw06.BuildInverse': WHATEVER THE INPUT: true; the input reads as it did. -/
def buildInverseSpec : ChangeSpec := { name := "buildInverse", fn := fun _ => fun
  | [d] => { results := [.lit (.bool true)], args := [d] }
  | _ => none }
def buildInverseRow : OpenClaim := { program := "ytnebdnonkefloaa", sum := "a62ae7afabcb9e49e6590dfa472cd33d6b7a3d0d0bc76034f41417aeea5d3b01", func := "vetch/vetchlaw06.BuildInverse", spec := "buildInverse", unfollowed := true, recurses := true, apart := false }
def BuildInverseSaid : Prop := buildInverseRow.holds Try.pinned (OpenSpec.ofChange buildInverseSpec)

/-- ITS FALSE NEIGHBOUR: 'it returns false'. Refute it at one input. -/
def buildInverseWrong : ChangeSpec := { name := "buildInverse", fn := fun _ => fun
  | [d] => { results := [.lit (.bool false)], args := [d] }
  | _ => none }
def BuildInverseWrongFalsely : Prop := buildInverseRow.holds Try.pinned (OpenSpec.ofChange buildInverseWrong)

/-- 'vetchlaw06.BuildAgain': WHATEVER THE INPUT: true; the input reads as it did. -/
def buildAgainSpec : ChangeSpec := { name := "buildAgain", fn := fun _ => fun
  | [d] => { results := [.lit (.bool true)], args := [d] }
  | _ => none }
def buildAgainRow : OpenClaim := { program := "ytnebdnonkefloaa", sum := "a62ae7afabcb9e49e6590dfa472cd33d6b7a3d0d0bc76034f41417aeea5d3b01", func := "vetch/vetchlaw06.BuildAgain", spec := "buildAgain", unfollowed := true, recurses := true, apart := false }
def BuildAgainSaid : Prop := buildAgainRow.holds Try.pinned (OpenSpec.ofChange buildAgainSpec)

/-- ITS FALSE NEIGHBOUR: 'it returns false'. Refute it at one input. -/
def buildAgainWrong : ChangeSpec := { name := "buildAgain", fn := fun _ => fun
  | [d] => { results := [.lit (.bool false)], args := [d] }
  | _ => none }
def BuildAgainWrongFalsely : Prop := buildAgainRow.holds Try.pinned (OpenSpec.ofChange buildAgainWrong)

/-- 'vetchlaw06.BuildAppends': WHATEVER THE INPUT: true; the input reads as it did. -/
def buildAppendsSpec : ChangeSpec := { name := "buildAppends", fn := fun _ => fun
  | [d1, d2, d3] => { results := [.lit (.bool true)], args := [d1, d2, d3] }
  | _ => none }
def buildAppendsRow : OpenClaim := { program := "ytnebdnonkefloaa", sum := "a62ae7afabcb9e49e6590dfa472cd33d6b7a3d0d0bc76034f41417aeea5d3b01", func := "vetch/vetchlaw06.BuildAppends", spec := "buildAppends", unfollowed := true, recurses := true, apart := false }
def BuildAppendsSaid : Prop := buildAppendsRow.holds Try.pinned (OpenSpec.ofChange buildAppendsSpec)

/-- ITS FALSE NEIGHBOUR: 'it returns false'. Refute it at one input. -/
def buildAppendsWrong : ChangeSpec := { name := "buildAppends", fn := fun _ => fun
  | [d1, d2, d3] => { results := [.lit (.bool false)], args := [d1, d2, d3] }
  | _ => none }
def BuildAppendsWrongFalsely : Prop := buildAppendsRow.holds Try.pinned (OpenSpec.ofChange buildAppendsWrong)

/-- 'vetchlaw06.BuildLiterals': WHATEVER THE INPUT: true; the input reads as it did. -/
def buildLiteralsSpec : ChangeSpec := { name := "buildLiterals", fn := fun _ => fun
  | [d] => { results := [.lit (.bool true)], args := [d] }
  | _ => none }
def buildLiteralsRow : OpenClaim := { program := "ytnebdnonkefloaa", sum := "a62ae7afabcb9e49e6590dfa472cd33d6b7a3d0d0bc76034f41417aeea5d3b01", func := "vetch/vetchlaw06.BuildLiterals", spec := "buildLiterals", unfollowed := true, recurses := true, apart := false }
def BuildLiteralsSaid : Prop := buildLiteralsRow.holds Try.pinned (OpenSpec.ofChange buildLiteralsSpec)

/-- ITS FALSE NEIGHBOUR: 'it returns false'. Refute it at one input. -/
def buildLiteralsWrong : ChangeSpec := { name := "buildLiterals", fn := fun _ => fun
  | [d] => { results := [.lit (.bool false)], args := [d] }
  | _ => none }
def BuildLiteralsWrongFalsely : Prop := buildLiteralsRow.holds Try.pinned (OpenSpec.ofChange buildLiteralsWrong)

/- THE SECOND FORM. 'bulk': how many values and letters a reading holds, each counted each time it is reached (what is shared counts as often as it is met; a slice's spare places count too). A statement '..UptoSaid' is the law's where the arguments, and the package variables that the reading takes, are together of bulk at most 1048576: NARROWER than '..Said'. Prove '..Said' where nothing that the law and all that it calls make is longer than what came in: it says more and counts as full. Else prove '..UptoSaid'. A law counts once. -/
mutual
def uptoBulk {H : Type} : DataW H → Nat
  | .lit (.string bytes) => bytes.length + 1
  | .lit _ => 1
  | .nil => 1
  | .ptr d => uptoBulk d + 1
  | .slice elems spare => uptoBulkAll elems + uptoBulkAll spare + 1
  | .agg parts => uptoBulkAll parts + 1
  | .iface _ d => uptoBulk d + 1
  | .map entries => uptoBulkEntries entries + 1
  | .held _ => 1
def uptoBulkAll {H : Type} : List (DataW H) → Nat
  | [] => 0
  | d :: r => uptoBulk d + uptoBulkAll r
def uptoBulkEntries {H : Type} : List (Lit × DataW H) → Nat
  | [] => 0
  | x :: r => uptoBulkEntry x + uptoBulkEntries r
def uptoBulkEntry {H : Type} : Lit × DataW H → Nat
  | (.string bytes, d) => bytes.length + uptoBulk d + 1
  | (_, d) => uptoBulk d + 1
 end
def uptoSmall : (H : Type) → List (DataW H) → Bool := fun _ ds => decide (uptoBulkAll ds ≤ 1048576)
def OpenSpec.upto (s : _root_.Go.ChangeSpec) : _root_.Go.OpenSpec := { _root_.Go.OpenSpec.ofChange s with cond := some uptoSmall }

/-- 'vetchlaw06.BuildOf', WHERE WHAT IT READS IS OF BULK AT MOST 1048576: true; the input reads as it did. -/
def buildOfUptoRow : OpenClaim := { program := "ytnebdnonkefloaa", sum := "a62ae7afabcb9e49e6590dfa472cd33d6b7a3d0d0bc76034f41417aeea5d3b01", func := "vetch/vetchlaw06.BuildOf", spec := "buildOf", unfollowed := true, recurses := true, apart := false, narrowed := true }
def BuildOfUptoSaid : Prop := buildOfUptoRow.holds Try.pinned (OpenSpec.upto buildOfSpec)

/-- 'vetchlaw06.BuildInverse', WHERE WHAT IT READS IS OF BULK AT MOST 1048576: true; the input reads as it did. -/
def buildInverseUptoRow : OpenClaim := { program := "ytnebdnonkefloaa", sum := "a62ae7afabcb9e49e6590dfa472cd33d6b7a3d0d0bc76034f41417aeea5d3b01", func := "vetch/vetchlaw06.BuildInverse", spec := "buildInverse", unfollowed := true, recurses := true, apart := false, narrowed := true }
def BuildInverseUptoSaid : Prop := buildInverseUptoRow.holds Try.pinned (OpenSpec.upto buildInverseSpec)

/-- 'vetchlaw06.BuildAgain', WHERE WHAT IT READS IS OF BULK AT MOST 1048576: true; the input reads as it did. -/
def buildAgainUptoRow : OpenClaim := { program := "ytnebdnonkefloaa", sum := "a62ae7afabcb9e49e6590dfa472cd33d6b7a3d0d0bc76034f41417aeea5d3b01", func := "vetch/vetchlaw06.BuildAgain", spec := "buildAgain", unfollowed := true, recurses := true, apart := false, narrowed := true }
def BuildAgainUptoSaid : Prop := buildAgainUptoRow.holds Try.pinned (OpenSpec.upto buildAgainSpec)

/-- 'vetchlaw06.BuildAppends', WHERE WHAT IT READS IS OF BULK AT MOST 1048576: true; the input reads as it did. -/
def buildAppendsUptoRow : OpenClaim := { program := "ytnebdnonkefloaa", sum := "a62ae7afabcb9e49e6590dfa472cd33d6b7a3d0d0bc76034f41417aeea5d3b01", func := "vetch/vetchlaw06.BuildAppends", spec := "buildAppends", unfollowed := true, recurses := true, apart := false, narrowed := true }
def BuildAppendsUptoSaid : Prop := buildAppendsUptoRow.holds Try.pinned (OpenSpec.upto buildAppendsSpec)

/-- 'vetchlaw06.BuildLiterals', WHERE WHAT IT READS IS OF BULK AT MOST 1048576: true; the input reads as it did. -/
def buildLiteralsUptoRow : OpenClaim := { program := "ytnebdnonkefloaa", sum := "a62ae7afabcb9e49e6590dfa472cd33d6b7a3d0d0bc76034f41417aeea5d3b01", func := "vetch/vetchlaw06.BuildLiterals", spec := "buildLiterals", unfollowed := true, recurses := true, apart := false, narrowed := true }
def BuildLiteralsUptoSaid : Prop := buildLiteralsUptoRow.holds Try.pinned (OpenSpec.upto buildLiteralsSpec)

end Rows
end Go.Proofs.Ytnebdnonkefloaa
