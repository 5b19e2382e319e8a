/-
  No cell of these rows narrows 'for every input' (looked for: loops, veiled, ifaces, maps, wideKeys, modest, calm, conditions, laid).
  DERIVED. THE GIVEN ROWS OF THIS SEAT. 5 by the template 'for every input the law returns true; each argument reads behind the call as it read before'; 0 by the template 'total and deterministic' (their statements: YtlcaclemogamdaaTotals.lean).
  GIVEN WITH THE SEED: the statements are not yours to turn. If you find one false, say at which input.
  Laid BY PROGRAM, IN A SANDBOX (cutbox-rows.mjs): the forced cells as the released guide's own fill.sh prints them over the translation b86a4121102507f0… (all of the seat's roots in one cut). By AI agents, Wed Nov 11 2026. No macro, syntax, notation, axiom, sorry.
-/
import Derived.Test.YtlcaclemogamdaaChecked
import GoSem.Claim
import GoSem.ClaimJoined
import GoSem.ClaimMapViews
import Derived.JoinedTies
import Derived.KernelRfl
namespace Go.Proofs.Ytlcaclemogamdaa
/- THE CELL 'sum', in the pinned program and in every row, IS THE sha256 OF THE DUMP (.gsa) THAT YtlcaclemogamdaaProg.lean LOADS. Nothing in Lean hashes anything: it is a label: what it is worth is what the hold of that sum in a sandbox is worth. -/
noncomputable def Try.pinned : Pinned := { name := "ytlcaclemogamdaa", sum := "b86a4121102507f02c013c4c144cff8274ffee2c7b0bc6119444374f6e4fb740", checked := Try.checked }
namespace Rows
def none {H : Type} : Left H := { results := [], args := [] }

/-- 'vetchlaw03.EscapeReads': WHATEVER THE INPUT: true; the input reads as it did. -/
def escapeReadsSpec : ChangeSpec := { name := "escapeReads", fn := fun _ => fun
  | [d1, d2] => { results := [.lit (.bool true)], args := [d1, d2] }
  | _ => none }
def escapeReadsRow : OpenClaim := { program := "ytlcaclemogamdaa", sum := "b86a4121102507f02c013c4c144cff8274ffee2c7b0bc6119444374f6e4fb740", func := "vetch/vetchlaw03.EscapeReads", spec := "escapeReads", inPlace := ["internal/abi.NoEscape"], apart := false }
def EscapeReadsSaid : Prop := escapeReadsRow.holds Try.pinned (OpenSpec.ofChange escapeReadsSpec)

/-- ITS FALSE NEIGHBOUR: 'it returns false'. Refute it at one input. -/
def escapeReadsWrong : ChangeSpec := { name := "escapeReads", fn := fun _ => fun
  | [d1, d2] => { results := [.lit (.bool false)], args := [d1, d2] }
  | _ => none }
def EscapeReadsWrongFalsely : Prop := escapeReadsRow.holds Try.pinned (OpenSpec.ofChange escapeReadsWrong)

/-- 'vetchlaw03.EscapeInverse': WHATEVER THE INPUT: true; the input reads as it did. -/
def escapeInverseSpec : ChangeSpec := { name := "escapeInverse", fn := fun _ => fun
  | [d1, d2, d3] => { results := [.lit (.bool true)], args := [d1, d2, d3] }
  | _ => none }
def escapeInverseRow : OpenClaim := { program := "ytlcaclemogamdaa", sum := "b86a4121102507f02c013c4c144cff8274ffee2c7b0bc6119444374f6e4fb740", func := "vetch/vetchlaw03.EscapeInverse", spec := "escapeInverse", inPlace := ["internal/abi.NoEscape"], apart := false }
def EscapeInverseSaid : Prop := escapeInverseRow.holds Try.pinned (OpenSpec.ofChange escapeInverseSpec)

/-- ITS FALSE NEIGHBOUR: 'it returns false'. Refute it at one input. -/
def escapeInverseWrong : ChangeSpec := { name := "escapeInverse", fn := fun _ => fun
  | [d1, d2, d3] => { results := [.lit (.bool false)], args := [d1, d2, d3] }
  | _ => none }
def EscapeInverseWrongFalsely : Prop := escapeInverseRow.holds Try.pinned (OpenSpec.ofChange escapeInverseWrong)

/-- 'vetchlaw03.EscapeLiterals': WHATEVER THE INPUT: true; the input reads as it did. -/
def escapeLiteralsSpec : ChangeSpec := { name := "escapeLiterals", fn := fun _ => fun
  | [d] => { results := [.lit (.bool true)], args := [d] }
  | _ => none }
def escapeLiteralsRow : OpenClaim := { program := "ytlcaclemogamdaa", sum := "b86a4121102507f02c013c4c144cff8274ffee2c7b0bc6119444374f6e4fb740", func := "vetch/vetchlaw03.EscapeLiterals", spec := "escapeLiterals", inPlace := ["internal/abi.NoEscape"], apart := false }
def EscapeLiteralsSaid : Prop := escapeLiteralsRow.holds Try.pinned (OpenSpec.ofChange escapeLiteralsSpec)

/-- ITS FALSE NEIGHBOUR: 'it returns false'. Refute it at one input. -/
def escapeLiteralsWrong : ChangeSpec := { name := "escapeLiterals", fn := fun _ => fun
  | [d] => { results := [.lit (.bool false)], args := [d] }
  | _ => none }
def EscapeLiteralsWrongFalsely : Prop := escapeLiteralsRow.holds Try.pinned (OpenSpec.ofChange escapeLiteralsWrong)

/-- 'vetchlaw03.EscapeUnquotes': WHATEVER THE INPUT: true; the input reads as it did. -/
def escapeUnquotesSpec : ChangeSpec := { name := "escapeUnquotes", fn := fun _ => fun
  | [d] => { results := [.lit (.bool true)], args := [d] }
  | _ => none }
def escapeUnquotesRow : OpenClaim := { program := "ytlcaclemogamdaa", sum := "b86a4121102507f02c013c4c144cff8274ffee2c7b0bc6119444374f6e4fb740", func := "vetch/vetchlaw03.EscapeUnquotes", spec := "escapeUnquotes", inPlace := ["internal/abi.NoEscape"], apart := false }
def EscapeUnquotesSaid : Prop := escapeUnquotesRow.holds Try.pinned (OpenSpec.ofChange escapeUnquotesSpec)

/-- ITS FALSE NEIGHBOUR: 'it returns false'. Refute it at one input. -/
def escapeUnquotesWrong : ChangeSpec := { name := "escapeUnquotes", fn := fun _ => fun
  | [d] => { results := [.lit (.bool false)], args := [d] }
  | _ => none }
def EscapeUnquotesWrongFalsely : Prop := escapeUnquotesRow.holds Try.pinned (OpenSpec.ofChange escapeUnquotesWrong)

/-- 'vetchlaw03.EscapePlain': WHATEVER THE INPUT: true; the input reads as it did. -/
def escapePlainSpec : ChangeSpec := { name := "escapePlain", fn := fun _ => fun
  | [d1, d2] => { results := [.lit (.bool true)], args := [d1, d2] }
  | _ => none }
def escapePlainRow : OpenClaim := { program := "ytlcaclemogamdaa", sum := "b86a4121102507f02c013c4c144cff8274ffee2c7b0bc6119444374f6e4fb740", func := "vetch/vetchlaw03.EscapePlain", spec := "escapePlain", inPlace := ["internal/abi.NoEscape"], apart := false }
def EscapePlainSaid : Prop := escapePlainRow.holds Try.pinned (OpenSpec.ofChange escapePlainSpec)

/-- ITS FALSE NEIGHBOUR: 'it returns false'. Refute it at one input. -/
def escapePlainWrong : ChangeSpec := { name := "escapePlain", fn := fun _ => fun
  | [d1, d2] => { results := [.lit (.bool false)], args := [d1, d2] }
  | _ => none }
def EscapePlainWrongFalsely : Prop := escapePlainRow.holds Try.pinned (OpenSpec.ofChange escapePlainWrong)

/- THE SECOND FORM. 'bulk': how many values and letters a reading holds, each counted each time it is reached (what is shared counts as often as it is met; a slice's spare places count too). A statement '..UptoSaid' is the law's where the arguments, and the package variables that the reading takes, are together of bulk at most 1048576: NARROWER than '..Said'. Prove '..Said' where nothing that the law and all that it calls make is longer than what came in: it says more and counts as full. Else prove '..UptoSaid'. A law counts once. -/
mutual
def uptoBulk {H : Type} : DataW H → Nat
  | .lit (.string bytes) => bytes.length + 1
  | .lit _ => 1
  | .nil => 1
  | .ptr d => uptoBulk d + 1
  | .slice elems spare => uptoBulkAll elems + uptoBulkAll spare + 1
  | .agg parts => uptoBulkAll parts + 1
  | .iface _ d => uptoBulk d + 1
  | .map entries => uptoBulkEntries entries + 1
  | .held _ => 1
def uptoBulkAll {H : Type} : List (DataW H) → Nat
  | [] => 0
  | d :: r => uptoBulk d + uptoBulkAll r
def uptoBulkEntries {H : Type} : List (Lit × DataW H) → Nat
  | [] => 0
  | x :: r => uptoBulkEntry x + uptoBulkEntries r
def uptoBulkEntry {H : Type} : Lit × DataW H → Nat
  | (.string bytes, d) => bytes.length + uptoBulk d + 1
  | (_, d) => uptoBulk d + 1
 end
def uptoSmall : (H : Type) → List (DataW H) → Bool := fun _ ds => decide (uptoBulkAll ds ≤ 1048576)
def OpenSpec.upto (s : _root_.Go.ChangeSpec) : _root_.Go.OpenSpec := { _root_.Go.OpenSpec.ofChange s with cond := some uptoSmall }

/-- 'vetchlaw03.EscapeReads', WHERE WHAT IT READS IS OF BULK AT MOST 1048576: true; the input reads as it did. -/
def escapeReadsUptoRow : OpenClaim := { program := "ytlcaclemogamdaa", sum := "b86a4121102507f02c013c4c144cff8274ffee2c7b0bc6119444374f6e4fb740", func := "vetch/vetchlaw03.EscapeReads", spec := "escapeReads", inPlace := ["internal/abi.NoEscape"], apart := false, narrowed := true }
def EscapeReadsUptoSaid : Prop := escapeReadsUptoRow.holds Try.pinned (OpenSpec.upto escapeReadsSpec)

/-- 'vetchlaw03.EscapeInverse', WHERE WHAT IT READS IS OF BULK AT MOST 1048576: true; the input reads as it did. -/
def escapeInverseUptoRow : OpenClaim := { program := "ytlcaclemogamdaa", sum := "b86a4121102507f02c013c4c144cff8274ffee2c7b0bc6119444374f6e4fb740", func := "vetch/vetchlaw03.EscapeInverse", spec := "escapeInverse", inPlace := ["internal/abi.NoEscape"], apart := false, narrowed := true }
def EscapeInverseUptoSaid : Prop := escapeInverseUptoRow.holds Try.pinned (OpenSpec.upto escapeInverseSpec)

/-- 'vetchlaw03.EscapeLiterals', WHERE WHAT IT READS IS OF BULK AT MOST 1048576: true; the input reads as it did. -/
def escapeLiteralsUptoRow : OpenClaim := { program := "ytlcaclemogamdaa", sum := "b86a4121102507f02c013c4c144cff8274ffee2c7b0bc6119444374f6e4fb740", func := "vetch/vetchlaw03.EscapeLiterals", spec := "escapeLiterals", inPlace := ["internal/abi.NoEscape"], apart := false, narrowed := true }
def EscapeLiteralsUptoSaid : Prop := escapeLiteralsUptoRow.holds Try.pinned (OpenSpec.upto escapeLiteralsSpec)

/-- 'vetchlaw03.EscapeUnquotes', WHERE WHAT IT READS IS OF BULK AT MOST 1048576: true; the input reads as it did. -/
def escapeUnquotesUptoRow : OpenClaim := { program := "ytlcaclemogamdaa", sum := "b86a4121102507f02c013c4c144cff8274ffee2c7b0bc6119444374f6e4fb740", func := "vetch/vetchlaw03.EscapeUnquotes", spec := "escapeUnquotes", inPlace := ["internal/abi.NoEscape"], apart := false, narrowed := true }
def EscapeUnquotesUptoSaid : Prop := escapeUnquotesUptoRow.holds Try.pinned (OpenSpec.upto escapeUnquotesSpec)

/-- 'vetchlaw03.EscapePlain', WHERE WHAT IT READS IS OF BULK AT MOST 1048576: true; the input reads as it did. -/
def escapePlainUptoRow : OpenClaim := { program := "ytlcaclemogamdaa", sum := "b86a4121102507f02c013c4c144cff8274ffee2c7b0bc6119444374f6e4fb740", func := "vetch/vetchlaw03.EscapePlain", spec := "escapePlain", inPlace := ["internal/abi.NoEscape"], apart := false, narrowed := true }
def EscapePlainUptoSaid : Prop := escapePlainUptoRow.holds Try.pinned (OpenSpec.upto escapePlainSpec)

end Rows
end Go.Proofs.Ytlcaclemogamdaa
