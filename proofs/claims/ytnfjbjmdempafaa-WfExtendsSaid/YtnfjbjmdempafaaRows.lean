/-
  No cell of these rows narrows 'for every input' (looked for: loops, veiled, ifaces, maps, wideKeys, modest, calm, conditions, laid).
  DERIVED. THE GIVEN ROWS OF THIS SEAT. 4 by the template 'for every input the law returns true; each argument reads behind the call as it read before'; 0 by the template 'total and deterministic' (their statements: YtnfjbjmdempafaaTotals.lean).
  GIVEN WITH THE SEED: the statements are not yours to turn. If you find one false, say at which input.
  Laid BY PROGRAM, IN A SANDBOX (cutbox-rows.mjs): the forced cells as the released guide's own fill.sh prints them over the translation 3aa431c74048bbb5… (all of the seat's roots in one cut). By AI agents, Wed Nov 11 2026. No macro, syntax, notation, axiom, sorry.
-/
import Derived.Test.YtnfjbjmdempafaaChecked
import GoSem.Claim
import GoSem.ClaimJoined
import GoSem.ClaimMapViews
import Derived.JoinedTies
import Derived.KernelRfl
namespace Go.Proofs.Ytnfjbjmdempafaa
/- THE CELL 'sum', in the pinned program and in every row, IS THE sha256 OF THE DUMP (.gsa) THAT YtnfjbjmdempafaaProg.lean LOADS. Nothing in Lean hashes anything: it is a label: what it is worth is what the hold of that sum in a sandbox is worth. -/
noncomputable def Try.pinned : Pinned := { name := "ytnfjbjmdempafaa", sum := "3aa431c74048bbb5940b1bab727413e332ba5c87523888eb9702a2fb9bf6731d", checked := Try.checked }
namespace Rows
def none {H : Type} : Left H := { results := [], args := [] }

/-- 'vetchlaw12.WfLoops': WHATEVER THE INPUT: true; the input reads as it did. -/
def wfLoopsSpec : ChangeSpec := { name := "wfLoops", fn := fun _ => fun
  | [d] => { results := [.lit (.bool true)], args := [d] }
  | _ => none }
def wfLoopsRow : OpenClaim := { program := "ytnfjbjmdempafaa", sum := "3aa431c74048bbb5940b1bab727413e332ba5c87523888eb9702a2fb9bf6731d", func := "vetch/vetchlaw12.WfLoops", spec := "wfLoops", unfollowed := true, recurses := true, apart := false }
def WfLoopsSaid : Prop := wfLoopsRow.holds Try.pinned (OpenSpec.ofChange wfLoopsSpec)

/-- ITS FALSE NEIGHBOUR: 'it returns false'. Refute it at one input. -/
def wfLoopsWrong : ChangeSpec := { name := "wfLoops", fn := fun _ => fun
  | [d] => { results := [.lit (.bool false)], args := [d] }
  | _ => none }
def WfLoopsWrongFalsely : Prop := wfLoopsRow.holds Try.pinned (OpenSpec.ofChange wfLoopsWrong)

/-- 'vetchlaw12.WfNeeds': WHATEVER THE INPUT: true; the input reads as it did. -/
def wfNeedsSpec : ChangeSpec := { name := "wfNeeds", fn := fun _ => fun
  | [d1, d2] => { results := [.lit (.bool true)], args := [d1, d2] }
  | _ => none }
def wfNeedsRow : OpenClaim := { program := "ytnfjbjmdempafaa", sum := "3aa431c74048bbb5940b1bab727413e332ba5c87523888eb9702a2fb9bf6731d", func := "vetch/vetchlaw12.WfNeeds", spec := "wfNeeds", unfollowed := true, recurses := true, apart := false }
def WfNeedsSaid : Prop := wfNeedsRow.holds Try.pinned (OpenSpec.ofChange wfNeedsSpec)

/-- ITS FALSE NEIGHBOUR: 'it returns false'. Refute it at one input. -/
def wfNeedsWrong : ChangeSpec := { name := "wfNeeds", fn := fun _ => fun
  | [d1, d2] => { results := [.lit (.bool false)], args := [d1, d2] }
  | _ => none }
def WfNeedsWrongFalsely : Prop := wfNeedsRow.holds Try.pinned (OpenSpec.ofChange wfNeedsWrong)

/-- 'vetchlaw12.WfPaths': WHATEVER THE INPUT: true; the input reads as it did. -/
def wfPathsSpec : ChangeSpec := { name := "wfPaths", fn := fun _ => fun
  | [d1, d2] => { results := [.lit (.bool true)], args := [d1, d2] }
  | _ => none }
def wfPathsRow : OpenClaim := { program := "ytnfjbjmdempafaa", sum := "3aa431c74048bbb5940b1bab727413e332ba5c87523888eb9702a2fb9bf6731d", func := "vetch/vetchlaw12.WfPaths", spec := "wfPaths", unfollowed := true, recurses := true, apart := false }
def WfPathsSaid : Prop := wfPathsRow.holds Try.pinned (OpenSpec.ofChange wfPathsSpec)

/-- ITS FALSE NEIGHBOUR: 'it returns false'. Refute it at one input. -/
def wfPathsWrong : ChangeSpec := { name := "wfPaths", fn := fun _ => fun
  | [d1, d2] => { results := [.lit (.bool false)], args := [d1, d2] }
  | _ => none }
def WfPathsWrongFalsely : Prop := wfPathsRow.holds Try.pinned (OpenSpec.ofChange wfPathsWrong)

/-- 'vetchlaw12.WfExtends': WHATEVER THE INPUT: true; the input reads as it did. -/
def wfExtendsSpec : ChangeSpec := { name := "wfExtends", fn := fun _ => fun
  | [d1, d2, d3] => { results := [.lit (.bool true)], args := [d1, d2, d3] }
  | _ => none }
def wfExtendsRow : OpenClaim := { program := "ytnfjbjmdempafaa", sum := "3aa431c74048bbb5940b1bab727413e332ba5c87523888eb9702a2fb9bf6731d", func := "vetch/vetchlaw12.WfExtends", spec := "wfExtends", unfollowed := true, recurses := true, apart := false }
def WfExtendsSaid : Prop := wfExtendsRow.holds Try.pinned (OpenSpec.ofChange wfExtendsSpec)

/-- ITS FALSE NEIGHBOUR: 'it returns false'. Refute it at one input. -/
def wfExtendsWrong : ChangeSpec := { name := "wfExtends", fn := fun _ => fun
  | [d1, d2, d3] => { results := [.lit (.bool false)], args := [d1, d2, d3] }
  | _ => none }
def WfExtendsWrongFalsely : Prop := wfExtendsRow.holds Try.pinned (OpenSpec.ofChange wfExtendsWrong)

/- THE SECOND FORM. 'bulk': how many values and letters a reading holds, each counted each time it is reached (what is shared counts as often as it is met; a slice's spare places count too). A statement '..UptoSaid' is the law's where the arguments, and the package variables that the reading takes, are together of bulk at most 1048576: NARROWER than '..Said'. Prove '..Said' where nothing that the law and all that it calls make is longer than what came in: it says more and counts as full. Else prove '..UptoSaid'. A law counts once. -/
mutual
def uptoBulk {H : Type} : DataW H → Nat
  | .lit (.string bytes) => bytes.length + 1
  | .lit _ => 1
  | .nil => 1
  | .ptr d => uptoBulk d + 1
  | .slice elems spare => uptoBulkAll elems + uptoBulkAll spare + 1
  | .agg parts => uptoBulkAll parts + 1
  | .iface _ d => uptoBulk d + 1
  | .map entries => uptoBulkEntries entries + 1
  | .held _ => 1
def uptoBulkAll {H : Type} : List (DataW H) → Nat
  | [] => 0
  | d :: r => uptoBulk d + uptoBulkAll r
def uptoBulkEntries {H : Type} : List (Lit × DataW H) → Nat
  | [] => 0
  | x :: r => uptoBulkEntry x + uptoBulkEntries r
def uptoBulkEntry {H : Type} : Lit × DataW H → Nat
  | (.string bytes, d) => bytes.length + uptoBulk d + 1
  | (_, d) => uptoBulk d + 1
 end
def uptoSmall : (H : Type) → List (DataW H) → Bool := fun _ ds => decide (uptoBulkAll ds ≤ 1048576)
def OpenSpec.upto (s : _root_.Go.ChangeSpec) : _root_.Go.OpenSpec := { _root_.Go.OpenSpec.ofChange s with cond := some uptoSmall }

/-- 'vetchlaw12.WfLoops', WHERE WHAT IT READS IS OF BULK AT MOST 1048576: true; the input reads as it did. -/
def wfLoopsUptoRow : OpenClaim := { program := "ytnfjbjmdempafaa", sum := "3aa431c74048bbb5940b1bab727413e332ba5c87523888eb9702a2fb9bf6731d", func := "vetch/vetchlaw12.WfLoops", spec := "wfLoops", unfollowed := true, recurses := true, apart := false, narrowed := true }
def WfLoopsUptoSaid : Prop := wfLoopsUptoRow.holds Try.pinned (OpenSpec.upto wfLoopsSpec)

/-- 'vetchlaw12.WfNeeds', WHERE WHAT IT READS IS OF BULK AT MOST 1048576: true; the input reads as it did. -/
def wfNeedsUptoRow : OpenClaim := { program := "ytnfjbjmdempafaa", sum := "3aa431c74048bbb5940b1bab727413e332ba5c87523888eb9702a2fb9bf6731d", func := "vetch/vetchlaw12.WfNeeds", spec := "wfNeeds", unfollowed := true, recurses := true, apart := false, narrowed := true }
def WfNeedsUptoSaid : Prop := wfNeedsUptoRow.holds Try.pinned (OpenSpec.upto wfNeedsSpec)

/-- 'vetchlaw12.WfPaths', WHERE WHAT IT READS IS OF BULK AT MOST 1048576: true; the input reads as it did. -/
def wfPathsUptoRow : OpenClaim := { program := "ytnfjbjmdempafaa", sum := "3aa431c74048bbb5940b1bab727413e332ba5c87523888eb9702a2fb9bf6731d", func := "vetch/vetchlaw12.WfPaths", spec := "wfPaths", unfollowed := true, recurses := true, apart := false, narrowed := true }
def WfPathsUptoSaid : Prop := wfPathsUptoRow.holds Try.pinned (OpenSpec.upto wfPathsSpec)

/-- 'vetchlaw12.WfExtends', WHERE WHAT IT READS IS OF BULK AT MOST 1048576: true; the input reads as it did. -/
def wfExtendsUptoRow : OpenClaim := { program := "ytnfjbjmdempafaa", sum := "3aa431c74048bbb5940b1bab727413e332ba5c87523888eb9702a2fb9bf6731d", func := "vetch/vetchlaw12.WfExtends", spec := "wfExtends", unfollowed := true, recurses := true, apart := false, narrowed := true }
def WfExtendsUptoSaid : Prop := wfExtendsUptoRow.holds Try.pinned (OpenSpec.upto wfExtendsSpec)

end Rows
end Go.Proofs.Ytnfjbjmdempafaa
