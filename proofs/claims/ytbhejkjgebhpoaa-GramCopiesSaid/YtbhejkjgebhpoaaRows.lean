/-
  No cell of these rows narrows 'for every input' (looked for: loops, veiled, ifaces, maps, wideKeys, modest, calm, conditions, laid).
  DERIVED. THE GIVEN ROWS OF THIS SEAT. 3 by the template 'for every input the law returns true; each argument reads behind the call as it read before'; 0 by the template 'total and deterministic' (their statements: YtbhejkjgebhpoaaTotals.lean).
  GIVEN WITH THE SEED: the statements are not yours to turn. If you find one false, say at which input.
  Laid BY PROGRAM, IN A SANDBOX (cutbox-rows.mjs): the forced cells as the released guide's own fill.sh prints them over the translation 6a685f00b3272364… (all of the seat's roots in one cut). By AI agents, Wed Nov 11 2026. No macro, syntax, notation, axiom, sorry.
-/
import Derived.Test.YtbhejkjgebhpoaaChecked
import GoSem.Claim
import GoSem.ClaimJoined
import GoSem.ClaimMapViews
import Derived.JoinedTies
import Derived.KernelRfl
namespace Go.Proofs.Ytbhejkjgebhpoaa
/- THE CELL 'sum', in the pinned program and in every row, IS THE sha256 OF THE DUMP (.gsa) THAT YtbhejkjgebhpoaaProg.lean LOADS. Nothing in Lean hashes anything: it is a label: what it is worth is what the hold of that sum in a sandbox is worth. -/
noncomputable def Try.pinned : Pinned := { name := "ytbhejkjgebhpoaa", sum := "6a685f00b32723648402a5b0ae28d56e204dd89dc8660988e99de748e5eaf503", checked := Try.checked }
namespace Rows
def none {H : Type} : Left H := { results := [], args := [] }

/-- 'vetchlaw05.GramMeasures': WHATEVER THE INPUT: true; the input reads as it did. -/
def gramMeasuresSpec : ChangeSpec := { name := "gramMeasures", fn := fun _ => fun
  | [d] => { results := [.lit (.bool true)], args := [d] }
  | _ => none }
def gramMeasuresRow : OpenClaim := { program := "ytbhejkjgebhpoaa", sum := "6a685f00b32723648402a5b0ae28d56e204dd89dc8660988e99de748e5eaf503", func := "vetch/vetchlaw05.GramMeasures", spec := "gramMeasures", unfollowed := true, recurses := true, apart := false }
def GramMeasuresSaid : Prop := gramMeasuresRow.holds Try.pinned (OpenSpec.ofChange gramMeasuresSpec)

/-- ITS FALSE NEIGHBOUR: 'it returns false'. Refute it at one input. -/
def gramMeasuresWrong : ChangeSpec := { name := "gramMeasures", fn := fun _ => fun
  | [d] => { results := [.lit (.bool false)], args := [d] }
  | _ => none }
def GramMeasuresWrongFalsely : Prop := gramMeasuresRow.holds Try.pinned (OpenSpec.ofChange gramMeasuresWrong)

/-- 'vetchlaw05.GramCopies': WHATEVER THE INPUT: true; the input reads as it did. -/
def gramCopiesSpec : ChangeSpec := { name := "gramCopies", fn := fun _ => fun
  | [d1, d2] => { results := [.lit (.bool true)], args := [d1, d2] }
  | _ => none }
def gramCopiesRow : OpenClaim := { program := "ytbhejkjgebhpoaa", sum := "6a685f00b32723648402a5b0ae28d56e204dd89dc8660988e99de748e5eaf503", func := "vetch/vetchlaw05.GramCopies", spec := "gramCopies", unfollowed := true, recurses := true, apart := false }
def GramCopiesSaid : Prop := gramCopiesRow.holds Try.pinned (OpenSpec.ofChange gramCopiesSpec)

/-- ITS FALSE NEIGHBOUR: 'it returns false'. Refute it at one input. -/
def gramCopiesWrong : ChangeSpec := { name := "gramCopies", fn := fun _ => fun
  | [d1, d2] => { results := [.lit (.bool false)], args := [d1, d2] }
  | _ => none }
def GramCopiesWrongFalsely : Prop := gramCopiesRow.holds Try.pinned (OpenSpec.ofChange gramCopiesWrong)

/-- 'vetchlaw05.GramSpans': WHATEVER THE INPUT: true; the input reads as it did. -/
def gramSpansSpec : ChangeSpec := { name := "gramSpans", fn := fun _ => fun
  | [d1, d2] => { results := [.lit (.bool true)], args := [d1, d2] }
  | _ => none }
def gramSpansRow : OpenClaim := { program := "ytbhejkjgebhpoaa", sum := "6a685f00b32723648402a5b0ae28d56e204dd89dc8660988e99de748e5eaf503", func := "vetch/vetchlaw05.GramSpans", spec := "gramSpans", unfollowed := true, recurses := true, apart := false }
def GramSpansSaid : Prop := gramSpansRow.holds Try.pinned (OpenSpec.ofChange gramSpansSpec)

/-- ITS FALSE NEIGHBOUR: 'it returns false'. Refute it at one input. -/
def gramSpansWrong : ChangeSpec := { name := "gramSpans", fn := fun _ => fun
  | [d1, d2] => { results := [.lit (.bool false)], args := [d1, d2] }
  | _ => none }
def GramSpansWrongFalsely : Prop := gramSpansRow.holds Try.pinned (OpenSpec.ofChange gramSpansWrong)

/- THE SECOND FORM. 'bulk': how many values and letters a reading holds, each counted each time it is reached (what is shared counts as often as it is met; a slice's spare places count too). A statement '..UptoSaid' is the law's where the arguments, and the package variables that the reading takes, are together of bulk at most 1048576: NARROWER than '..Said'. Prove '..Said' where nothing that the law and all that it calls make is longer than what came in: it says more and counts as full. Else prove '..UptoSaid'. A law counts once. -/
mutual
def uptoBulk {H : Type} : DataW H → Nat
  | .lit (.string bytes) => bytes.length + 1
  | .lit _ => 1
  | .nil => 1
  | .ptr d => uptoBulk d + 1
  | .slice elems spare => uptoBulkAll elems + uptoBulkAll spare + 1
  | .agg parts => uptoBulkAll parts + 1
  | .iface _ d => uptoBulk d + 1
  | .map entries => uptoBulkEntries entries + 1
  | .held _ => 1
def uptoBulkAll {H : Type} : List (DataW H) → Nat
  | [] => 0
  | d :: r => uptoBulk d + uptoBulkAll r
def uptoBulkEntries {H : Type} : List (Lit × DataW H) → Nat
  | [] => 0
  | x :: r => uptoBulkEntry x + uptoBulkEntries r
def uptoBulkEntry {H : Type} : Lit × DataW H → Nat
  | (.string bytes, d) => bytes.length + uptoBulk d + 1
  | (_, d) => uptoBulk d + 1
 end
def uptoSmall : (H : Type) → List (DataW H) → Bool := fun _ ds => decide (uptoBulkAll ds ≤ 1048576)
def OpenSpec.upto (s : _root_.Go.ChangeSpec) : _root_.Go.OpenSpec := { _root_.Go.OpenSpec.ofChange s with cond := some uptoSmall }

/-- 'vetchlaw05.GramMeasures', WHERE WHAT IT READS IS OF BULK AT MOST 1048576: true; the input reads as it did. -/
def gramMeasuresUptoRow : OpenClaim := { program := "ytbhejkjgebhpoaa", sum := "6a685f00b32723648402a5b0ae28d56e204dd89dc8660988e99de748e5eaf503", func := "vetch/vetchlaw05.GramMeasures", spec := "gramMeasures", unfollowed := true, recurses := true, apart := false, narrowed := true }
def GramMeasuresUptoSaid : Prop := gramMeasuresUptoRow.holds Try.pinned (OpenSpec.upto gramMeasuresSpec)

/-- 'vetchlaw05.GramCopies', WHERE WHAT IT READS IS OF BULK AT MOST 1048576: true; the input reads as it did. -/
def gramCopiesUptoRow : OpenClaim := { program := "ytbhejkjgebhpoaa", sum := "6a685f00b32723648402a5b0ae28d56e204dd89dc8660988e99de748e5eaf503", func := "vetch/vetchlaw05.GramCopies", spec := "gramCopies", unfollowed := true, recurses := true, apart := false, narrowed := true }
def GramCopiesUptoSaid : Prop := gramCopiesUptoRow.holds Try.pinned (OpenSpec.upto gramCopiesSpec)

/-- 'vetchlaw05.GramSpans', WHERE WHAT IT READS IS OF BULK AT MOST 1048576: true; the input reads as it did. -/
def gramSpansUptoRow : OpenClaim := { program := "ytbhejkjgebhpoaa", sum := "6a685f00b32723648402a5b0ae28d56e204dd89dc8660988e99de748e5eaf503", func := "vetch/vetchlaw05.GramSpans", spec := "gramSpans", unfollowed := true, recurses := true, apart := false, narrowed := true }
def GramSpansUptoSaid : Prop := gramSpansUptoRow.holds Try.pinned (OpenSpec.upto gramSpansSpec)

end Rows
end Go.Proofs.Ytbhejkjgebhpoaa
