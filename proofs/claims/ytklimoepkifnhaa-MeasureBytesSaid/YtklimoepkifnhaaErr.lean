/- What an error of this program may be, as a tree; the value that stands for it; and that it lies in memory as it did as long as old memory stays as it was. No walk. -/
import Derived.Test.YtklimoepkifnhaaBase
import Derived.Test.YtklimoepkifnhaaProg
import Derived.WalkKit
import Derived.ProofKit
namespace Go.Proofs.Ytklimoepkifnhaa
open Go.RowKit
/-- An error: a code, a fault, a text of package errors, or one that Within has made. -/
inductive Err where
  | code (c : Int)
  | fault (c p : Int)
def Err.inner : Err → Value
  | .code c => .int .i64 c
  | .fault c p => .agg #[.int .i64 c, .int .i64 p]
/-- How many errors stand behind it in its chain, a fault's code among them. -/
def Err.deep : Err → Nat
  | .code _ => 0
  | .fault _ _ => 1
def Err.In (_w : World) : Err → Prop
  | .code _ => True
  | .fault _ _ => True
/-- The first code in the chain. -/
def Err.codeOf : Err → Option Int
  | .code c => some c
  | .fault c _ => some c
def Err.faultOf : Err → Option (Int × Int)
  | .code _ => none
  | .fault c p => some (c, p)
/-- The first that Within has made: its block. -/
def Err.withinOf : Err → Option Nat
  | .code _ => none
  | .fault _ _ => none
theorem Err.In.kept {e : Err} {n : Nat} {w w1 : World} (h : e.In w) (_hb : Below n w w1) (_hn : w.heap.size ≤ n) : e.In w1 := by
  induction e with
  | code c => trivial
  | fault c p => trivial
end Go.Proofs.Ytklimoepkifnhaa
