/- cmp.Compare at int, slices.BinarySearchFunc on rules, gram.Owner on rising roots. -/
import Derived.Test.YtklimoepkifnhaaGramFirst
namespace Go.Proofs.Ytklimoepkifnhaa
open Go.RowKit
/-- How two numbers compare. -/
def cmp3 (x y : Int) : Int := if x < y then -1 else if y < x then 1 else 0
theorem cmp3_lt {x y : Int} (h : x < y) : cmp3 x y = -1 := if_pos h
theorem cmp3_ge {x y : Int} (h : ¬ x < y) : cmp3 x y = if y < x then 1 else 0 := if_neg h
/-- What the search returns. -/
def FoundIs (n : Nat) (w : World) (e : Ending) (w' : World) : Prop := (∃ b, e = .returned (.tuple #[.int .i64 (n : Int), .bool b])) ∧ Below w.heap.size w w'
theorem FoundIs.mk {n : Nat} {x : Int} {b : Bool} {w w' : World} (hx : x = n) (hb : Below w.heap.size w w') : FoundIs n w (.returned (.tuple #[.int .i64 x, .bool b])) w' := by subst hx; exact ⟨⟨b, rfl⟩, hb⟩
end Go.Proofs.Ytklimoepkifnhaa
