/- gram.sameNode, slices.EqualFunc on nodes, gram.Same. gram.First on a grammar in post-order. cmp.Compare at int, slices.BinarySearchFunc on rules, gram.Owner on  -/
import Derived.Test.YtocklhehfdilmaaPkGramEq
namespace Go.Proofs.Ytocklhehfdilmaa
open Go.RowKit
theorem one_new (w : World) (o : Obj) : Below w.heap.size w (w.alloc o) := (Below.refl _ _).alloc (Nat.le_refl _) _
theorem infoInt : (Try.prog.info? 3).map (fun i => (i.zero, i.size, i.bytes)) = some (some (.int .i64 0), 1, 8) := by kernel_rfl
theorem two_new (w : World) (o o' : Obj) : Below w.heap.size w ((w.alloc o).alloc o') := ((Below.refl _ _).alloc (Nat.le_refl _) _).alloc (by simp) _
end Go.Proofs.Ytocklhehfdilmaa
namespace Go.Proofs.Ytocklhehfdilmaa
open Go.RowKit
end Go.Proofs.Ytocklhehfdilmaa
namespace Go.Proofs.Ytocklhehfdilmaa
open Go.RowKit
/-- What the search returns. -/
def FoundIs (n : Nat) (w : World) (e : Ending) (w' : World) : Prop := (∃ b, e = .returned (.tuple #[.int .i64 (n : Int), .bool b])) ∧ Below w.heap.size w w'
theorem FoundIs.mk {n : Nat} {x : Int} {b : Bool} {w w' : World} (hx : x = n) (hb : Below w.heap.size w w') : FoundIs n w (.returned (.tuple #[.int .i64 x, .bool b])) w' := by subst hx; exact ⟨⟨b, rfl⟩, hb⟩
end Go.Proofs.Ytocklhehfdilmaa
