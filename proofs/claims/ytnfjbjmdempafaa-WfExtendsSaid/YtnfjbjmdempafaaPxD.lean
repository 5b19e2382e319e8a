/- The members of a set of numbers; the set of a node. No walk. Plain facts on the runs of a set of numbers below 256. Nothing here speaks of a program. Two sets a -/
import Derived.ChangeKeysEq
import Derived.WalkKit
import Derived.Laws.StructEq
import Derived.OwnWalkIn
import Derived.TacticsInMore
import Derived.Shelf.Abstract
import Derived.RangeFuncBox
import Derived.RangeFuncNested
import Derived.RangeFuncBound
import Derived.RangeFuncCalls
import Derived.RangeFuncLeaves
import Derived.Shelf.RegionOpen
import Derived.LoopNIn
import Derived.LoopIn
import Derived.Test.YtnfjbjmdempafaaPxA
import Derived.Test.YtnfjbjmdempafaaPxSetRef3
namespace Go.Proofs.Ytnfjbjmdempafaa
/-- the members of f below k, in ascending order -/
def memb (f : Nat → Bool) (k : Nat) : List Nat := (List.range k).filter f
theorem memb_congr {f g : Nat → Bool} {k : Nat} (h : ∀ i, i < k → f i = g i) : memb f k = memb g k := by
  unfold memb
  exact List.filter_congr (fun x hx => h x (List.mem_range.1 hx))
end Go.Proofs.Ytnfjbjmdempafaa
namespace Go.Proofs.Ytnfjbjmdempafaa
end Go.Proofs.Ytnfjbjmdempafaa
namespace Go.Proofs.Ytnfjbjmdempafaa
end Go.Proofs.Ytnfjbjmdempafaa
namespace Go.Proofs.Ytnfjbjmdempafaa
open Go.RowKit Go.Shelf
attribute [local go_sem] Oper.semAt_some
/-- between two rounds the block of the iterator's own set is kept -/
def KeepB (Bs : Nat) (A B : World) : Prop := A.heap.size ≤ B.heap.size ∧ B.heap[Bs]? = A.heap[Bs]?
theorem KeepB.refl (Bs : Nat) (A : World) : KeepB Bs A A := ⟨Nat.le_refl _, rfl⟩
theorem KeepB.trans {Bs : Nat} {A B C : World} (h : KeepB Bs A B) (h' : KeepB Bs B C) : KeepB Bs A C := ⟨Nat.le_trans h.1 h'.1, h'.2.trans h.2⟩
theorem SetAt.lt {f : Nat → Bool} {Bs : Nat} {A : World} (h : SetAt f Bs A) : Bs < A.heap.size := block_lt_of_cell (h 0 (by omega)).1
end Go.Proofs.Ytnfjbjmdempafaa
