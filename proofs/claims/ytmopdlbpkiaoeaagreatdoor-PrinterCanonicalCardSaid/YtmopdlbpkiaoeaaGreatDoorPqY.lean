/- The law package's wrong, at a fault that is the one it asks for. What the rows lay. The law package's wrong; the fixed examples hold. -/
import Derived.Deep.Cut
import Derived.Deep.RegionLaw
import Derived.Test.YtmopdlbpkiaoeaaGreatDoorPqU
import Derived.Test.YtmopdlbpkiaoeaaGreatDoorPqP
namespace Go.Proofs.YtmopdlbpkiaoeaaGreatDoor
open Go.RowKit
end Go.Proofs.YtmopdlbpkiaoeaaGreatDoor
namespace Go.Proofs.YtmopdlbpkiaoeaaGreatDoor
section
open Go.RowKit
theorem za0 {W W':World}(hb:Below W.heap.size W W'){b o:Nat}{u:Value}(h:W.cell? ⟨b,o,none⟩=some u):W'.cell? ⟨b,o,none⟩=some u:=by
 rw[(bcell hb).1 _ _ (zai h)];exact h
theorem FileIn.of {W:World}{rv nv cv:Value}{qs:List Value}{rs:List (List Nat × Nat × Int)}{f:MF}{base:Nat}{t1 t2:TypeId}(h1:NRow base nv f.nodes qs W)(h2:W.ownsRow base t1 2 cv f.calls.length (zcw f.calls))(h3:W.ownsRow base t2 3 rv rs.length (defsC rs))(hr:rs.length<=maxLen)(hc:f.calls.length<=maxLen)(hl:f.nodes.length<=maxLen)(hk:∀n,n ∈ f.nodes->n.kids.length<=maxLen):FileIn W rv nv cv rs f:=
 ⟨⟨hr,hc⟩,CellsAt.of_own h3,h1.nodes hl hk,CellsAt.of_own h2⟩
end
