/- The law package's wrong, at a fault that is the one it asks for. What the rows lay. The law package's wrong; the fixed examples hold. -/
import Derived.Deep.Cut
import Derived.Deep.RegionLaw
import Derived.Test.YtmopdlbpkiaoeaaGreatDoorPkLexStr
import Derived.Test.YtmopdlbpkiaoeaaGreatDoorPkJ
import Derived.Test.YtmopdlbpkiaoeaaGreatDoorPkD
import Derived.Test.YtmopdlbpkiaoeaaGreatDoorPkSynFIn
import Derived.Test.YtmopdlbpkiaoeaaGreatDoorPkK
import Derived.Test.YtmopdlbpkiaoeaaGreatDoorPkS
import Derived.Test.YtmopdlbpkiaoeaaGreatDoorPkO
import Derived.Test.YtmopdlbpkiaoeaaGreatDoorPkU
import Derived.Test.YtmopdlbpkiaoeaaGreatDoorPkP
namespace Go.Proofs.YtmopdlbpkiaoeaaGreatDoor
open Go.RowKit
def LexLaid (w:World):Prop:=w.cell? ⟨2,0,none⟩=some (rt 35)/\SignsAt w
theorem LexLaid.kept {n:Nat}{w w':World}(h:LexLaid w)(hb:Below n w w')(hn:w.heap.size<=n):LexLaid w':=
 ⟨by have:=zai h.1;rw[(bcell hb).1 _ _ (by omega)];exact h.1,h.2.kept hb hn⟩
end Go.Proofs.YtmopdlbpkiaoeaaGreatDoor
namespace Go.Proofs.YtmopdlbpkiaoeaaGreatDoor
section
open Go.RowKit
def z6s:List PN:=[clsN (fun i=>decide (i=97)),clsN (fun i=>decide (i=98)),mkN 3 [0,1],callN 0,mkN 3 [2,3],mkN 0 [],mkN 4 [4,5]]
def fileC:MF:=⟨z6s,[([65],10)]⟩
def AC (g1 g2 g3 c1 c2 c3:Nat)(W:World):Prop:=FileIn W (.slice (some ⟨g2,0,none⟩) 1 c2) (.slice (some ⟨g1,0,none⟩) 7 c1) (.slice (some ⟨g3,0,none⟩) 1 c3) [([65],0,6)] fileC /\
 W.cell? ⟨g1,28,none⟩=some (.int .i64 3)/\W.cell? ⟨g1,35,none⟩=some (.int .i64 0)/\W.cell? ⟨g1,42,none⟩=some (.int .i64 4)/\W.cell? ⟨g3,0,none⟩=some (.string ⟨#[65]⟩)/\W.cell? ⟨g3,1,none⟩=some (.int .i64 10)/\W.cell? ⟨g2,0,none⟩=some (.string ⟨#[65]⟩)/\W.cell? ⟨g2,1,none⟩=some (.int .i64 ((0:Nat):Int))/\W.cell? ⟨g2,2,none⟩=some (.int .i64 6)
def AE (g4 g5:Nat)(W:World):Prop:=W.cell? ⟨g4,0,none⟩=some (.string ⟨#[]⟩)/\W.cell? ⟨g4,1,none⟩=some (.int .i64 ((0:Nat):Int))/\W.cell? ⟨g4,2,none⟩=some (.int .i64 1)/\W.cell? ⟨g5,7,none⟩=some (.int .i64 5)
theorem za0 {W W':World}(hb:Below W.heap.size W W'){b o:Nat}{u:Value}(h:W.cell? ⟨b,o,none⟩=some u):W'.cell? ⟨b,o,none⟩=some u:=by
 rw[(bcell hb).1 _ _ (zai h)];exact h
theorem AC.below {g1 g2 g3 c1 c2 c3:Nat}{W W':World}(h:AC g1 g2 g3 c1 c2 c3 W)(hb:Below W.heap.size W W'):AC g1 g2 g3 c1 c2 c3 W':=by
 obtain⟨h0,h1,h2,h3,h4,h5,h6,h7,h8⟩:=h;exact⟨h0.below hb,za0 hb h1,za0 hb h2,za0 hb h3,za0 hb h4,za0 hb h5,za0 hb h6,za0 hb h7,za0 hb h8⟩
theorem AE.below {g4 g5:Nat}{W W':World}(h:AE g4 g5 W)(hb:Below W.heap.size W W'):AE g4 g5 W':=by
 obtain⟨h1,h2,h3,h4⟩:=h;exact⟨za0 hb h1,za0 hb h2,za0 hb h3,za0 hb h4⟩
theorem FileIn.of {W:World}{rv nv cv:Value}{qs:List Value}{rs:List (List Nat × Nat × Int)}{f:MF}{base:Nat}{t1 t2:TypeId}(h1:NRow base nv f.nodes qs W)(h2:W.ownsRow base t1 2 cv f.calls.length (zcw f.calls))(h3:W.ownsRow base t2 3 rv rs.length (defsC rs))(hr:rs.length<=maxLen)(hc:f.calls.length<=maxLen)(hl:f.nodes.length<=maxLen)(hk:∀n,n ∈ f.nodes->n.kids.length<=maxLen):FileIn W rv nv cv rs f:=
 ⟨⟨hr,hc⟩,CellsAt.of_own h3,h1.nodes hl hk,CellsAt.of_own h2⟩
end
end Go.Proofs.YtmopdlbpkiaoeaaGreatDoor
