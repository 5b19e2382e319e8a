/- The reference: Same, at two files that are one. The program's Same, at two files that are one, and at two whose first rules have other names. The law package's  -/
import Derived.Deep.Cut
import Derived.Deep.RegionLaw
import Derived.Test.YtnmflokhnaiiiaaGreatDoorPkD
import Derived.Test.YtnmflokhnaiiiaaGreatDoorPkSynFIn
import Derived.Test.YtnmflokhnaiiiaaGreatDoorPkS
import Derived.Test.YtnmflokhnaiiiaaGreatDoorPkO
import Derived.Test.YtnmflokhnaiiiaaGreatDoorPkU
namespace Go.Proofs.YtnmflokhnaiiiaaGreatDoor
section
open Go.RowKit
end
section
open Go.RowKit
end
section
open Go.RowKit
def Bk (w:World)(ins oc:Array Value)(e:TypeId)(sz:Nat)(v:Value)(n:Nat)(xs:List Value)(wr:World):Prop:=Bl wr w.heap.size 26 ins/\Bl wr (w.heap.size+1) 34 zeroF/\Bl wr (w.heap.size+2) 34 oc/\wr.ownsRow w.heap.size e sz v n xs/\Below w.heap.size w wr
theorem Bk.step {w wr W w5:World}{ins oc:Array Value}{e:TypeId}{sz n:Nat}{v v':Value}{xs elem:List Value}(he:e≠26/\e≠34)(h:Bk w ins oc e sz v n xs wr)(hW:Below wr.heap.size wr W)(hg:W.grownBy w5 v.ownBlock)(hown:w5.ownsRow w.heap.size e sz v' (n+1) (xs++elem))(o:Nat) :
  Bk w ins (oc.setIfInBounds o v') e sz v' (n+1) (xs++elem) (w5.setCell ⟨w.heap.size+2,o,none⟩ v'):=by
 obtain⟨h1,h2,h3,h4,h5⟩:=h;have hr:=zab h4 hW;have kind:∀g,v.ownBlock=some g->∃c fz,W.heap[g]?=some (.cells c e fz):=fun g hv=>Lib.ownsRow_kind hr g hv
 have k1:∀T,T=26∨T=34->∀g,v.ownBlock=some g->∃c t' fz,W.heap[g]?=some (.cells c t' fz)/\T≠t':=fun T hT g hv=>by
  obtain⟨c,fz,q⟩:=kind g hv;exact⟨c,e,fz,q,by rcases hT with rfl|rfl;exact Ne.symm he.1;exact Ne.symm he.2⟩
 have z3:=(h3.below hW).grown hg (k1 _ (.inr rfl));exact⟨((h1.below hW).grown hg (k1 _ (.inl rfl))).other (by omega) _,((h2.below hW).grown hg (k1 _ (.inr rfl))).other (by omega) _,z3.put v',ownsRow_setCell_other hown (a:=⟨w.heap.size+2,o,none⟩) (zaq hown z3 he.2) _,((h5.trans (hW.mono h5.size)).grown hg (Nat.le_trans h5.size hW.size) (fun b hb=>(hr.lt b hb).1)).setCell (p:=⟨w.heap.size+2,o,none⟩) (by show w.heap.size<=w.heap.size+2;omega) _⟩
end
end Go.Proofs.YtnmflokhnaiiiaaGreatDoor
