/- The reference: primary at a literal. What a drawn region of two appends and a store leaves as it was. The reference: prefixed, a node with one kid. The referenc -/
import Derived.Deep.Cut
import Derived.Test.YtmopdlbpkiaoeaaGreatDoorPkQ
import Derived.Test.YtmopdlbpkiaoeaaGreatDoorPkM
namespace Go.Proofs.YtmopdlbpkiaoeaaGreatDoor
section
open Go.RowKit
section
variable {R:RC} {rs:List (List Nat × Nat × Int)} {f:MF} {qs:List Value} {w:World} (la:Option Addr) (lc:Nat) (i:Int) (ra:Option Addr) (rn rc:Nat) (na:Option Addr) (nn nc:Nat) (ca:Option Addr) (cn cc:Nat) (d:Nat) (a:Nat) (tx:List Nat) (r:List (Nat × Nat)) (tl:List Tok)
end
end
section
open Go.RowKit
def Fr (lo X:Nat)(W0 W:World):Prop:=∀b,b<lo->b≠X->W.heap[b]?=W0.heap[b]?
section
variable {lo X:Nat} {W0 W W':World}
theorem Fr.below (h:Fr lo X W0 W)(hb:Below lo W W'):Fr lo X W0 W':=fun b h1 h2=>(hb.block b h1).trans (h b h1 h2)
theorem Fr.put (h:Fr lo X W0 W)(o:Nat)(u:Value):Fr lo X W0 (W.setCell ⟨X,o,none⟩ u):=fun b h1 h2=>by
 rw[heap_setCell_other _ _ _ _ (by exact h2)];exact h b h1 h2
theorem Fr.own (h:Fr lo X W0 W)(hn:W0.heap.size=lo){base:Nat}{e:TypeId}{size n:Nat}{v:Value}{xs:List Value}(hr:W0.ownsRow base e size v n xs)(hx:v.ownBlock≠some X):W.ownsRow base e size v n xs:=by
 rcases hr.2 with hnil|⟨g,cap,cur,rfl,hg,hW,r⟩
 ·exact⟨hr.1,.inl hnil⟩
 ·have hl:=(Array.getElem?_eq_some_iff.1 hW).1
  exact⟨hr.1,.inr ⟨g,cap,cur,rfl,hg,by rw[h g (by omega) (fun e=>hx (by rw[e];rfl))];exact hW,r⟩⟩
theorem RSt.fr {R:RC}{rs:List (List Nat × Nat × Int)}{ts:List Tok}{f:MF}{qs:List Value}{x:SV}{cs:Array Value}(h:RSt R rs ts f qs x W0)(hB:Bl W0 X 167 cs)(hF:Fr lo X W0 W)(hn:W0.heap.size=lo):RSt R rs ts f qs x W:=by
 obtain⟨h1,h2,h3,h4,h5,h6,h7,h8,h9,h10,h11⟩:=h;have st:∀ {base:Nat} {t:TypeId} {sz n:Nat} {v:Value} {xs:List Value},W0.ownsRow base t sz v n xs->t≠167->W.ownsRow base t sz v n xs:=fun h ht=>hF.own hn h (zaq h hB ht)
 exact⟨⟨st h1.1 (by decide),h1.2⟩,h2,h3,h4,h5,h6,h7,h8,⟨h9.1,st h9.2.1 (by decide),fun j n q e1 e2=>st (h9.2.2 j n q e1 e2) (by decide)⟩,st h10 (by decide),st h11 (by decide)⟩
theorem RBad.fr {R:RC}{rs:List (List Nat × Nat × Int)}{a:List Tok}{dp:Bool}{x:SV}{cs:Array Value}(h:RBad R rs a dp x W0)(hB:Bl W0 X 167 cs)(hF:Fr lo X W0 W)(hn:W0.heap.size=lo):RBad R rs a dp x W:=by
 obtain⟨h1,h2,h3,h4,h5⟩:=h;have st:∀ {base:Nat} {t:TypeId} {sz n:Nat} {v:Value} {xs:List Value},W0.ownsRow base t sz v n xs->t≠167->W.ownsRow base t sz v n xs:=fun h ht=>hF.own hn h (zaq h hB ht)
 exact⟨⟨st h1.1 (by decide),h1.2⟩,h2,h3,h4,h5.1,st h5.2 (by decide)⟩
end
end
section
open Go.RowKit
end
section
open Go.RowKit
end
end Go.Proofs.YtmopdlbpkiaoeaaGreatDoor
