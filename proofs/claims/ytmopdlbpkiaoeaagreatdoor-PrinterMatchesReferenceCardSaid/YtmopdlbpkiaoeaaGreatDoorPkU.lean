/- The reference: finish. The reference: Parse, its loop. -/
import Derived.Test.YtmopdlbpkiaoeaaGreatDoorPkC
import Derived.Test.YtmopdlbpkiaoeaaGreatDoorPkS
import Derived.Test.YtmopdlbpkiaoeaaGreatDoorPkT
import Derived.Test.YtmopdlbpkiaoeaaGreatDoorPkO
namespace Go.Proofs.YtmopdlbpkiaoeaaGreatDoor
section
open Go.RowKit
def erC (dp:Bool):Int:=if dp then 5 else 1
def zeroF:Array Value:=#[.slice none 0 0,.slice none 0 0,.slice none 0 0]
end
section
open Go.RowKit
def PT (R:RC)(w:World)(B:Nat)(x:SV)(W:World):Prop:=Bl W B 167 (Cel R x)/\Bl W w.heap.size 133 zeroF/\Below w.heap.size w W/\w.heap.size<B
section
variable {R:RC} {w W W' W0 W2:World} {x y:SV} {B:Nat} {O:FO} {e:Ending}
theorem PT.below (h:PT R w B x W)(hb:Below W.heap.size W W'):PT R w B x W':=⟨h.1.below hb,h.2.1.below hb,h.2.2.1.trans (hb.mono h.2.2.1.size),h.2.2.2⟩
theorem PT.put (h:PT R w B x W)(n:Int):PT R w B { x with i:=n } (W.setCell ⟨B,1,none⟩ (.int .i64 n)):=by
 have h4:=h.2.2.2;exact⟨Bl.put (i:=1) h.1 _,h.2.1.other (by omega) _,h.2.2.1.setCell (p:=⟨B,1,none⟩) (Nat.le_of_lt h4) _,h4⟩
end
def ParR (R:RC)(N:Nat)(w:World)(B:Nat)(F:List Tok->MF->PO)(O:FO)(gk:Nat)(wr:World):Prop:=
 ∃x,PT R w B x wr/\((∃rs a g qs,RSt R rs a g qs x wr/\(if rs.length≠0/\kd a=0 then FO.ok rs g else defsL true F gk a g rs)=O/\Fit 2 N rs a g/\rs.length+a.length<=N/\a.length<gk/\Endy a)∨(∃rs c dp,RBad R rs c dp x wr/\O=.bad c dp))
def EO (R:RC)(rs:List (List Nat × Nat × Int))(qs:List Value)(lo:Nat)(o:PO)(k:Int)(x:SV)(W:World):Prop:=match o with
 |.ok a g=>k=lastI g/\RF R rs a g qs lo x W
 |.bad a dp=>RBad R rs a dp x W
def ruleO (F:List Tok->MF->PO)(m:Nat)(rs:List (List Nat × Nat × Int))(tx:List Nat)(p:Nat)(o:PO):FO:=match o with
 |.bad a d=>FO.bad a d
 |.ok a g=>if kd a=0 then .ok (rs++[(tx,p,lastI g)]) g else defsL true F m a g (rs++[(tx,p,lastI g)])
theorem ParR.rule {R:RC}{N:Nat}{w W0 W:World}{B lo m:Nat}{F:List Tok->MF->PO}{O:FO}{rs:List (List Nat × Nat × Int)}{qs:List Value}{o:PO}{k:Int}{x:SV}{a7:Option Addr}{c7:Nat}{cs:Array Value}{tx:List Nat}{p:Nat}{lo':Nat}(hB:Bl W0 B 167 cs)(hF:Fr lo B W0 W)(hlo:W0.heap.size=lo)(hx:EO R rs qs lo' o k x W0)
  (hP:PT R w B { x with ra:=a7,rn:=rs.length+1,rc:=c7 } W) (hr:W.ownsRow R.base 173 3 (.slice a7 (rs.length+1) c7) (rs.length+1) (defsC rs++[.string (strOf tx),.int .i64 (p:Int),.int .i64 k]))
  (hO:ruleO F m rs tx p o=O)
  (hFit:∀a g,o=.ok a g->Fit 2 N rs a g/\rs.length+1+a.length<=N/\a.length<m/\Endy a):ParR R N w B F O m W:=by
 refine⟨_,hP,?_⟩;have hl:(rs++[(tx,p,k)]).length=rs.length+1:=by rw[List.length_append,List.length_singleton]
 have hrow:DRow R (rs++[(tx,p,k)]) { x with ra:=a7,rn:=rs.length+1,rc:=c7 } W:=by
  refine⟨hl.symm,?_⟩;rw[hl,zk2];exact hr
 cases o with
 |bad a d=>
  right;have hb:=RBad.fr hx hB hF hlo;obtain⟨b1,b2,b3,b4,-⟩:=hb;exact⟨_,a,d,⟨b1,b2,b3,b4,hrow⟩,hO.symm⟩
 |ok a g=>
  left;obtain⟨rfl,tq,hS,-⟩:=hx;obtain⟨s1,s2,s3,s4,s5,-,s7,s8,s9,s10,-⟩:=RSt.fr hS hB hF hlo;obtain⟨f1,f2,f3,f4⟩:=hFit a g rfl;refine⟨rs++[(tx,p,lastI g)],a,g,qs++tq,⟨s1,s2,s3,s4,s5,hrow.1,s7,s8,s9,s10,hrow.2⟩,?_,⟨f1.1,f1.2.1,by rw[hl];omega,f1.2.2.2⟩,by rw[hl];exact f2,f3,f4⟩;rw[<-hO];unfold ruleO;dsimp only;by_cases h0:kd a=0
  ·rw[if_pos h0,if_pos ⟨by rw[hl];omega,h0⟩]
  ·rw[if_neg h0,if_neg (fun e=>h0 e.2)]
end
end Go.Proofs.YtmopdlbpkiaoeaaGreatDoor
