/- What the laws of the syntax need of the functions that they call. -/
import Derived.Deep.Cut
import Derived.Test.YtmopdlbpkiaoeaaGreatDoorPkC
import Derived.Test.YtmopdlbpkiaoeaaGreatDoorPkK
import Derived.Test.YtmopdlbpkiaoeaaGreatDoorPkS
import Derived.Test.YtmopdlbpkiaoeaaGreatDoorPkT
import Derived.Test.YtmopdlbpkiaoeaaGreatDoorPkU
import Derived.Test.YtmopdlbpkiaoeaaGreatDoorPkY
namespace Go.Proofs.YtmopdlbpkiaoeaaGreatDoor
section
open Go.RowKit
theorem z61 (a:List Tok)(dp:Bool):erV a dp=.iface 160 (.agg #[.int .i64 (erC dp),.int .i64 (pos a:Int)]):=by
 cases a<;>rfl
theorem zmh {W:World}{base n sz:Nat}{e:TypeId}{v:Value}{xs:List Value}(h:W.ownsRow base e sz v n xs):n<=maxLen:=by
 rcases h.2 with⟨-,h0⟩|⟨g,cap,cur,-,-,-,h1,h2,-⟩
 ·rw[h0];exact Nat.zero_le _
 ·exact Nat.le_trans h1 h2
theorem FileIn.own {W:World}{rv nv cv:Value}{qs:List Value}{rs:List (List Nat × Nat × Int)}{f:MF}{base:Nat}{t1 t2:TypeId}(h1:NRow base nv f.nodes qs W)(h2:W.ownsRow base t1 2 cv f.calls.length (zcw f.calls))(h3:W.ownsRow base t2 3 rv rs.length (defsC rs)):FileIn W rv nv cv rs f:=
 FileIn.of h1 h2 h3 (zmh h3) (zmh h2) (zmh h1.2.1) fun n hn=>by
  obtain⟨i,hi⟩:=List.getElem?_of_mem hn;have hl:=(List.getElem?_eq_some_iff.1 hi).1;obtain⟨q,hq⟩:∃q,qs[i]?=some q:=⟨_,List.getElem?_eq_getElem (by rw[h1.1];exact hl)⟩;exact zmh (h1.2.2 i n q hi hq)
def GotF (W:World)(va:Option Addr)(vc:Nat)(na:Option Addr)(nc:Nat)(ca:Option Addr)(cc:Nat)(rs:List (List Nat × Nat × Int))(f:MF):Prop:=FileIn W (.slice va rs.length vc) (.slice na f.nodes.length nc) (.slice ca f.calls.length cc) rs f
theorem GotF.below {W W':World}{va:Option Addr}{vc:Nat}{na:Option Addr}{nc:Nat}{ca:Option Addr}{cc:Nat}{rs:List (List Nat × Nat × Int)}{f:MF}(h:GotF W va vc na nc ca cc rs f)(hb:Below W.heap.size W W'):GotF W' va vc na nc ca cc rs f:=FileIn.below h hb
theorem zb6 {w w':World}{e:Ending}{rs:List (List Nat × Nat × Int)}{f:MF}(h:zfb (.ok rs f) w e w'):∃va vc na nc ca cc,e=.returned (.tuple #[.agg #[.slice va rs.length vc,.slice na f.nodes.length nc,.slice ca f.calls.length cc],.nilIface])/\GotF w' va vc na nc ca cc rs f/\Below w.heap.size w w':=by
 obtain⟨rv,nv,cv,qs,rfl,h1,h2,h3,h4⟩:=h;have hf:=FileIn.own h1 h2 h3;obtain⟨va,vc,rfl⟩:=zag h3;obtain⟨na,nc,rfl⟩:=zag h1.2.1;obtain⟨ca,cc,rfl⟩:=zag h2;exact⟨va,vc,na,nc,ca,cc,rfl,hf,h4⟩
theorem zc8 {w w':World}{e:Ending}{a:List Tok}{dp:Bool}(h:zfb (.bad a dp) w e w'):e=.returned (.tuple #[.agg #[.slice none 0 0,.slice none 0 0,.slice none 0 0],.iface 160 (.agg #[.int .i64 (erC dp),.int .i64 (pos a:Int)])])/\Below w.heap.size w w':=by
 obtain⟨h1,h2⟩:=h;rw[z61] at h1;exact⟨h1,h2⟩
end
end Go.Proofs.YtmopdlbpkiaoeaaGreatDoor
