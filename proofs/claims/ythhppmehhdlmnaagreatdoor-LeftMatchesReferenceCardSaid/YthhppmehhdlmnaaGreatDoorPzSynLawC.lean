/- What the laws of the syntax need of the functions that they call. -/
import Derived.Test.YthhppmehhdlmnaaGreatDoorPzD
import Derived.Test.YthhppmehhdlmnaaGreatDoorPzK
import Derived.Test.YthhppmehhdlmnaaGreatDoorPzP
namespace Go.Proofs.YthhppmehhdlmnaaGreatDoor
section
open Go.RowKit
theorem FileIn.of {W:World}{rv nv cv:Value}{qs:List Value}{rs:List (List Nat × Nat × Int)}{f:MF}{base:Nat}{t1 t2:TypeId}(h1:NRow base nv f.nodes qs W)(h2:W.ownsRow base t1 2 cv f.calls.length (zd7 f.calls))(h3:W.ownsRow base t2 3 rv rs.length (defsC rs))(hr:rs.length<=maxLen)(hc:f.calls.length<=maxLen)(hl:f.nodes.length<=maxLen)(hk:∀n,n ∈ f.nodes->n.kids.length<=maxLen):FileIn W rv nv cv rs f:=
 ⟨⟨hr,hc⟩,CellsAt.of_own h3,h1.nodes hl hk,CellsAt.of_own h2⟩
theorem zmc {W:World}{base n sz:Nat}{e:TypeId}{v:Value}{xs:List Value}(h:W.ownsRow base e sz v n xs):n<=maxLen:=by
 rcases h.2 with⟨-,h0⟩|⟨g,cap,cur,-,-,-,h1,h2,-⟩
 ·rw[h0];exact Nat.zero_le _
 ·exact Nat.le_trans h1 h2
theorem FileIn.own {W:World}{rv nv cv:Value}{qs:List Value}{rs:List (List Nat × Nat × Int)}{f:MF}{base:Nat}{t1 t2:TypeId}(h1:NRow base nv f.nodes qs W)(h2:W.ownsRow base t1 2 cv f.calls.length (zd7 f.calls))(h3:W.ownsRow base t2 3 rv rs.length (defsC rs)):FileIn W rv nv cv rs f:=
 FileIn.of h1 h2 h3 (zmc h3) (zmc h2) (zmc h1.2.1) fun n hn=>by
  obtain⟨i,hi⟩:=List.getElem?_of_mem hn;have hl:=(List.getElem?_eq_some_iff.1 hi).1;obtain⟨q,hq⟩:∃q,qs[i]?=some q:=⟨_,List.getElem?_eq_getElem (by rw[h1.1];exact hl)⟩;exact zmc (h1.2.2 i n q hi hq)
def GotF (W:World)(va:Option Addr)(vc:Nat)(na:Option Addr)(nc:Nat)(ca:Option Addr)(cc:Nat)(rs:List (List Nat × Nat × Int))(f:MF):Prop:=FileIn W (.slice va rs.length vc) (.slice na f.nodes.length nc) (.slice ca f.calls.length cc) rs f
theorem GotF.below {W W':World}{va:Option Addr}{vc:Nat}{na:Option Addr}{nc:Nat}{ca:Option Addr}{cc:Nat}{rs:List (List Nat × Nat × Int)}{f:MF}(h:GotF W va vc na nc ca cc rs f)(hb:Below W.heap.size W W'):GotF W' va vc na nc ca cc rs f:=FileIn.below h hb
theorem z2u {w w':World}{e:Ending}{rs:List (List Nat × Nat × Int)}{f:MF}(h:zfp (.ok rs f) w e w'):∃va vc na nc ca cc,e=.returned (.tuple #[.agg #[.slice va rs.length vc,.slice na f.nodes.length nc,.slice ca f.calls.length cc],.nilIface])/\GotF w' va vc na nc ca cc rs f/\Below w.heap.size w w':=by
 obtain⟨rv,nv,cv,qs,rfl,h1,h2,h3,h4⟩:=h;have hf:=FileIn.own h1 h2 h3;obtain⟨va,vc,rfl⟩:=zad h3;obtain⟨na,nc,rfl⟩:=zad h1.2.1;obtain⟨ca,cc,rfl⟩:=zad h2;exact⟨va,vc,na,nc,ca,cc,rfl,hf,h4⟩
end
end Go.Proofs.YthhppmehhdlmnaaGreatDoor
