/- flow: what a small valid grammar has. -/
import Derived.Test.YthhppmehhdlmnaaGreatDoorPzFU
import Derived.Test.YthhppmehhdlmnaaGreatDoorPzGC
import Derived.Test.YthhppmehhdlmnaaGreatDoorPzFlowROf
namespace Go.Proofs.YthhppmehhdlmnaaGreatDoor
open Go.RowKit
theorem zrr {c:Chk}(h:okB c=true):c=.ok:=by cases c<;>first|rfl|cases h
theorem z1p {n:PN}{R:Nat}(h:madeB n R=true)(h5:5<=n.op):∃k,n.kids=[k]:=by
 unfold madeB at h;simp only[Bool.and_eq_true,decide_eq_true_eq] at h;obtain⟨⟨⟨-,h2⟩,-⟩,-⟩:=h;rw[if_neg (by omega),if_neg (by omega)] at h2;have:n.kids.length=1:=by simpa using h2
 match hk:n.kids,this with
 | [k],_=>exact⟨k,rfl⟩
theorem z59 {rs:List PR}{ns:List PN}(h:(fewB rs ns&&okB (chkL rs ns))=true):FlowOk rs ns/\0<rs.length/\rs.length<=30:=by
 rw[Bool.and_eq_true] at h;obtain⟨-,hkl,hrl,hnl⟩:=zfy h.1;obtain⟨-,-,hr0,-,hgood,hord,-⟩:=zum (zrr h.2);have hK:=(zod hord).kids;refine⟨⟨Nat.le_trans hnl (by decide),hkl,fun n hn=>?_⟩,hr0,hrl⟩;have hm:=z0c hgood hn;obtain⟨h0,h9,h2,-⟩:=zvq hm;obtain⟨i,hi⟩:=List.getElem?_of_mem hn;have hil:=(List.getElem?_eq_some_iff.1 hi).1;refine⟨⟨h0,h9,z1p hm⟩,fun k hk=>?_,fun e2=>?_⟩
 ·have:=hK i n hi k hk
  omega
 ·obtain⟨r0,r1⟩:=h2 e2
  obtain⟨r,hr⟩:∃r:Nat,n.rule=r:=⟨n.rule.toNat,by omega⟩;obtain⟨x,hx⟩:∃x,rs[r]?=some x:=⟨_,List.getElem?_eq_getElem (by omega)⟩;obtain⟨⟨g1,g2,g3⟩,-⟩:=zex rs (-1) (by omega) hord r x hx;exact⟨r,x,hr,hx,by omega,g3⟩
end Go.Proofs.YthhppmehhdlmnaaGreatDoor
