/- The members of a set of numbers; the set of a node. No walk. The contract of byteset.members: the iterator hands over the members of the set, in ascending order -/
import Derived.Shelf.Abstract
import Derived.RangeFuncBox
import Derived.RangeFuncNested
import Derived.RangeFuncBound
import Derived.RangeFuncCalls
import Derived.RangeFuncLeaves
import Derived.Shelf.RegionOpen
import Derived.OwnWalkIn
import Derived.TacticsInMore
import Derived.LoopNIn
import Derived.LoopIn
import Derived.Deep.Cut
import Derived.Deep.RegionWith
import Derived.Conc.MuLone
import Derived.Deep.QuietTactic
import Derived.Deep.RegionLaw
import Derived.RegionTactic
import Derived.ChangeKeysEq
import Derived.WalkKit
import Derived.Laws.StructEq
import Derived.Deep.AppendLies
import Derived.Maps.AppendAt
import Derived.Laws.AppendOwnNone
import Derived.Lib.OwnKind
import Derived.Deep.AppendSrc
import Derived.Test.YthhppmehhdlmnaaGreatDoorPzA
import Derived.Test.YthhppmehhdlmnaaGreatDoorPzB
import Derived.Test.YthhppmehhdlmnaaGreatDoorPzD
import Derived.Test.YthhppmehhdlmnaaGreatDoorPzGA
namespace Go.Proofs.YthhppmehhdlmnaaGreatDoor
def memb (f:Nat->Bool)(k:Nat):List Nat:=(List.range k).filter f
theorem zms (f:Nat->Bool)(k:Nat):memb f (k+1)=memb f k++if f k then [k] else []:=by
 unfold memb;rw[List.range_succ,List.filter_append];cases h:f k<;>simp[h]
theorem zk5 (f:Nat->Bool)(k:Nat):(memb f k).length<=k:=by
 unfold memb;have:=List.length_filter_le f (List.range k);simpa using this
theorem zgi {f g:Nat->Bool}{k:Nat}(h:∀i,i<k->f i=g i):memb f k=memb g k:=by
 unfold memb;exact List.filter_congr (fun x hx=>h x (List.mem_range.1 hx))
open Go.RowKit Go.Shelf
attribute [local go_sem] Oper.semAt_some
def KeepB (Bs:Nat)(A B:World):Prop:=A.heap.size<=B.heap.size/\B.heap[Bs]?=A.heap[Bs]?
theorem KeepB.refl (Bs:Nat)(A:World):KeepB Bs A A:=⟨Nat.le_refl _,rfl⟩
theorem KeepB.trans {Bs:Nat}{A B C:World}(h:KeepB Bs A B)(h':KeepB Bs B C):KeepB Bs A C:=⟨Nat.le_trans h.1 h'.1,h'.2.trans h.2⟩
theorem SetAt.lt {f:Nat->Bool}{Bs:Nat}{A:World}(h:SetAt f Bs A):Bs<A.heap.size:=block_lt_of_cell (h 0 (by omega)).1
end Go.Proofs.YthhppmehhdlmnaaGreatDoor
namespace Go.Proofs.YthhppmehhdlmnaaGreatDoor
section
inductive Rch (E:Nat->Nat->Prop) (r0:Nat):Nat->Prop where
 |here:Rch E r0 r0
 |call {a b:Nat}:Rch E r0 a->E a b->Rch E r0 b
theorem Rch.trans {E:Nat->Nat->Prop}{a b c:Nat}(h:Rch E a b)(k:Rch E b c):Rch E a c:=by
 induction k with
 |here=>exact h
 |call _ e ih=>exact .call ih e
noncomputable def rchB (E:Nat->Nat->Prop)(r0 j:Nat):Bool:=@decide (Rch E r0 j) (Classical.propDecidable _)
theorem zq4 {E:Nat->Nat->Prop}{r0 j:Nat}:rchB E r0 j=true↔Rch E r0 j:=by unfold rchB;exact @decide_eq_true_iff _ (Classical.propDecidable _)
def callE (rs:List PR)(ns:List PN)(a b:Nat):Prop:=∃(i:Nat) (n:PN),ns[i]?=some n/\n.op=2/\ownL rs (i:Int)=a/\n.rule=(b:Int)
noncomputable def ze8 (rs:List PR)(ns:List PN)(r:Int):List Nat:=if 0<=r/\r<rs.length then memb (rchB (callE rs ns) r.toNat) rs.length else []
theorem zhh {f g:Nat->Bool}:∀n,(∀i,i<n->f i=true->g i=true)->cnt f n<=cnt g n
 |0,_=>Nat.le_refl _
 |n+1,h=>by
  show cnt f n+(f n).toNat<=cnt g n+(g n).toNat;have h1:=zhh n (fun i hi=>h i (by omega));have h2:=h n (by omega);cases hf:f n with
  |false=>simp;omega
  |true=>rw[h2 hf];simp;omega
theorem zk9 {f g:Nat->Bool}:∀n,(∀i,i<n->f i=true->g i=true)->(∃j,j<n/\f j=false/\g j=true)->cnt f n<cnt g n
 |0,_,⟨j,hj,_⟩=>absurd hj (Nat.not_lt_zero _)
 |n+1,h,⟨j,hj,hf,hg⟩=>by
  show cnt f n+(f n).toNat<cnt g n+(g n).toNat;have h2:=h n (by omega);by_cases e:j=n
  ·subst e
   have h1:=zhh j (fun i hi=>h i (by omega));rw[hf,hg];simp;omega
  ·have h1:=zk9 n (fun i hi=>h i (by omega)) ⟨j,by omega,hf,hg⟩
   cases hf:f n with
   |false=>simp;omega
   |true=>rw[h2 hf];simp;omega
theorem zjj {E:Nat->Nat->Prop}{r0 n:Nat}{m:Nat->Bool}(h0:m r0=true)(hc:∀a b,a<n->m a=true->E a b->m b=true)(hE:∀a b,E a b->b<n)(hr:r0<n):∀j,Rch E r0 j->m j=true/\j<n:=by
 intro j hj
 induction hj with
 |here=>exact⟨h0,hr⟩
 |call _ e ih=>exact⟨hc _ _ ih.2 ih.1 e,hE _ _ e⟩
theorem zmw {E:Nat->Nat->Prop}{r0 n:Nat}{m:Nat->Bool}(h0:m r0=true)(hc:∀a b,a<n->m a=true->E a b->m b=true)(hE:∀a b,E a b->b<n)(hr:r0<n)(hs:∀j,j<n->m j=true->Rch E r0 j):∀j,j<n->m j=rchB E r0 j:=by
 intro j hj;cases hm:m j with
 |true=>exact(zq4.2 (hs j hj hm)).symm
 |false=>
  cases hb:rchB E r0 j with
  |false=>rfl
  |true=>have:=(zjj h0 hc hE hr j (zq4.1 hb)).1;rw[hm] at this;cases this
theorem zs3 {E:Nat->Nat->Prop}{r0 n k:Nat}{m m':Nat->Bool}(h0:m r0=true)(hE:∀a b,E a b->b<n)(hr:r0<n)(hs:∀j,j<n->m' j=true->Rch E r0 j)(hle:∀j,j<n->m j=true->m' j=true)
  (hstep:∀a b,a<n->m a=true->E a b->m' b=true) (h:(∀a b,a<n->m a=true->E a b->m b=true)∨k<cnt m n) :
  (∀a b,a<n->m' a=true->E a b->m' b=true)∨k+1<cnt m' n:=by
 by_cases hc:∀a b,a<n->m a=true->E a b->m b=true
 ·left
  intro a b ha hm he;have h1:=zjj h0 hc hE hr b (.call (hs a ha hm) he);exact hle b h1.2 h1.1
 ·right
  rcases h with h|h
  ·exact absurd h hc
  ·have:∃j,j<n/\m j=false/\m' j=true:=by
    apply Classical.byContradiction;intro hn;apply hc;intro a b ha hm he;cases hb:m b with
    |true=>rfl
    |false=>exact absurd ⟨b,hE a b he,hb,hstep a b ha hm he⟩ hn
   have:=zk9 n hle this;omega
theorem zvp {E:Nat->Nat->Prop}{n:Nat}{m:Nat->Bool}(h:(∀a b,a<n->m a=true->E a b->m b=true)∨n<cnt m n):∀a b,a<n->m a=true->E a b->m b=true:=by
 rcases h with h|h
 ·exact h
 ·have:=zmk m n;omega
theorem zvq {n:PN}{R:Nat}(h:madeB n R=true):0<=n.op/\n.op<=9/\(n.op=2->0<=n.rule/\n.rule<R)/\(n.op≠2->n.rule=0)/\(n.op≠1->n.s0=0/\n.s1=0/\n.s2=0/\n.s3=0):=by
 unfold madeB at h;simp only[Bool.and_eq_true,decide_eq_true_eq] at h;obtain⟨⟨⟨⟨h1,h2⟩,-⟩,h3⟩,h4⟩:=h;refine⟨h1,h2,fun e=>?_,fun e=>?_,fun e=>?_⟩
 ·rw[if_pos e] at h3;simpa using h3
 ·rw[if_neg e] at h3;simpa using h3
 ·simp at h4
  rcases h4 with h4|h4
  ·exact absurd h4 e
  ·exact⟨h4.1.1.1,h4.1.1.2,h4.1.2,h4.2⟩
theorem zvr {rs:List PR}{ns:List PN}(h:∀i,i<ns.length->zbc ns rs.length i=false){i:Nat}{n:PN}(hn:ns[i]?=some n):madeB n rs.length=true:=by
 have:=h i (List.getElem?_eq_some_iff.1 hn).1;unfold zbc at this;rw[hn] at this;simpa using this
theorem z0c {rs:List PR}{ns:List PN}(h:∀i,i<ns.length->zbc ns rs.length i=false){n:PN}(hn:n ∈ ns):madeB n rs.length=true:=by
 obtain⟨i,hi,rfl⟩:=List.getElem_of_mem hn;exact zvr h (List.getElem?_eq_getElem hi)
end
section
open Go.RowKit
theorem Bl.set' {w:World}{b o:Nat}{t:TypeId}{cs:Array Value}(h:Bl w b t cs)(u:Value):Bl (w.setCell ⟨b,o,none⟩ u) b t (cs.setIfInBounds o u):=heap_setCell_same w b o _ _ u h
theorem NAt.off {f:Nat->Nat}{n b c o:Nat}{v:Value}{w:World}(h:NAt f n b w)(hc:b≠c):NAt f n b (w.setCell ⟨c,o,none⟩ v):=fun j hj=>by
 obtain⟨h1,h2⟩:=h j hj;exact⟨by rw[World.cell?_setCell_other _ _ _ _ (by intro e;injection e with e;exact hc e.symm)];exact h1,by rw[World.frozen?_setCell];exact h2⟩
theorem zh8 {w:World}{B:Nat}(hB:B=w.heap.size)(x:Value)(t:TypeId):∀j u,[x][j]?=some u->(w.alloc (.cells #[x] t)).cell? ((⟨B,0,none⟩:Addr).add j)=some u:=by
 subst hB;exact zaq w x t
end
section
open Go.RowKit
def St7 (w:World)(S R:Nat)(f:Nat->Nat)(wr:World):Prop:=Below w.heap.size w wr/\S<wr.heap.size/\NAt f 14 S wr/\NAt (fun _=>0) 14 R wr
theorem St7.below {w:World}{S R:Nat}{f:Nat->Nat}{wr w':World}(h:St7 w S R f wr)(hb:Below wr.heap.size wr w')(hr:R<S):St7 w S R f w':=
 ⟨h.1.trans (hb.mono h.1.size),Nat.lt_of_lt_of_le h.2.1 hb.size,h.2.2.1.below hb h.2.1,h.2.2.2.below hb (by have:=h.2.1;omega)⟩
theorem St7.put {w:World}{S R:Nat}{f g:Nat->Nat}{wr:World}{i x:Nat}{y:Int}(h:St7 w S R f wr)(hy:y=x)(hS:w.heap.size<=S)(hr:R<S)(hg:∀j,j<14->updN f i x j=g j):St7 w S R g (wr.setCell ⟨S,i,none⟩ (.int .i64 y)):=
 ⟨h.1.setCell (p:=⟨S,i,none⟩) hS _,by simpa using h.2.1,(h.2.2.1.put' hy).congr hg,h.2.2.2.off (by omega)⟩
end
section
open Go.RowKit
theorem St7.lo {w:World}{S R:Nat}{f:Nat->Nat}{wr:World}(h:St7 w S R f wr):Below w.heap.size w wr:=h.1
theorem St7.drew {w:World}{S R:Nat}{f:Nat->Nat}{wr:World}(h:St7 w S R f wr):St7 w S R f wr.drew:=⟨h.1.drew,h.2.1,h.2.2.1,h.2.2.2⟩
end
section
open Go.RowKit
def natsV (l:List Nat):List Value:=intsV (l.map fun k:Nat=>(k:Int))
theorem zjk (l:List Nat)(k:Nat):natsV (l++[k])=natsV l++[.int .i64 (k:Int)]:=by unfold natsV intsV;rw[List.map_append,List.map_append];rfl
def zb5 (l:List Nat)(w:World)(e:Ending)(w':World):Prop:=∃u,e=.returned u/\w'.ownsRow w.heap.size 3 1 u l.length (natsV l)/\Below w.heap.size w w'
end
section
open Go.RowKit
theorem zgk {W:World}{base:Nat}{e:TypeId}{size n c g j:Nat}{xs:List Value}(h:W.ownsRow base e size (.slice (some ⟨g,0,none⟩) n c) n xs)(u:Value):(W.setCell ⟨g,j,none⟩ u).ownsRow base e size (.slice (some ⟨g,0,none⟩) n c) n (xs.set j u):=by
 obtain⟨hl,h⟩:=h;refine⟨by rw[List.length_set];exact hl,?_⟩;rcases h with⟨h,-⟩|⟨g',cap,cur,hv,hb,hh,h1,h2,h3,h4⟩
 ·cases h
 ·injection hv with e1 e2 e3
  injection e1 with e1;injection e1 with e1;subst e1 e3;refine .inr ⟨g,c,cur.setIfInBounds j u,rfl,hb,heap_setCell_same W g j _ _ u hh,h1,h2,by simpa using h3,?_⟩;rw[<-h4];rw[Array.toList_setIfInBounds,List.take_set]
theorem zan {W:World}{base:Nat}{e:TypeId}{size n c:Nat}{a:Option Addr}{xs:List Value}(h:W.ownsRow base e size (.slice a n c) n xs)(hn:0<n):∃g,a=some ⟨g,0,none⟩/\base<=g/\(∀j u,xs[j]?=some u->W.cell? ⟨g,j,none⟩=some u)/\∀o,W.frozen? ⟨g,o,none⟩=false:=by
 have h':=h;rcases h.2 with⟨-,e0⟩|⟨g,cap,cur,e,hb,-⟩
 ·omega
 ·injection e with e1 e2 e3
  subst e1 e3;exact⟨g,rfl,hb,fun j u hu=>by have:=h'.cells rfl j u hu;rw[Addr.add_lit,Nat.zero_add] at this;exact this,fun o=>h'.frozenAt o⟩
theorem zet (x:Int)(w:World):(Instr.typeAssert (.iface 3 (.int .i64 x)) 20 3 false).run Tryz.prog w=.ok (.int .i64 x) w:=by kernel_rfl
def QAt (base B:Nat)(l:List Int)(w:World):Prop:=∃a cap,Bl w B 82 #[.slice a l.length cap]/\w.ownsRow base 3 1 (.slice a l.length cap) l.length (intsV l)
theorem QAt.below {base B:Nat}{l:List Int}{w w':World}(h:QAt base B l w)(hb:Below w.heap.size w w'):QAt base B l w':=by
 obtain⟨a,cap,hB,hO⟩:=h;exact⟨a,cap,hB.below hb,zaa hO hb⟩
theorem QAt.lt {base B:Nat}{l:List Int}{w:World}(h:QAt base B l w):B<w.heap.size:=by
 obtain⟨a,cap,hB,hO⟩:=h;exact hB.lt
def PermQ (base B:Nat)(l:List Int)(w w':World):Prop:=∃l',QAt base B l' w'/\l'.Perm l/\Kp base B B 3 w w'
theorem PermQ.refl {base B:Nat}{l:List Int}{w:World}(h:QAt base B l w):PermQ base B l w w:=⟨l,h,List.Perm.refl _,Kp.of_below (Below.refl _ _)⟩
theorem PermQ.below {base B:Nat}{l:List Int}{w w1 w':World}(h:PermQ base B l w w1)(hb:Below w1.heap.size w1 w'):PermQ base B l w w':=by
 obtain⟨l',h1,h2,h3⟩:=h;exact⟨l',h1.below hb,h2,h3.trans (Kp.of_below hb)⟩
theorem PermQ.trans {base B:Nat}{l l1:List Int}{w w1 w':World}(hp:l1.Perm l)(hk:Kp base B B 3 w w1)(h:PermQ base B l1 w1 w'):PermQ base B l w w':=by
 obtain⟨l',h1,h2,h3⟩:=h;exact⟨l',h1,h2.trans hp,hk.trans h3⟩
theorem zf0 (l:List Int)(i:Nat)(x:Int):intsV (l.set i x)=(intsV l).set i (.int .i64 x):=by unfold intsV;rw[List.map_set]
theorem zeu {w:World}{g i j:Nat}{x y:Value}(hx:w.cell? ⟨g,i,none⟩=some x)(hy:w.cell? ⟨g,j,none⟩=some y):(w.setCell ⟨g,i,none⟩ y).cell? ⟨g,j,none⟩=some y:=by
 by_cases e:i=j
 ·subst e;exact World.cell?_setCell_same' _ _ _ (by rw[hx];rfl)
 ·rw[World.cell?_setCell_other _ _ _ _ (by intro h;injection h with _ h;exact e h)];exact hy
theorem PermQ.drew {base B:Nat}{l:List Int}{w w':World}(h:PermQ base B l w w'):PermQ base B l w w'.drew:=h.below ((Below.refl _ _).drew)
def QO (base B g cap:Nat)(m:List Int)(w W:World):Prop:=Bl W B 82 #[.slice (some ⟨g,0,none⟩) m.length cap]/\W.ownsRow base 3 1 (.slice (some ⟨g,0,none⟩) m.length cap) m.length (intsV m)/\Kp base B B 3 w W
theorem QO.below {base B g cap:Nat}{m:List Int}{w W W':World}(h:QO base B g cap m w W)(hb:Below W.heap.size W W'):QO base B g cap m w W':=⟨h.1.below hb,zaa h.2.1 hb,h.2.2.trans (Kp.of_below hb)⟩
theorem QO.bl {base B g cap:Nat}{m:List Int}{w W:World}(h:QO base B g cap m w W):Bl W B 82 #[.slice (some ⟨g,0,none⟩) m.length cap]:=h.1
theorem QO.cell {base B g cap:Nat}{m:List Int}{w W:World}(h:QO base B g cap m w W):W.cell? ⟨B,0,none⟩=some (.slice (some ⟨g,0,none⟩) m.length cap):=h.1.cell (o:=0) rfl
theorem QO.own {base B g cap:Nat}{m:List Int}{w W:World}(h:QO base B g cap m w W):W.ownsRow base 3 1 (.slice (some ⟨g,0,none⟩) m.length cap) m.length (intsV m):=h.2.1
theorem QO.kp {base B g cap:Nat}{m:List Int}{w W:World}(h:QO base B g cap m w W):Kp base B B 3 w W:=h.2.2
theorem QO.q {base B g cap:Nat}{m:List Int}{w W:World}(h:QO base B g cap m w W):QAt base B m W:=⟨_,cap,h.1,h.2.1⟩
theorem QO.open {base B:Nat}{m:List Int}{w W:World}(h:QAt base B m W)(hk:Kp base B B 3 w W)(hm:0<m.length):∃g cap,QO base B g cap m w W:=by
 obtain⟨a,cap,hB,hO⟩:=h;obtain⟨g,rfl,-⟩:=zan hO hm;exact⟨g,cap,hB,hO,hk⟩
end
section
open Go.RowKit
end
section
open Go.RowKit
theorem QAt.last {base B:Nat}{l:List Int}{w:World}(h:QAt base B l w)(h0:0<l.length):∃m x,l=m++[x]/\QAt base B (m++[x]) w:=by
 refine⟨l.dropLast,l.getLast (by intro e;rw[e] at h0;exact absurd h0 (Nat.lt_irrefl _)),?_,?_⟩
 ·rw[List.dropLast_concat_getLast]
 ·rw[List.dropLast_concat_getLast];exact h
end
section
open Go.RowKit
theorem zex {ns:List PN}:∀(rs:List PR) (b:Int),-1<=b->ordR ns rs b=true->∀(r:Nat) (x:PR),rs[r]?=some x->(b<=exL ns x.root/\exL ns x.root<x.root/\x.root<ns.length)/\∀i,b<i->(ownL rs i=r↔exL ns x.root<i/\i<=x.root)
 | [],_,_,_,r,x,h=>by simp at h
 |y::t,b,hb,ho,0,x,h=>by
  obtain⟨h1,h2,h3,h4⟩:=zdh ho;obtain rfl:y=x:=by simpa using h
  refine⟨⟨by omega,by omega,h2⟩,fun i hi=>?_⟩;by_cases hy:y.root<i
  ·rw[zb4 hy];omega
  ·rw[zch hy];omega
 |y::t,b,hb,ho,r+1,x,h=>by
  obtain⟨h1,h2,h3,h4⟩:=zdh ho;have hx:t[r]?=some x:=by simpa using h
  obtain⟨⟨g1,g2,g3⟩,g4⟩:=zex t y.root (by omega) h4 r x hx;refine⟨⟨by omega,g2,g3⟩,fun i hi=>?_⟩;by_cases hy:y.root<i
  ·rw[zb4 hy,<-g4 i hy];omega
  ·rw[zch hy];omega
theorem NodesAt.part {w:World}{xa:Option Addr}{xc:Nat}{xs:List PN}(h:NodesAt w (.slice xa xs.length xc) xs)(f i:Nat)(hf:f<=i)(hi:i<xs.length) :
  ∃b off,xa=some ⟨b,off,none⟩/\NodesAt w (.slice (some ⟨b,off+f*7,none⟩) (i+1-f) (xc-f)) ((xs.drop f).take (i+1-f)):=by
 obtain⟨hl,a,c,he,hx⟩:=h;injection he with h1 h2 h3;subst h1;rcases hx with h|⟨b,off,e,hx⟩
 ·rw[h] at hi;simp at hi
 ·have hlen:((xs.drop f).take (i+1-f)).length=i+1-f:=by rw[List.length_take,List.length_drop];omega
  refine⟨b,off,e,by omega,some ⟨b,off+f*7,none⟩,xc-f,by rw[hlen],.inr ⟨b,off+f*7,rfl,fun j n hn=>?_⟩⟩;have hj:j<i+1-f:=by have:=(List.getElem?_eq_some_iff.1 hn).1;omega
  rw[List.getElem?_take_of_lt hj,List.getElem?_drop] at hn;have:=hx (f+j) n hn;rw[show off+f*7+j*7=off+(f+j)*7 by omega];exact this
end
section
open Go.RowKit
def BolAt (m:Nat->Bool)(n B:Nat)(w:World):Prop:=∃cs,Bl w B 4 cs/\∀j,j<n->cs[j]?=some (.bool (m j))
theorem BolAt.below {m:Nat->Bool}{n B:Nat}{w w':World}(h:BolAt m n B w)(hb:Below w.heap.size w w'):BolAt m n B w':=by
 obtain⟨cs,h1,h2⟩:=h;exact⟨cs,h1.below hb,h2⟩
theorem BolAt.cell {m:Nat->Bool}{n B j:Nat}{w:World}(h:BolAt m n B w)(hj:j<n):w.cell? ⟨B,j,none⟩=some (.bool (m j)):=by
 obtain⟨cs,h1,h2⟩:=h;exact h1.cell (h2 j hj)
theorem BolAt.free {m:Nat->Bool}{n B:Nat}{w:World}(h:BolAt m n B w)(o:Nat):w.frozen? ⟨B,o,none⟩=false:=by
 obtain⟨cs,h1,h2⟩:=h;exact h1.free o
theorem BolAt.put {m:Nat->Bool}{n B k:Nat}{w:World}(h:BolAt m n B w)(hk:k<n):BolAt (ins m k) n B (w.setCell ⟨B,k,none⟩ (.bool true)):=by
 obtain⟨cs,h1,h2⟩:=h;refine⟨_,h1.set' _,fun j hj=>?_⟩;rw[Array.getElem?_setIfInBounds];unfold ins;by_cases e:k=j
 ·subst e
  have:=(Array.getElem?_eq_some_iff.1 (h2 k hk)).1;rw[if_pos rfl,if_pos this];simp
 ·rw[if_neg e,h2 j hj]
  have:(j == k)=false:=by simp;omega
  rw[this,Bool.or_false]
theorem BolAt.congr {m m':Nat->Bool}{n B:Nat}{w:World}(h:BolAt m n B w)(e:∀j,j<n->m j=m' j):BolAt m' n B w:=by
 obtain⟨cs,h1,h2⟩:=h;exact⟨cs,h1,fun j hj=>by rw[<-e j hj];exact h2 j hj⟩
def RQ (G M B Q n:Nat)(rv nv:Value)(m:Nat->Bool)(l:List Int)(w W:World):Prop:=
 Below w.heap.size w W/\Bl W G 25 #[rv,nv]/\Bl W M 58 #[.slice (some ⟨B,0,none⟩) n n]/\BolAt m n B W/\QAt w.heap.size Q l W/\w.heap.size<=B/\w.heap.size<=Q
section
variable {G M B Q n:Nat} {rv nv:Value} {m:Nat->Bool} {l:List Int} {w W W':World}
theorem RQ.lo (h:RQ G M B Q n rv nv m l w W):Below w.heap.size w W:=h.1
theorem RQ.g (h:RQ G M B Q n rv nv m l w W):Bl W G 25 #[rv,nv]:=h.2.1
theorem RQ.mk0 (h:RQ G M B Q n rv nv m l w W):Bl W M 58 #[.slice (some ⟨B,0,none⟩) n n]:=h.2.2.1
theorem RQ.b (h:RQ G M B Q n rv nv m l w W):BolAt m n B W:=h.2.2.2.1
theorem RQ.q (h:RQ G M B Q n rv nv m l w W):QAt w.heap.size Q l W:=h.2.2.2.2.1
theorem RQ.bq (h:RQ G M B Q n rv nv m l w W):w.heap.size<=Q:=h.2.2.2.2.2.2
theorem RQ.below (h:RQ G M B Q n rv nv m l w W)(hb:Below W.heap.size W W'):RQ G M B Q n rv nv m l w W':=
 ⟨h.1.trans (hb.mono h.1.size),h.g.below hb,h.mk0.below hb,h.b.below hb,h.q.below hb,h.2.2.2.2.2.1,h.bq⟩
theorem RQ.put {k:Nat}(h:RQ G M B Q n rv nv m l w W)(hk:k<n):RQ G M B Q n rv nv (ins m k) l w (W.setCell ⟨B,k,none⟩ (.bool true)):=by
 obtain⟨h1,h2,h3,h4,h5,h6,h7⟩:=h;obtain⟨cs,hB,-⟩:=id h4;obtain⟨a,c,hQ,hO⟩:=h5;exact⟨h1.setCell (p:=⟨B,k,none⟩) h6 _,h2.other (h2.ne hB (by decide)) _,h3.other (h3.ne hB (by decide)) _,h4.put hk,⟨a,c,hQ.other (hQ.ne hB (by decide)) _,ownsRow_setCell_other hO (a:=⟨B,k,none⟩) (za9 hO ⟨_,_,hB⟩ (by decide)) _⟩,h6,h7⟩
theorem RQ.turn {l':List Int}(h:RQ G M B Q n rv nv m l w W)(hk:Kp w.heap.size Q Q 3 W W')(hq:QAt w.heap.size Q l' W'):RQ G M B Q n rv nv m l' w W':=by
 obtain⟨h1,h2,h3,h4,h5,h6,h7⟩:=h;obtain⟨a,c,hQ,hO⟩:=h5;obtain⟨cs,hB,hc⟩:=h4;have hb:=hk.below h7 h7 h1.size;exact⟨h1.trans hb,hk.bl h2 (h2.ne hQ (by decide)) (h2.ne hQ (by decide)) (by decide),hk.bl h3 (h3.ne hQ (by decide)) (h3.ne hQ (by decide)) (by decide),⟨cs,hk.bl hB (hB.ne hQ (by decide)) (hB.ne hQ (by decide)) (by decide),hc⟩,hq,h6,h7⟩
end
end
section
open Go.RowKit
def Sound (E:Nat->Nat->Prop)(r0 n:Nat)(m:Nat->Bool)(l:List Int):Prop:=
 m r0=true/\(∀j,j<n->m j=true->Rch E r0 j)/\(∀x,x ∈ l->∃j:Nat,x=(j:Int)/\j<n/\m j=true)/\l.length<=cnt m n
def OutI (E:Nat->Nat->Prop)(r:Int)(n:Nat)(m:Nat->Bool)(l:List Int):Prop:=
 (¬(0<=r/\r<n)/\l=[]/\∀j,j<n->m j=false)∨(0<=r/\r<n/\Sound E r.toNat n m l/\∀j,j<n->m j=true->(j:Int) ∈ l∨∀b,E j b->m b=true)
def InI (E:Nat->Nat->Prop)(r0 n a:Nat)(P:Nat->Prop)(m:Nat->Bool)(l:List Int):Prop:=
 Sound E r0 n m l/\(∀j,j<n->m j=true->(j:Int) ∈ l∨j=a∨∀b,E j b->m b=true)/\m a=true/\∀b,P b->m b=true
def left7 (n:Nat)(m:Nat->Bool)(l:List Int):Nat:=2*(n-cnt m n)+l.length
theorem zby {m:Nat->Bool}{k j:Nat}(h:m j=true):ins m k j=true:=by unfold ins;rw[h];rfl
theorem zcf (m:Nat->Bool)(k:Nat):ins m k k=true:=by unfold ins;simp
theorem zfk {m:Nat->Bool}{k j:Nat}(h:ins m k j=true):m j=true∨j=k:=by
 unfold ins at h;rw[Bool.or_eq_true] at h;rcases h with h|h
 ·exact .inl h
 ·exact .inr (by simpa using h)
theorem zlh {m:Nat->Bool}{k n:Nat}(hk:k<n)(hm:m k=false):cnt m n<cnt (ins m k) n:=zk9 n (fun _ _ h=>zby h) ⟨k,hk,hm,zcf m k⟩
theorem Sound.add {E:Nat->Nat->Prop}{r0 n k:Nat}{m:Nat->Bool}{l l':List Int}(h:Sound E r0 n m l)(hk:k<n)(hm:m k=false)(hr:Rch E r0 k)(hp:l'.Perm (l++[(k:Int)])):Sound E r0 n (ins m k) l'/\left7 n (ins m k) l'<=left7 n m l:=by
 obtain⟨h1,h2,h3,h4⟩:=h;have hc:=zlh hk hm;have hl:=hp.length_eq;rw[List.length_append] at hl;have hle:=zmk (ins m k) n;refine⟨⟨zby h1,fun j hj hi=>?_,fun x hx=>?_,by simp at hl;omega⟩,by unfold left7;simp at hl;omega⟩
 ·rcases zfk hi with h|rfl
  ·exact h2 j hj h
  ·exact hr
 ·rcases List.mem_append.1 (hp.mem_iff.1 hx) with hx|hx
  ·obtain⟨j,e,hj,hm⟩:=h3 x hx
   exact⟨j,e,hj,zby hm⟩
  ·exact⟨k,by simpa using hx,hk,zcf m k⟩
theorem InI.add {E:Nat->Nat->Prop}{r0 n a k:Nat}{P P':Nat->Prop}{m:Nat->Bool}{l l':List Int}(h:InI E r0 n a P m l)(ha:a<n)(hk:k<n)(he:E a k)(hm:m k=false)(hp:l'.Perm (l++[(k:Int)]))(hP:∀b,P' b->P b∨b=k):InI E r0 n a P' (ins m k) l'/\left7 n (ins m k) l'<=left7 n m l:=by
 obtain⟨h1,h2,h3,h4⟩:=h;have hs:=h1.add hk hm (.call (h1.2.1 a ha h3) he) hp;refine⟨⟨hs.1,fun j hj hi=>?_,zby h3,fun b hb=>?_⟩,hs.2⟩
 ·rcases zfk hi with h|rfl
  ·rcases h2 j hj h with h|h|h
   ·exact .inl (hp.mem_iff.2 (List.mem_append_left _ h))
   ·exact .inr (.inl h)
   ·exact .inr (.inr fun b hb=>zby (h b hb))
  ·exact .inl (hp.mem_iff.2 (List.mem_append_right _ (by simp)))
 ·rcases hP b hb with h|rfl
  ·exact zby (h4 b h)
  ·exact zcf m b
theorem InI.same {E:Nat->Nat->Prop}{r0 n a:Nat}{P P':Nat->Prop}{m:Nat->Bool}{l:List Int}(h:InI E r0 n a P m l)(hP:∀b,P' b->P b∨m b=true):InI E r0 n a P' m l:=
 ⟨h.1,h.2.1,h.2.2.1,fun b hb=>by rcases hP b hb with h'|h';exact h.2.2.2 b h';exact h'⟩
theorem OutI.pop {E:Nat->Nat->Prop}{r:Int}{n:Nat}{m:Nat->Bool}{l l1:List Int}{x:Int}(h:OutI E r n m l)(hp:(l1++[x]).Perm l):∃a:Nat,x=(a:Int)/\a<n/\InI E r.toNat n a (fun _=>False) m l1/\left7 n m l1<left7 n m l:=by
 have hl:=hp.length_eq;rw[List.length_append] at hl;simp at hl;rcases h with⟨-,h,-⟩|⟨-,-,⟨h1,h2,h3,h4⟩,h5⟩
 ·rw[h] at hl;simp at hl
 ·obtain⟨a,e,ha,hm⟩:=h3 x (hp.mem_iff.1 (List.mem_append_right _ (by simp)))
  refine⟨a,e,ha,⟨⟨h1,h2,fun y hy=>h3 y (hp.mem_iff.1 (List.mem_append_left _ hy)),by omega⟩,fun j hj hmj=>?_,hm,fun _ h=>h.elim⟩,by unfold left7;omega⟩;rcases h5 j hj hmj with h|h
  ·rcases List.mem_append.1 (hp.mem_iff.2 h) with h|h
   ·exact .inl h
   ·have:(j:Int)=x:=by simpa using h
    exact .inr (.inl (by omega))
  ·exact .inr (.inr h)
theorem InI.out {E:Nat->Nat->Prop}{r:Int}{n a:Nat}{P:Nat->Prop}{m:Nat->Bool}{l:List Int}(h:InI E r.toNat n a P m l)(h0:0<=r)(h1:r<n)(hP:∀b,E a b->P b):OutI E r n m l:=by
 obtain⟨g1,g2,g3,g4⟩:=h;refine .inr ⟨h0,h1,g1,fun j hj hm=>?_⟩;rcases g2 j hj hm with h|rfl|h
 ·exact .inl h
 ·exact .inr fun b hb=>g4 b (hP b hb)
 ·exact .inr h
theorem OutI.done {rs:List PR}{ns:List PN}{r:Int}{m:Nat->Bool}(h:OutI (callE rs ns) r rs.length m [])(hE:∀a b,callE rs ns a b->b<rs.length):memb m rs.length=ze8 rs ns r:=by
 unfold ze8;rcases h with⟨h1,-,h2⟩|⟨h1,h2,⟨h3,h4,-,-⟩,h5⟩
 ·rw[if_neg h1]
  have:memb m rs.length=memb (fun _=>false) rs.length:=zgi h2;rw[this];unfold memb;simp
 ·rw[if_pos ⟨h1,h2⟩]
  refine zgi (zmw h3 (fun a b ha hm he=>?_) hE (by omega) h4);rcases h5 a ha hm with h|h
  ·simp at h
  ·exact h b he
def Done (ns:List PN)(f k:Nat)(b:Nat):Prop:=∃(t:Nat) (n:PN),t<k/\ns[f+t]?=some n/\n.op=2/\n.rule=(b:Int)
theorem Done.succ {ns:List PN}{f k b:Nat}{n:PN}(hn:ns[f+k]?=some n)(h:Done ns f (k+1) b):Done ns f k b∨(n.op=2/\n.rule=(b:Int)):=by
 obtain⟨t,n',h1,h2,h3,h4⟩:=h;by_cases e:t=k
 ·subst e
  rw[hn] at h2;obtain rfl:=Option.some.inj h2;exact .inr ⟨h3,h4⟩
 ·exact .inl ⟨t,n',by omega,h2,h3,h4⟩
theorem BolAt.grown {m:Nat->Bool}{n B base k:Nat}{v:Value}{xs:List Value}{w w1 w':World}(h:BolAt m n B w1)(ho:w.ownsRow base 3 1 v k xs)(hb:Below w.heap.size w w1)(hg:w1.grownBy w' v.ownBlock):BolAt m n B w':=by
 obtain⟨cs,h1,h2⟩:=h;exact⟨cs,h1.grown hg (fun g e=>by obtain⟨c,fz,hc⟩:=Lib.ownsRow_kind (zaa ho hb) g e;exact⟨c,3,fz,hc,by decide⟩),h2⟩
theorem OutI.len {E:Nat->Nat->Prop}{r:Int}{n:Nat}{m:Nat->Bool}{l:List Int}(h:OutI E r n m l):l.length<=n:=by
 have:=zmk m n;rcases h with⟨-,h,-⟩|⟨-,-,⟨-,-,-,h⟩,-⟩
 ·rw[h];exact Nat.zero_le _
 ·omega
theorem OutI.range {E:Nat->Nat->Prop}{r:Int}{n:Nat}{m:Nat->Bool}{l:List Int}(h:OutI E r n m l)(hl:0<l.length):0<=r/\r<n:=by
 rcases h with⟨-,h,-⟩|⟨h1,h2,-⟩
 ·rw[h] at hl;exact absurd hl (Nat.lt_irrefl _)
 ·exact⟨h1,h2⟩
end
section
open Go.RowKit
def RK (G B n:Nat)(rv nv:Value)(m:Nat->Bool)(w W:World):Prop:=Below w.heap.size w W/\Bl W G 25 #[rv,nv]/\BolAt m n B W/\w.heap.size<=B
section
variable {G B n:Nat} {rv nv:Value} {m:Nat->Bool} {w W W':World}
theorem RK.lo (h:RK G B n rv nv m w W):Below w.heap.size w W:=h.1
theorem RK.g (h:RK G B n rv nv m w W):Bl W G 25 #[rv,nv]:=h.2.1
theorem RK.b (h:RK G B n rv nv m w W):BolAt m n B W:=h.2.2.1
theorem RK.below (h:RK G B n rv nv m w W)(hb:Below W.heap.size W W'):RK G B n rv nv m w W':=⟨h.1.trans (hb.mono h.1.size),h.g.below hb,h.b.below hb,h.2.2.2⟩
theorem RK.put {k:Nat}(h:RK G B n rv nv m w W)(hk:k<n):RK G B n rv nv (ins m k) w (W.setCell ⟨B,k,none⟩ (.bool true)):=by
 obtain⟨h1,h2,h3,h4⟩:=h;obtain⟨cs,hB,-⟩:=id h3;exact⟨h1.setCell (p:=⟨B,k,none⟩) h4 _,h2.other (h2.ne hB (by decide)) _,h3.put hk,h4⟩
end
def InK (rs:List PR)(ns:List PN)(r0:Nat)(m0:Nat->Bool)(i:Nat)(m:Nat->Bool):Prop:=
 (∀j,j<rs.length->m j=true->Rch (callE rs ns) r0 j)/\(∀j,j<rs.length->m0 j=true->m j=true) /\
  ∀(t:Nat) (n:PN) (b:Nat),t<i->ns[t]?=some n->n.op=2->m0 (ownL rs (t:Int))=true->n.rule=(b:Int)->m b=true
theorem InK.mark {rs:List PR}{ns:List PN}{r0 i k:Nat}{m0 m:Nat->Bool}{n:PN}(h:InK rs ns r0 m0 i m)(hn:ns[i]?=some n)(ho:n.op=2)(hl:ownL rs (i:Int)<rs.length)(hm:m (ownL rs (i:Int))=true)(hk:n.rule=(k:Int)):InK rs ns r0 m0 (i+1) (ins m k):=by
 obtain⟨h1,h2,h3⟩:=h;refine⟨fun j hj hi=>?_,fun j hj h=>zby (h2 j hj h),fun t n' b ht hn' ho' hm' hb=>?_⟩
 ·rcases zfk hi with h|rfl
  ·exact h1 j hj h
  ·exact .call (h1 _ hl hm) ⟨i,n,hn,ho,rfl,hk⟩
 ·by_cases e:t=i
  ·subst e
   rw[hn] at hn';obtain rfl:=Option.some.inj hn';have:b=k:=by omega
   subst this;exact zcf m b
  ·exact zby (h3 t n' b (by omega) hn' ho' hm' hb)
def OutK (rs:List PR)(ns:List PN)(r0 k:Nat)(m:Nat->Bool):Prop:=
 m r0=true/\(∀j,j<rs.length->m j=true->Rch (callE rs ns) r0 j)/\((∀a b,a<rs.length->m a=true->callE rs ns a b->m b=true)∨k<cnt m rs.length)
theorem OutK.next {rs:List PR}{ns:List PN}{r0 k:Nat}{m m':Nat->Bool}(h:OutK rs ns r0 k m)(hE:∀a b,callE rs ns a b->b<rs.length)(hr:r0<rs.length)(hi:InK rs ns r0 m ns.length m'):OutK rs ns r0 (k+1) m':=by
 obtain⟨h1,h2,h3⟩:=h;obtain⟨g1,g2,g3⟩:=hi;exact⟨g2 r0 hr h1,g1,zs3 h1 hE hr g1 g2 (fun a b _ hm ⟨t,n,e1,e2,e3,e4⟩=>g3 t n b (List.getElem?_eq_some_iff.1 e1).1 e1 e2 (by rw[e3];exact hm) e4) h3⟩
theorem OutK.done {rs:List PR}{ns:List PN}{r0:Nat}{r:Int}{m:Nat->Bool}(h:OutK rs ns r0 rs.length m)(hE:∀a b,callE rs ns a b->b<rs.length)(hr:r0<rs.length)(e:r=(r0:Int)):memb m rs.length=ze8 rs ns r:=by
 subst e;obtain⟨h1,h2,h3⟩:=h;unfold ze8;rw[if_pos ⟨by omega,by omega⟩,show((r0:Int)).toNat=r0 by omega];exact zgi (zmw h1 (zvp h3) hE hr h2)
theorem OutK.first {rs:List PR}{ns:List PN}{r0:Nat}(hr:r0<rs.length):OutK rs ns r0 0 (ins (fun _=>false) r0):=by
 have hc:=zlh (m:=fun _=>false) hr rfl;refine⟨zcf _ _,fun j hj hm=>?_,.inr (by omega)⟩;rcases zfk hm with h|rfl
 ·cases h
 ·exact .here
end
end Go.Proofs.YthhppmehhdlmnaaGreatDoor
