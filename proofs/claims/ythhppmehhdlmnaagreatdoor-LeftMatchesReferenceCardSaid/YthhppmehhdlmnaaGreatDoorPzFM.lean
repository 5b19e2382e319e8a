/- Facts of nodes as plain lists: the table, steps, the least facts; that they are reached in time, and the invariant of a search that looks again at what has chan -/
import Derived.Test.YthhppmehhdlmnaaGreatDoorPzA
namespace Go.Proofs.YthhppmehhdlmnaaGreatDoor
structure Fc where
 nul:Bool
 eat:Bool
 fai:Bool
theorem Fc.eq_iff (f g:Fc):(f.nul=g.nul/\f.eat=g.eat/\f.fai=g.fai)↔f=g:=by cases f;cases g;simp
instance:DecidableEq Fc:=fun f g=>decidable_of_iff _ (Fc.eq_iff f g)
def fc0:Fc:=⟨false,false,false⟩
def Fc.ok (f:Fc):Bool:=f.nul || f.eat
def bleB (a b:Bool):Prop:=a=true->b=true
structure Fle (f g:Fc):Prop where
 nul:bleB f.nul g.nul
 eat:bleB f.eat g.eat
 fai:bleB f.fai g.fai
theorem bleB.refl (a:Bool):bleB a a:=id
theorem bleB.or {a b c d:Bool}(h:bleB a b)(k:bleB c d):bleB (a || c) (b || d):=by
 intro e;rw[Bool.or_eq_true] at e ⊢;exact e.imp h k
theorem bleB.and {a b c d:Bool}(h:bleB a b)(k:bleB c d):bleB (a&&c) (b&&d):=by
 intro e;rw[Bool.and_eq_true] at e ⊢;exact⟨h e.1,k e.2⟩
theorem Fle.refl (f:Fc):Fle f f:=⟨id,id,id⟩
theorem Fle.trans {f g h:Fc}(a:Fle f g)(b:Fle g h):Fle f h:=⟨fun e=>b.nul (a.nul e),fun e=>b.eat (a.eat e),fun e=>b.fai (a.fai e)⟩
theorem Fle.none (f:Fc):Fle fc0 f:=⟨(fun h=>by cases h),(fun h=>by cases h),(fun h=>by cases h)⟩
theorem Fle.okm {f g:Fc}(h:Fle f g):bleB f.ok g.ok:=h.nul.or h.eat
def atF (l:List Fc)(i:Int):Fc:=if i<0 then fc0 else (l[i.toNat]?).getD fc0
theorem zfi {l:List Fc}{i:Int}(h:i<0):atF l i=fc0:=by unfold atF;rw[if_pos h]
theorem zk3 (l:List Fc)(i:Nat):atF l (i:Int)=(l[i]?).getD fc0:=by unfold atF;rw[if_neg (by omega),Int.toNat_natCast]
theorem za6 {l:List Fc}{i:Nat}{x:Fc}(h:l[i]?=some x):atF l (i:Int)=x:=by rw[zk3,h];rfl
theorem zor {l:List Fc}{i:Int}(h:(l.length:Int)<=i):atF l i=fc0:=by
 obtain⟨k,rfl⟩:∃k:Nat,i=k:=⟨i.toNat,by omega⟩;rw[zk3,List.getElem?_eq_none (by omega)];rfl
def rootF (rs:List PR)(r:Int):Int:=if r<0 then -1 else match rs[r.toNat]? with
 |some x=>x.root
 |none=>-1
theorem zu9 {rs:List PR}{r:Int}(h:r<0):rootF rs r=-1:=by unfold rootF;rw[if_pos h]
theorem zva {rs:List PR}{r:Int}(h:(rs.length:Int)<=r):rootF rs r=-1:=by
 unfold rootF;rw[if_neg (by omega),List.getElem?_eq_none (by omega)]
theorem zcn {rs:List PR}{r:Nat}{x:PR}(h:rs[r]?=some x):rootF rs (r:Int)=x.root:=by
 unfold rootF;rw[if_neg (by omega),Int.toNat_natCast,h]
def seqS (s:Fc × Bool)(f:Fc):Fc × Bool:=(⟨s.1.nul&&f.nul,s.1.eat || f.eat,s.1.fai || (f.fai&&s.2)⟩,s.2&&f.ok)
def seqE (s:Fc × Bool):Fc:=⟨s.1.nul,s.1.eat&&s.2,s.1.fai⟩
def seqF (l:List Fc):Fc:=seqE (l.foldl seqS (⟨true,false,false⟩,true))
def choS (s f:Fc):Fc:=⟨s.nul || (f.nul&&s.fai),s.eat || (f.eat&&s.fai),s.fai&&f.fai⟩
def choF (l:List Fc):Fc:=l.foldl choS ⟨false,false,true⟩
def singF (op:Int)(f:Fc):Fc:=
 if op=5 then ⟨f.fai,f.eat,false⟩ else if op=6 then ⟨f.nul&&f.fai,f.eat,f.fai⟩ else if op=7 then ⟨f.nul || f.fai,f.eat,false⟩ else if op=8 then ⟨f.ok,false,f.fai⟩ else if op=9 then ⟨f.fai,false,f.ok⟩ else fc0
def zeroS (n:PN):Bool:=decide (n.s0=0/\n.s1=0/\n.s2=0/\n.s3=0)
def nodeF (rs:List PR)(n:PN)(l:List Fc):Fc:=
 if n.op=0 then ⟨true,false,false⟩ else if n.op=1 then ⟨false,!zeroS n,true⟩ else if n.op=2 then atF l (rootF rs n.rule) else if n.op=3 then seqF (n.kids.map (atF l)) else if n.op=4 then choF (n.kids.map (atF l)) else singF n.op (atF l (n.kids.headD (-1)))
def stepF (rs:List PR)(ns:List PN)(l:List Fc):List Fc:=ns.map fun n=>nodeF rs n l
theorem zba (rs:List PR)(ns:List PN)(l:List Fc):(stepF rs ns l).length=ns.length:=by unfold stepF;rw[List.length_map]
theorem zdy {rs:List PR}{ns:List PN}{l:List Fc}{i:Nat}{n:PN}(h:ns[i]?=some n):(stepF rs ns l)[i]?=some (nodeF rs n l):=by unfold stepF;rw[List.getElem?_map,h];rfl
theorem zqs:∀(l:List Fc) (s:Fc),s.nul=false->seqE (l.foldl seqS (s,false))=⟨false,false,s.fai⟩
 | [],s,h=>by show seqE (s,false)=_;unfold seqE;simp[h]
 |f::l,s,h=>by
  show seqE (l.foldl seqS (seqS (s,false) f))=_;have e:seqS (s,false) f=(⟨false,s.eat || f.eat,s.fai⟩,false):=by unfold seqS;simp[h]
  rw[e,zqs l _ rfl]
theorem zz6 {l:List Fc}{s f:Fc}(h:f.ok=false):seqE ((f::l).foldl seqS (s,true))=⟨false,false,s.fai || f.fai⟩:=by
 show seqE (l.foldl seqS (seqS (s,true) f))=_;have h1:f.nul=false:=by unfold Fc.ok at h;rw[Bool.or_eq_false_iff] at h;exact h.1
 have e:seqS (s,true) f=(⟨false,s.eat || f.eat,s.fai || f.fai⟩,false):=by unfold seqS;simp[h1,h]
 rw[e,zqs l _ rfl]
theorem z78 {l:List Fc}{s f:Fc}(h:f.ok=true):seqE ((f::l).foldl seqS (s,true))=seqE (l.foldl seqS (⟨s.nul&&f.nul,s.eat || f.eat,s.fai || f.fai⟩,true)):=by
 show seqE (l.foldl seqS (seqS (s,true) f))=_;have e:seqS (s,true) f=(⟨s.nul&&f.nul,s.eat || f.eat,s.fai || f.fai⟩,true):=by unfold seqS;simp[h]
 rw[e]
theorem z4v (s:Fc):seqE (([]:List Fc).foldl seqS (s,true))=s:=by show seqE (s,true)=_;unfold seqE;simp
theorem zqt:∀(l:List Fc) (s:Fc),s.fai=false->l.foldl choS s=s
 | [],s,h=>rfl
 |f::l,s,h=>by
  show l.foldl choS (choS s f)=_;have e:choS s f=s:=by cases s;simp at h;subst h;unfold choS;simp
  rw[e];exact zqt l s h
theorem zz7 {l:List Fc}{a b:Bool}{f:Fc}(h:f.fai=false):(f::l).foldl choS ⟨a,b,true⟩=⟨a || f.nul,b || f.eat,false⟩:=by
 show l.foldl choS (choS _ f)=_;have e:choS ⟨a,b,true⟩ f=⟨a || f.nul,b || f.eat,false⟩:=by unfold choS;simp[h]
 rw[e];exact zqt l _ rfl
theorem z79 {l:List Fc}{a b:Bool}{f:Fc}(h:f.fai=true):(f::l).foldl choS ⟨a,b,true⟩=l.foldl choS ⟨a || f.nul,b || f.eat,true⟩:=by
 show l.foldl choS (choS _ f)=_;have e:choS ⟨a,b,true⟩ f=⟨a || f.nul,b || f.eat,true⟩:=by unfold choS;simp[h]
 rw[e]
theorem zvb {s t:Fc × Bool}{f g:Fc}(h:Fle s.1 t.1)(k:bleB s.2 t.2)(e:Fle f g):Fle (seqS s f).1 (seqS t g).1/\bleB (seqS s f).2 (seqS t g).2:=
 ⟨⟨h.nul.and e.nul,h.eat.or e.eat,h.fai.or (e.fai.and k)⟩,k.and e.okm⟩
theorem zqu {p q:Int->Fc}:∀(ks:List Int),(∀k,k ∈ ks->Fle (p k) (q k))->∀(s t:Fc × Bool),Fle s.1 t.1->bleB s.2 t.2->Fle (seqE ((ks.map p).foldl seqS s)) (seqE ((ks.map q).foldl seqS t))
 | [],_,s,t,h,k=>⟨h.nul,h.eat.and k,h.fai⟩
 |x::ks,hk,s,t,h,k=>by
  have:=zvb h k (hk x (by simp));exact zqu ks (fun y hy=>hk y (by simp[hy])) _ _ this.1 this.2
theorem zqv {p q:Int->Fc}:∀(ks:List Int),(∀k,k ∈ ks->Fle (p k) (q k))->∀(s t:Fc),Fle s t->Fle ((ks.map p).foldl choS s) ((ks.map q).foldl choS t)
 | [],_,s,t,h=>h
 |x::ks,hk,s,t,h=>by
  have e:=hk x (by simp);exact zqv ks (fun y hy=>hk y (by simp[hy])) _ _ ⟨h.nul.or (e.nul.and h.fai),h.eat.or (e.eat.and h.fai),h.fai.and e.fai⟩
theorem zvc {op:Int}{f g:Fc}(h:Fle f g):Fle (singF op f) (singF op g):=by
 unfold singF;split
 ·exact⟨h.fai,h.eat,id⟩
 split
 ·exact⟨h.nul.and h.fai,h.eat,h.fai⟩
 split
 ·exact⟨h.nul.or h.fai,h.eat,id⟩
 split
 ·exact⟨h.okm,id,h.fai⟩
 split
 ·exact⟨h.fai,id,h.okm⟩
 ·exact Fle.refl _
theorem zvd {rs:List PR}{n:PN}{l m:List Fc}(h:∀i,Fle (atF l i) (atF m i)):Fle (nodeF rs n l) (nodeF rs n m):=by
 unfold nodeF;split
 ·exact Fle.refl _
 split
 ·exact Fle.refl _
 split
 ·exact h _
 split
 ·exact zqu n.kids (fun k _=>h k) _ _ (Fle.refl _) id
 split
 ·exact zqv n.kids (fun k _=>h k) _ _ (Fle.refl _)
 ·exact zvc (h _)
def LeL:List Fc->List Fc->Prop
 | [],[]=>True
 |f::l,g::m=>Fle f g/\LeL l m
 |_,_=>False
theorem LeL.refl:∀l:List Fc,LeL l l
 | []=>trivial
 |f::l=>⟨Fle.refl f,LeL.refl l⟩
theorem LeL.len:∀ {l m:List Fc},LeL l m->l.length=m.length
 | [],[],_=>rfl
 |f::l,g::m,h=>by simp[LeL.len h.2]
 | [],_::_,h=>h.elim
 |_::_,[],h=>h.elim
theorem LeL.get:∀ {l m:List Fc},LeL l m->∀ {i:Nat} {x y:Fc},l[i]?=some x->m[i]?=some y->Fle x y
 | [],[],_,i,x,y,h,_=>by simp at h
 |f::l,g::m,hl,0,x,y,h,k=>by
  simp at h k;subst h;subst k;exact hl.1
 |f::l,g::m,hl,i+1,x,y,h,k=>LeL.get hl.2 (i:=i) (by simpa using h) (by simpa using k)
 | [],_::_,h,_,_,_,_,_=>h.elim
 |_::_,[],h,_,_,_,_,_=>h.elim
theorem LeL.of:∀ {l m:List Fc},l.length=m.length->(∀(i:Nat) (x y:Fc),l[i]?=some x->m[i]?=some y->Fle x y)->LeL l m
 | [],[],_,_=>trivial
 |f::l,g::m,hl,h=>⟨h 0 f g rfl rfl,LeL.of (by simpa using hl) fun i x y hx hy=>h (i+1) x y (by simpa using hx) (by simpa using hy)⟩
 | [],_::_,h,_=>by simp at h
 |_::_,[],h,_=>by simp at h
theorem LeL.at {l m:List Fc}(h:LeL l m)(i:Int):Fle (atF l i) (atF m i):=by
 by_cases hi:i<0
 ·rw[zfi hi];exact Fle.none _
 ·obtain⟨k,rfl⟩:∃k:Nat,i=k:=⟨i.toNat,by omega⟩
  rcases Nat.lt_or_ge k l.length with hk|hk
  ·obtain⟨x,hx⟩:∃x,l[k]?=some x:=⟨_,List.getElem?_eq_getElem hk⟩
   obtain⟨y,hy⟩:∃y,m[k]?=some y:=⟨_,List.getElem?_eq_getElem (by rw[<-h.len];exact hk)⟩;rw[za6 hx,za6 hy];exact h.get hx hy
  ·rw[zor (by omega)];exact Fle.none _
theorem LeL.trans {l m k:List Fc}(a:LeL l m)(b:LeL m k):LeL l k:=by
 refine LeL.of (a.len.trans b.len) fun i x y hx hy=>?_
 obtain⟨z,hz⟩:∃z,m[i]?=some z:=⟨_,List.getElem?_eq_getElem (by rw[<-a.len];exact(List.getElem?_eq_some_iff.1 hx).1)⟩;exact(a.get hx hz).trans (b.get hz hy)
theorem zfw {rs:List PR}{ns:List PN}{l m:List Fc}(h:LeL l m):LeL (stepF rs ns l) (stepF rs ns m):=by
 refine LeL.of (by rw[zba,zba]) fun i x y hx hy=>?_
 obtain⟨n,hn⟩:∃n,ns[i]?=some n:=⟨_,List.getElem?_eq_getElem (by rw[<-zba rs ns l];exact(List.getElem?_eq_some_iff.1 hx).1)⟩;rw[zdy hn] at hx hy;obtain rfl:=Option.some.inj hx;obtain rfl:=Option.some.inj hy;exact zvd h.at
def cntF (f:Fc):Nat:=f.nul.toNat+f.eat.toNat+f.fai.toNat
def cntL:List Fc->Nat
 | []=>0
 |f::l=>cntF f+cntL l
theorem z4w (f:Fc):cntF f<=3:=by cases f with|mk a b c=>cases a<;>cases b<;>cases c<;>decide
theorem zos:∀l:List Fc,cntL l<=3*l.length
 | []=>Nat.le_refl _
 |f::l=>by have:=z4w f;have:=zos l;show cntF f+cntL l<=3*(l.length+1);omega
theorem zve {f g:Fc}(h:Fle f g):cntF f<=cntF g/\(f≠g->cntF f<cntF g):=by
 obtain⟨h1,h2,h3⟩:=h;cases f with|mk a b c=>cases g with|mk x y z=>
 unfold bleB at h1 h2 h3;cases a<;>cases b<;>cases c<;>cases x<;>cases y<;>cases z<;>simp_all [cntF]
theorem zdj:∀ {l m:List Fc},LeL l m->cntL l<=cntL m/\(l≠m->cntL l<cntL m)
 | [],[],_=>⟨Nat.le_refl _,fun h=>absurd rfl h⟩
 |f::l,g::m,h=>by
  have h1:=zve h.1;have h2:=zdj h.2;refine⟨by show cntF f+cntL l<=cntF g+cntL m;omega,fun hn=>?_⟩;show cntF f+cntL l<cntF g+cntL m;by_cases e:f=g
  ·have:l≠m:=fun e2=>hn (by rw[e,e2])
   have:=h2.2 this;omega
  ·have:=h1.2 e;omega
 | [],_::_,h=>h.elim
 |_::_,[],h=>h.elim
theorem LeL.antisymm {l m:List Fc}(h:LeL l m)(k:LeL m l):l=m:=by
 by_cases e:l=m
 ·exact e
 ·have h1:=(zdj h).2 e
  have h2:=(zdj k).1;omega
def itrF (rs:List PR)(ns:List PN):Nat->List Fc
 |0=>List.replicate ns.length fc0
 |k+1=>stepF rs ns (itrF rs ns k)
theorem zca (rs:List PR)(ns:List PN):∀k,(itrF rs ns k).length=ns.length
 |0=>by show(List.replicate _ _).length=_;rw[List.length_replicate]
 |k+1=>zba _ _ _
theorem zero_le {l:List Fc}{n:Nat}(h:l.length=n):LeL (List.replicate n fc0) l:=by
 refine LeL.of (by rw[List.length_replicate,h]) fun i x y hx hy=>?_
 rw[List.getElem?_replicate] at hx;split at hx
 ·obtain rfl:=Option.some.inj hx;exact Fle.none _
 ·cases hx
theorem zot (rs:List PR)(ns:List PN):∀k,LeL (itrF rs ns k) (itrF rs ns (k+1))
 |0=>zero_le (zca rs ns 1)
 |k+1=>zfw (zot rs ns k)
theorem zmq {rs:List PR}{ns:List PN}{k:Nat}(h:itrF rs ns (k+1)=itrF rs ns k):∀j,itrF rs ns (k+j)=itrF rs ns k
 |0=>rfl
 |j+1=>by
  show stepF rs ns (itrF rs ns (k+j))=_;rw[zmq h j];exact h
theorem zqw {rs:List PR}{ns:List PN}:∀ {k:Nat},itrF rs ns (k+1)≠itrF rs ns k->k+1<=cntL (itrF rs ns (k+1))
 |0,h=>by have:=(zdj (zot rs ns 0)).2 (Ne.symm h);omega
 |k+1,h=>by
  have h1:itrF rs ns (k+1)≠itrF rs ns k:=fun e=>h (congrArg (stepF rs ns) e)
  have h2:=zqw h1;have:=(zdj (zot rs ns (k+1))).2 (Ne.symm h);omega
def lfp (rs:List PR)(ns:List PN):List Fc:=itrF rs ns (3*ns.length)
theorem zmr {rs:List PR}{ns:List PN}{k:Nat}(h:itrF rs ns (k+1)≠itrF rs ns k):k<3*ns.length:=by
 have h1:=zqw h;have h2:=zos (itrF rs ns (k+1));rw[zca] at h2;omega
theorem za7 (rs:List PR)(ns:List PN):(lfp rs ns).length=ns.length:=zca _ _ _
theorem z4x (rs:List PR)(ns:List PN):stepF rs ns (lfp rs ns)=lfp rs ns:=by
 by_cases h:itrF rs ns (3*ns.length+1)=itrF rs ns (3*ns.length)
 ·exact h
 ·exact absurd (zmr h) (Nat.lt_irrefl _)
theorem z8a {rs:List PR}{ns:List PN}{k:Nat}(h:itrF rs ns (k+1)=itrF rs ns k)(hk:k<=3*ns.length):itrF rs ns k=lfp rs ns:=by
 have:=zmq h (3*ns.length-k);rw[show k+(3*ns.length-k)=3*ns.length by omega] at this;exact this.symm
theorem zje {rs:List PR}{ns:List PN}{l:List Fc}(hl:l.length=ns.length)(h:LeL (stepF rs ns l) l):∀k,LeL (itrF rs ns k) l
 |0=>zero_le hl
 |k+1=>(zfw (zje hl h k)).trans h
theorem zvf {rs:List PR}{ns:List PN}{l:List Fc}(hl:l.length=ns.length)(h:LeL (stepF rs ns l) l):LeL (lfp rs ns) l:=zje hl h _
def Dep (rs:List PR)(n:PN)(i:Nat):Prop:=(n.op=2/\rootF rs n.rule=(i:Int))∨(i:Int) ∈ n.kids
theorem zvg {rs:List PR}{n:PN}{l m:List Fc}{i:Nat}(h:∀k:Int,k≠(i:Int)->atF l k=atF m k)(hd:¬Dep rs n i):nodeF rs n l=nodeF rs n m:=by
 have hk:∀k,k ∈ n.kids->atF l k=atF m k:=fun k hk=>h k fun e=>hd (.inr (e ▸ hk))
 have hm:n.kids.map (atF l)=n.kids.map (atF m):=List.map_congr_left hk;unfold nodeF;split
 ·rfl
 split
 ·rfl
 split
 ·rename_i _ _ h2
  exact h _ fun e=>hd (.inl ⟨h2,e⟩)
 split
 ·rw[hm]
 split
 ·rw[hm]
 ·congr 1
  cases hkids:n.kids with
  |nil=>show atF l (-1)=atF m (-1);rw[zfi (by omega),zfi (by omega)]
  |cons k ks=>exact hk k (by rw[hkids];simp)
structure FInv (rs:List PR) (ns:List PN) (F:List Fc) (held:Nat->Bool):Prop where
 low:LeL F (lfp rs ns)
 up:LeL F (stepF rs ns F)
 done:∀i n,ns[i]?=some n->held i=false->F[i]?=some (nodeF rs n F)
theorem FInv.start (rs:List PR)(ns:List PN){held:Nat->Bool}(h:∀i,i<ns.length->held i=true):FInv rs ns (List.replicate ns.length fc0) held:=
 ⟨zero_le (za7 _ _),zero_le (zba _ _ _),fun i n hn hh=>by rw[h i (List.getElem?_eq_some_iff.1 hn).1] at hh;cases hh⟩
theorem FInv.len {rs:List PR}{ns:List PN}{F:List Fc}{held:Nat->Bool}(h:FInv rs ns F held):F.length=ns.length:=by rw[h.up.len,zba]
theorem FInv.over {rs:List PR}{ns:List PN}{F:List Fc}{held:Nat->Bool}(h:FInv rs ns F held)(hh:∀i,i<ns.length->held i=false):F=lfp rs ns:=by
 refine h.low.antisymm (zvf h.len (LeL.of (by rw[zba,h.len]) fun i x y hx hy=>?_));have hi:i<ns.length:=by rw[<-zba rs ns F];exact(List.getElem?_eq_some_iff.1 hx).1
 obtain⟨n,hn⟩:∃n,ns[i]?=some n:=⟨_,List.getElem?_eq_getElem hi⟩;rw[zdy hn] at hx;rw[h.done i n hn (hh i hi)] at hy;obtain rfl:=Option.some.inj hx;obtain rfl:=Option.some.inj hy;exact Fle.refl _
theorem FInv.same {rs:List PR}{ns:List PN}{F:List Fc}{held:Nat->Bool}{i:Nat}{n:PN}(h:FInv rs ns F held)(hn:ns[i]?=some n)(he:nodeF rs n F=atF F i):FInv rs ns F (fun j=>held j&&decide (j≠i)):=by
 refine⟨h.low,h.up,fun j m hm hj=>?_⟩;by_cases e:j=i
 ·subst e
  rw[hn] at hm;obtain rfl:=Option.some.inj hm;obtain⟨x,hx⟩:∃x,F[j]?=some x:=⟨_,List.getElem?_eq_getElem (by rw[h.len];exact(List.getElem?_eq_some_iff.1 hn).1)⟩;rw[he,za6 hx];exact hx
 ·refine h.done j m hm ?_
  rw[decide_eq_true e,Bool.and_true] at hj;exact hj
theorem zsu {l:List Fc}{i:Nat}{x:Fc}{k:Int}(h:k≠(i:Int)):atF (l.set i x) k=atF l k:=by
 by_cases hk:k<0
 ·rw[zfi hk,zfi hk]
 ·obtain⟨j,rfl⟩:∃j:Nat,k=j:=⟨k.toNat,by omega⟩
  rw[zk3,zk3,List.getElem?_set_ne (by omega)]
theorem FInv.new {rs:List PR}{ns:List PN}{F:List Fc}{held held':Nat->Bool}{i:Nat}{n:PN}(h:FInv rs ns F held)(hn:ns[i]?=some n)
  (hh:∀j m,ns[j]?=some m->held' j=false->(j=i∨held j=false)/\¬Dep rs m i):FInv rs ns (F.set i (nodeF rs n F)) held':=by
 have hi:i<ns.length:=(List.getElem?_eq_some_iff.1 hn).1;have hF:i<F.length:=by rw[h.len];exact hi
 have hup:LeL F (F.set i (nodeF rs n F)):=by
  refine LeL.of (by rw[List.length_set]) fun j x y hx hy=>?_
  by_cases e:i=j
  ·subst e
   rw[List.getElem?_set_self hF] at hy;obtain rfl:=Option.some.inj hy;exact h.up.get hx (zdy hn)
  ·rw[List.getElem?_set_ne e,hx] at hy
   obtain rfl:=Option.some.inj hy;exact Fle.refl _
 have hst:=zfw (rs:=rs) (ns:=ns) hup;refine⟨LeL.of (by rw[List.length_set,h.len,za7]) fun j x y hx hy=>?_,LeL.of (by rw[List.length_set,h.len,zba]) fun j x y hx hy=>?_,fun j m hm hj=>?_⟩
 ·by_cases e:i=j
  ·subst e
   rw[List.getElem?_set_self hF] at hx;obtain rfl:=Option.some.inj hx;have:=zfw (rs:=rs) (ns:=ns) h.low;rw[z4x] at this;exact this.get (zdy hn) hy
  ·rw[List.getElem?_set_ne e] at hx
   exact h.low.get hx hy
 ·by_cases e:i=j
  ·subst e
   rw[List.getElem?_set_self hF] at hx;obtain rfl:=Option.some.inj hx;exact hst.get (zdy hn) hy
  ·rw[List.getElem?_set_ne e] at hx
   exact(h.up.trans hst).get hx hy
 ·obtain⟨h1,h2⟩:=hh j m hm hj
  have hsame:nodeF rs m F=nodeF rs m (F.set i (nodeF rs n F)):=zvg (i:=i) (fun k hk=>(zsu hk).symm) h2;rw[<-hsame];by_cases e:i=j
  ·subst e
   rw[hn] at hm;obtain rfl:=Option.some.inj hm;exact List.getElem?_set_self hF
  ·rw[List.getElem?_set_ne e]
   rcases h1 with h1|h1
   ·exact absurd h1.symm e
   ·exact h.done j m hm h1
theorem z4y {rs:List PR}{ns:List PN}{F:List Fc}{held:Nat->Bool}{i:Nat}{n:PN}(h:FInv rs ns F held)(hn:ns[i]?=some n)(hne:nodeF rs n F≠atF F i):cntL F<cntL (F.set i (nodeF rs n F)):=by
 have hF:i<F.length:=by rw[h.len];exact(List.getElem?_eq_some_iff.1 hn).1
 have hup:LeL F (F.set i (nodeF rs n F)):=by
  refine LeL.of (by rw[List.length_set]) fun j x y hx hy=>?_
  by_cases e:i=j
  ·subst e
   rw[List.getElem?_set_self hF] at hy;obtain rfl:=Option.some.inj hy;exact h.up.get hx (zdy hn)
  ·rw[List.getElem?_set_ne e,hx] at hy
   obtain rfl:=Option.some.inj hy;exact Fle.refl _
 refine(zdj hup).2 fun e=>hne ?_
 have:(F.set i (nodeF rs n F))[i]?=some (nodeF rs n F):=List.getElem?_set_self hF;rw[<-e] at this;rw[za6 this]
section
variable (need:Nat->List Nat) (loop:Nat->Bool)
def itG:Nat->Nat->Bool
 |0,_=>false
 |k+1,i=>(need i).all (itG k) && !loop i
def WfG (i:Nat):Prop:=∃k,itG need loop k i=true
inductive RchG:Nat->Nat->Prop
 |one {i j:Nat}:j ∈ need i->RchG i j
 |more {i j k:Nat}:j ∈ need i->RchG j k->RchG i k
end
section
variable {need:Nat->List Nat} {loop:Nat->Bool}
theorem zc5 {k i:Nat}:itG need loop (k+1) i=true↔(∀j,j ∈ need i->itG need loop k j=true)/\loop i=false:=by
 show((need i).all (itG need loop k) && !loop i)=true↔_;rw[Bool.and_eq_true,List.all_eq_true,Bool.not_eq_true']
theorem zjf:∀(k i:Nat),itG need loop k i=true->itG need loop (k+1) i=true
 |0,_,h=>by cases h
 |k+1,i,h=>by
  rw[zc5] at h ⊢;exact⟨fun j hj=>zjf k j (h.1 j hj),h.2⟩
theorem zqx {k m i:Nat}(hm:k<=m)(h:itG need loop k i=true):itG need loop m i=true:=by
 obtain⟨d,rfl⟩:=Nat.le.dest hm
 induction d with
 |zero=>exact h
 |succ d ih=>exact zjf _ _ (ih (by omega))
theorem WfG.iff {i:Nat}:WfG need loop i↔(∀j,j ∈ need i->WfG need loop j)/\loop i=false:=by
 constructor
 ·rintro⟨k,h⟩
  cases k with
  |zero=>cases h
  |succ k=>
   rw[zc5] at h;exact⟨fun j hj=>⟨k,h.1 j hj⟩,h.2⟩
 ·rintro⟨h,hl⟩
  have:∀(l:List Nat),(∀j,j ∈ l->WfG need loop j)->∃k,∀j,j ∈ l->itG need loop k j=true:=by
   intro l
   induction l with
   |nil=>exact fun _=>⟨0,fun j hj=>by cases hj⟩
   |cons x l ih=>
    intro hx;obtain⟨k,hk⟩:=ih fun j hj=>hx j (List.mem_cons_of_mem _ hj)
    obtain⟨m,hm⟩:=hx x (List.mem_cons_self ..);refine⟨k+m,fun j hj=>?_⟩;rcases List.mem_cons.1 hj with rfl|hj
    ·exact zqx (by omega) hm
    ·exact zqx (by omega) (hk j hj)
  obtain⟨k,hk⟩:=this (need i) h;exact⟨k+1,zc5.2 ⟨hk,hl⟩⟩
theorem RchG.trans {i j k:Nat}(h:RchG need i j)(g:RchG need j k):RchG need i k:=by
 induction h with
 |one h=>exact .more h g
 |more h _ ih=>exact .more h (ih g)
theorem RchG.wf {i j:Nat}(h:RchG need i j)(hi:WfG need loop i):WfG need loop j:=by
 induction h with
 |one h=>exact(WfG.iff.1 hi).1 _ h
 |more h _ ih=>exact ih ((WfG.iff.1 hi).1 _ h)
theorem z4z {i j:Nat}(h:RchG need i j):∀ {k:Nat},itG need loop (k+1) i=true->itG need loop k j=true:=by
 induction h with
 |one h=>intro k hk;exact(zc5.1 hk).1 _ h
 |more h _ ih=>
  intro k hk;have h1:=(zc5.1 hk).1 _ h;exact ih (zjf _ _ h1)
theorem WfG.no_cycle {i:Nat}(hi:WfG need loop i):¬RchG need i i:=by
 intro h;obtain⟨k,hk⟩:=hi;have:∀k,itG need loop k i=true->False:=by
  intro k
  induction k with
  |zero=>intro h;cases h
  |succ k ih=>intro hk;exact ih (z4z h hk)
 exact this k hk
open Classical in
theorem RchG.closed {l:List Nat}(hc:∀x,x ∈ l->∀j,j ∈ need x->j ∈ l){i j:Nat}(h:RchG need i j)(hi:i ∈ l):j ∈ l:=by
 induction h with
 |one h=>exact hc _ hi _ h
 |more h _ ih=>exact ih (hc _ hi _ h)
theorem z9u {need':Nat->List Nat}{loop':Nat->Bool}{n:Nat}(hN:∀i,i<n->∀j,j ∈ need i->j<n)(h:∀i,i<n->need' i=need i/\loop' i=loop i):∀(k i:Nat),i<n->itG need' loop' k i=itG need loop k i
 |0,_,_=>rfl
 |k+1,i,hi=>by
  show((need' i).all (itG need' loop' k) && !loop' i)=((need i).all (itG need loop k) && !loop i);rw[(h i hi).1,(h i hi).2];congr 1;rw[Bool.eq_iff_iff,List.all_eq_true,List.all_eq_true];exact⟨fun g j hj=>by rw[<-z9u hN h k j (hN i hi j hj)];exact g j hj,fun g j hj=>by rw[z9u hN h k j (hN i hi j hj)];exact g j hj⟩
theorem WfG.same {need':Nat->List Nat}{loop':Nat->Bool}{n:Nat}(hN:∀i,i<n->∀j,j ∈ need i->j<n)(h:∀i,i<n->need' i=need i/\loop' i=loop i){i:Nat}(hi:i<n):WfG need' loop' i↔WfG need loop i:=
 ⟨fun⟨k,hk⟩=>⟨k,by rw[<-z9u hN h k i hi];exact hk⟩,fun⟨k,hk⟩=>⟨k,by rw[z9u hN h k i hi];exact hk⟩⟩
theorem WfG.least {n:Nat}(hN:∀i,i<n->∀j,j ∈ need i->j<n){ok:Nat->Prop}(h:∀i,i<n->(∀j,j ∈ need i->ok j)->loop i=false->ok i){i:Nat}(hi:i<n)(hw:WfG need loop i):ok i:=by
 obtain⟨k,hk⟩:=hw
 induction k generalizing i with
 |zero=>cases hk
 |succ k ih=>
  rw[zc5] at hk;exact h i hi (fun j hj=>ih (hN i hi j hj) (hk.1 j hj)) hk.2
end
theorem zce:∀(n:Nat) (c:List Nat),c.Nodup->(∀x,x ∈ c->x<n)->c.length<=n
 |0,[],_,_=>Nat.le_refl _
 |0,x::_,_,h=>absurd (h x (List.mem_cons_self ..)) (Nat.not_lt_zero _)
 |n+1,c,hc,h=>by
  have h1:=zce n (c.erase n) (hc.erase n) fun x hx=>by
   have h2:=(hc.mem_erase_iff).1 hx;have:=h x h2.2;omega
  by_cases hm:n ∈ c
  ·rw[List.length_erase_of_mem hm] at h1;omega
  ·rw[List.erase_of_not_mem hm] at h1;omega
def addN (s:List Nat)(j:Nat):List Nat:=if j ∈ s then s else s++[j]
theorem zf4 {s:List Nat}{j x:Nat}:x ∈ addN s j↔x ∈ s∨x=j:=by
 unfold addN;split
 ·rename_i h
  exact⟨.inl,fun e=>e.elim id (fun e=>e ▸ h)⟩
 ·rw[List.mem_append,List.mem_singleton]
theorem z0m (s:List Nat)(j:Nat):∃c,addN s j=s++c:=by
 unfold addN;split
 ·exact⟨[],(List.append_nil _).symm⟩
 ·exact⟨[j],rfl⟩
def FromB (need:Nat->List Nat)(b:List Nat)(x:Nat):Prop:=x ∈ b∨∃y,y ∈ b/\RchG need y x
theorem FromB.next {need:Nat->List Nat}{b:List Nat}{x j:Nat}(h:FromB need b x)(hj:j ∈ need x):FromB need b j:=by
 rcases h with h|⟨y,hy,h⟩
 ·exact .inr ⟨x,h,.one hj⟩
 ·exact .inr ⟨y,hy,h.trans (.one hj)⟩
structure SeenG (need:Nat->List Nat) (n:Nat) (b s:List Nat) (k m:Nat):Prop where
 ex:∃c,s=b++c/\c.Nodup/\∀x,x ∈ c->x ∉ b
 lt:∀x,x ∈ s->x<n
 rch:∀x,x ∈ s->FromB need b x
 cl:∀(i x:Nat),i<k->s[i]?=some x->∀j,j ∈ need x->j ∈ s
 now:∀x,s[k]?=some x->∀j,j ∈ (need x).take m->j ∈ s
theorem SeenG.start {need:Nat->List Nat}{n:Nat}{b:List Nat}(h:∀x,x ∈ b->x<n):SeenG need n b b 0 0:=
 ⟨⟨[],(List.append_nil _).symm,List.nodup_nil,fun _ h=>by cases h⟩,h,fun _ hx=>.inl hx,fun i _ hi=>by omega,fun x _ j hj=>by simp at hj⟩
theorem SeenG.len {need:Nat->List Nat}{n:Nat}{b s:List Nat}{k m:Nat}(h:SeenG need n b s k m):s.length<=b.length+n:=by
 obtain⟨c,rfl,hc,-⟩:=h.ex;have:=zce n c hc fun x hx=>h.lt x (List.mem_append_right _ hx)
 rw[List.length_append];omega
theorem SeenG.add {need:Nat->List Nat}{n:Nat}{b s:List Nat}{k m x j:Nat}(h:SeenG need n b s k m)(hN:∀i,i<n->∀j,j ∈ need i->j<n)(hx:s[k]?=some x)(hj:(need x)[m]?=some j):SeenG need n b (addN s j) k (m+1):=by
 have hk:=(List.getElem?_eq_some_iff.1 hx).1;have hxs:=List.mem_of_getElem? hx;have hjm:=List.mem_of_getElem? hj;obtain⟨c,hc⟩:=z0m s j;have hat:∀i,i<s.length->(addN s j)[i]?=s[i]?:=fun i hi=>by rw[hc,List.getElem?_append_left hi]
 refine⟨?_,fun y hy=>?_,fun y hy=>?_,fun i y hi hy z hz=>?_,fun y hy z hz=>?_⟩
 ·obtain⟨c,rfl,h1,h2⟩:=h.ex
  unfold addN;split
  ·exact⟨c,rfl,h1,h2⟩
  ·rename_i hn
   rw[List.mem_append,not_or] at hn;refine⟨c++[j],by rw[List.append_assoc],?_,fun y hy=>?_⟩
   ·rw[List.nodup_append]
    refine⟨h1,by simp,fun a ha b hb=>?_⟩;obtain rfl:=List.mem_singleton.1 hb;exact fun e=>hn.2 (e ▸ ha)
   ·rcases List.mem_append.1 hy with hy|hy
    ·exact h2 y hy
    ·obtain rfl:=List.mem_singleton.1 hy;exact hn.1
 ·rcases zf4.1 hy with hy|rfl
  ·exact h.lt y hy
  ·exact hN x (h.lt x hxs) _ hjm
 ·rcases zf4.1 hy with hy|rfl
  ·exact h.rch y hy
  ·exact(h.rch x hxs).next hjm
 ·rw[hat i (by omega)] at hy
  exact zf4.2 (.inl (h.cl i y hi hy z hz))
 ·rw[hat k hk,hx] at hy
  obtain rfl:=Option.some.inj hy;rw[List.take_add_one,hj,List.mem_append] at hz;rcases hz with hz|hz
  ·exact zf4.2 (.inl (h.now x hx z hz))
  ·exact zf4.2 (.inr (by simpa using hz))
theorem SeenG.step {need:Nat->List Nat}{n:Nat}{b s:List Nat}{k m x:Nat}(h:SeenG need n b s k m)(hx:s[k]?=some x)(hm:(need x).length<=m):SeenG need n b s (k+1) 0:=by
 refine⟨h.ex,h.lt,h.rch,fun i y hi hy z hz=>?_,fun y _ j hj=>by simp at hj⟩;by_cases e:i=k
 ·subst e
  rw[hx] at hy;obtain rfl:=Option.some.inj hy;exact h.now x hx z (by rw[List.take_of_length_le hm];exact hz)
 ·exact h.cl i y (by omega) hy z hz
theorem SeenG.over {need:Nat->List Nat}{n:Nat}{b s:List Nat}{k m:Nat}(h:SeenG need n b s k m)(hk:s.length<=k)(x:Nat):x ∈ s↔FromB need b x:=by
 refine⟨h.rch x,fun hx=>?_⟩;have hcl:∀y,y ∈ s->∀j,j ∈ need y->j ∈ s:=fun y hy j hj=>by
  obtain⟨i,hi,e⟩:=List.mem_iff_getElem.1 hy;exact h.cl i y (by omega) (by rw[List.getElem?_eq_getElem hi,e]) j hj
 have hb:∀y,y ∈ b->y ∈ s:=fun y hy=>by
  obtain⟨c,rfl,-⟩:=h.ex;exact List.mem_append_left _ hy
 rcases hx with hx|⟨y,hy,hr⟩
 ·exact hb x hx
 ·exact hr.closed hcl (hb y hy)
theorem zjn (U:Nat->List Int)(v:Int)(g:Nat->Nat):∀(f:List Nat),(∀x,x ∈ f->(U x).count v=g x)->(f.flatMap U).count v=(f.map g).sum
 | [],_=>rfl
 |x::f,h=>by
  rw[List.flatMap_cons,List.count_append,List.map_cons,List.sum_cons,h x (List.mem_cons_self ..),zjn U v g f fun y hy=>h y (List.mem_cons_of_mem _ hy)]
theorem zm5:∀(f l:List Nat),f.Nodup->(f.map fun x=>l.count x).sum=(l.filter fun y=>decide (y ∈ f)).length
 | [],l,_=>by
  have h:(l.filter fun y=>decide (y ∈ ([]:List Nat)))=[]:=List.filter_eq_nil_iff.2 (by simp);rw[h];rfl
 |x::f,l,h=>by
  have hx:x ∉ f:=(List.nodup_cons.1 h).1;rw[List.map_cons,List.sum_cons,zm5 f l (List.nodup_cons.1 h).2];clear h
  induction l with
  |nil=>rfl
  |cons y l ih=>
   by_cases e:y=x
   ·subst e
    rw[List.count_cons_self,List.filter_cons_of_neg (by simpa using hx),List.filter_cons_of_pos (by simp),List.length_cons];omega
   ·rw[List.count_cons_of_ne e]
    by_cases hy:y ∈ f
    ·rw[List.filter_cons_of_pos (by simpa using hy),List.filter_cons_of_pos (by simp[hy]),List.length_cons,List.length_cons]
     omega
    ·rw[List.filter_cons_of_neg (by simpa using hy),List.filter_cons_of_neg (by simp[hy,e])]
     exact ih
structure NdU (need:Nat->List Nat) (N k t c:Nat) (U:Nat->List Int):Prop where
 cnt:∀i j:Nat,i<N->j<N->(U j).count (i:Int)=if i<k then (need i).count j else if i=k then ((need k).take t).count j else 0
 lt:∀j x,x ∈ U j->∃i:Nat,x=(i:Int)/\i<N
 len:∀j,(U j).length<=c
section
variable {need:Nat->List Nat} {loop:Nat->Bool} {N k t c:Nat} {U U':Nat->List Int}
theorem NdU.start:NdU need N 0 0 0 (fun _=>[]):=⟨fun i j _ _=>by simp,fun j x h=>(by cases h),fun _=>Nat.le_refl _⟩
theorem NdU.grow {c':Nat}(h:NdU need N k t c U)(hc:c<=c'):NdU need N k t c' U:=⟨h.cnt,h.lt,fun j=>Nat.le_trans (h.len j) hc⟩
theorem NdU.step {j:Nat}(h:NdU need N k t c U)(hk:k<N)(hj:(need k)[t]?=some j)(h1:U' j=U j++[(k:Int)])(h2:∀x,x≠j->U' x=U x):NdU need N k (t+1) (c+1) U':=by
 refine⟨fun i x hi hx=>?_,fun x y hy=>?_,fun x=>?_⟩
 ·have hc:=h.cnt i x hi hx
  have ht:((need k).take (t+1)).count x=((need k).take t).count x+(if x=j then 1 else 0):=by
   rw[List.take_add_one,hj,List.count_append];show _+[j].count x=_;congr 1;by_cases e:x=j
   ·subst e;simp
   ·rw[if_neg e,List.count_singleton];simp;omega
  by_cases e:x=j
  ·subst e
   rw[h1,List.count_append,hc,ht,if_pos rfl];by_cases e1:i<k
   ·rw[if_pos e1,if_pos e1,List.count_singleton];simp;omega
   ·rw[if_neg e1,if_neg e1]
    by_cases e2:i=k
    ·subst e2;rw[if_pos rfl,if_pos rfl];simp
    ·rw[if_neg e2,if_neg e2,List.count_singleton];simp;omega
  ·rw[h2 x e,hc,ht,if_neg e,Nat.add_zero]
 ·by_cases e:x=j
  ·subst e
   rw[h1] at hy;rcases List.mem_append.1 hy with hy|hy
   ·exact h.lt x y hy
   ·exact⟨k,List.mem_singleton.1 hy,hk⟩
  ·rw[h2 x e] at hy;exact h.lt x y hy
 ·by_cases e:x=j
  ·subst e;rw[h1,List.length_append];have:=h.len x;simp;omega
  ·rw[h2 x e];have:=h.len x;omega
theorem NdU.next (h:NdU need N k (need k).length c U):NdU need N (k+1) 0 c U:=by
 refine⟨fun i j hi hj=>?_,h.lt,h.len⟩;rw[h.cnt i j hi hj,List.take_length];by_cases e1:i<k
 ·rw[if_pos e1,if_pos (by omega)]
 ·by_cases e2:i=k
  ·subst e2;rw[if_neg e1,if_pos rfl,if_pos (by omega)]
  ·rw[if_neg e1,if_neg e2,if_neg (by omega)];simp
def dnL (U:Nat->List Int)(f:List Nat)(p m:Nat):List Int:=(f.take p).flatMap U++((match f[p]? with|some x=>U x|none=>[])).take m
def lpN (loop:Nat->Bool)(i:Nat):Nat:=if loop i=true then 1 else 0
structure Kn (need:Nat->List Nat) (loop:Nat->Bool) (N:Nat) (U:Nat->List Int) (f:List Nat) (p m:Nat) (lf:Nat->Nat):Prop where
 nd:f.Nodup
 lt:∀x,x ∈ f->x<N
 cnt:∀i:Nat,i<N->lf i+(dnL U f p m).count (i:Int)=(need i).length+lpN loop i
 mem:∀i:Nat,i<N->(i ∈ f↔lf i=0)
 wf:∀x,x ∈ f->WfG need loop x
theorem zf5 (hU:∀i j:Nat,i<N->j<N->(U j).count (i:Int)=(need i).count j){f:List Nat}(hn:f.Nodup)(hl:∀x,x ∈ f->x<N){i:Nat}(hi:i<N):(f.flatMap U).count (i:Int)=((need i).filter fun y=>decide (y ∈ f)).length:=by
 rw[zjn U (i:Int) (fun x=>(need i).count x) f fun x hx=>hU i x hi (hl x hx),zm5 f _ hn]
theorem Kn.start (lf:Nat->Nat)(h:∀i,i<N->lf i=(need i).length+lpN loop i):Kn need loop N U ((List.range N).filter fun i=>decide (lf i=0)) 0 0 lf:=by
 refine⟨List.nodup_range.filter _,fun x hx=>List.mem_range.1 (List.mem_filter.1 hx).1,fun i hi=>?_,fun i hi=>?_,fun x hx=>?_⟩
 ·rw[show dnL U _ 0 0=[] by simp[dnL],h i hi];rfl
 ·rw[List.mem_filter]
  simp[hi]
 ·obtain⟨h1,h2⟩:=List.mem_filter.1 hx
  have h3:=h x (List.mem_range.1 h1);have h4:lf x=0:=by simpa using h2
  rw[WfG.iff];have h5:(need x).length=0:=by omega
  rw[List.length_eq_zero_iff.1 h5];refine⟨fun j hj=>(by cases hj),?_⟩;cases hl:loop x with
  |false=>rfl
  |true=>unfold lpN at h3;rw[hl,if_pos rfl] at h3;omega
theorem Kn.step {f:List Nat}{p m x i:Nat}{lf lf':Nat->Nat}(h:Kn need loop N U f p m lf)(hU:∀i j:Nat,i<N->j<N->(U j).count (i:Int)=(need i).count j)
  (hx:f[p]?=some x) (hm:(U x)[m]?=some (i:Int)) (hi:i<N) (h1:lf' i=lf i-1) (h2:∀j,j≠i->lf' j=lf j):0<lf i/\(lf i=1->Kn need loop N U (f++[i]) p (m+1) lf')/\(lf i≠1->Kn need loop N U f p (m+1) lf'):=by
 have hp:=(List.getElem?_eq_some_iff.1 hx).1;have hd:dnL U f p (m+1)=dnL U f p m++[(i:Int)]:=by
  unfold dnL;rw[hx];show _++(U x).take (m+1)=_;rw[List.take_add_one,hm,<-List.append_assoc];rfl
 have hfl:(f.take (p+1)).flatMap U=(f.take p).flatMap U++U x:=by
  rw[List.take_add_one,hx,List.flatMap_append];simp
 have hsub:(f.take (p+1)).Nodup:=h.nd.sublist (List.take_sublist _ _);have hlt:∀y,y ∈ f.take (p+1)->y<N:=fun y hy=>h.lt y (List.mem_of_mem_take hy)
 have hall:=zf5 hU hsub hlt hi;have hle:(dnL U f p (m+1)).count (i:Int)<=((need i).filter fun y=>decide (y ∈ f.take (p+1))).length:=by
  rw[<-hall,hfl];unfold dnL;rw[hx,List.count_append,List.count_append];exact Nat.add_le_add_left ((List.take_sublist _ _).count_le _) _
 have hlen:=List.length_filter_le (fun y=>decide (y ∈ f.take (p+1))) (need i);have hc:=h.cnt i hi;have hd1:(dnL U f p (m+1)).count (i:Int)=(dnL U f p m).count (i:Int)+1:=by rw[hd,List.count_append];simp
 have hpos:0<lf i:=by omega
 have hcnt:∀j:Nat,j<N->lf' j+(dnL U f p (m+1)).count (j:Int)=(need j).length+lpN loop j:=fun j hj=>by
  by_cases e:j=i
  ·subst e;rw[h1,hd1];omega
  ·rw[h2 j e,hd,List.count_append,<-h.cnt j hj]
   have:[(i:Int)].count (j:Int)=0:=by rw[List.count_singleton];simp;omega
   omega
 refine⟨hpos,fun e1=>?_,fun e1=>?_⟩
 ·have hni:i ∉ f:=fun hf=>by have:=(h.mem i hi).1 hf;omega
  refine⟨?_,fun y hy=>?_,fun j hj=>?_,fun j hj=>?_,fun y hy=>?_⟩
  ·rw[List.nodup_append]
   refine⟨h.nd,by simp,fun a ha b hb=>?_⟩;obtain rfl:=List.mem_singleton.1 hb;exact fun e=>hni (e ▸ ha)
  ·rcases List.mem_append.1 hy with hy|hy
   ·exact h.lt y hy
   ·obtain rfl:=List.mem_singleton.1 hy;exact hi
  ·have:dnL U (f++[i]) p (m+1)=dnL U f p (m+1):=by
    unfold dnL;rw[List.take_append_of_le_length (by omega),List.getElem?_append_left hp]
   rw[this];exact hcnt j hj
  ·rw[List.mem_append,List.mem_singleton]
   by_cases e:j=i
   ·subst e;simp[h1,e1]
   ·rw[h2 j e,<-h.mem j hj];simp[e]
  ·rcases List.mem_append.1 hy with hy|hy
   ·exact h.wf y hy
   ·obtain rfl:=List.mem_singleton.1 hy
    have hz:=hcnt y hi;rw[h1,e1] at hz;have hlp:lpN loop y=0:=by omega
    have hfull:((need y).filter fun z=>decide (z ∈ f.take (p+1))).length=(need y).length:=by omega
    rw[WfG.iff];refine⟨fun j hj=>?_,?_⟩
    ·have h5:=(List.length_filter_eq_length_iff.1 hfull) j hj
     exact h.wf j (List.mem_of_mem_take (of_decide_eq_true h5))
    ·cases hl:loop y with
     |false=>rfl
     |true=>unfold lpN at hlp;rw[hl,if_pos rfl] at hlp;cases hlp
 ·refine⟨h.nd,h.lt,hcnt,fun j hj=>?_,h.wf⟩
  rw[h.mem j hj];by_cases e:j=i
  ·subst e;rw[h1];omega
  ·rw[h2 j e]
theorem Kn.round {f:List Nat}{p x:Nat}{lf:Nat->Nat}(h:Kn need loop N U f p (U x).length lf)(hx:f[p]?=some x):Kn need loop N U f (p+1) 0 lf:=by
 have:dnL U f (p+1) 0=dnL U f p (U x).length:=by
  unfold dnL;rw[hx,List.take_zero,List.append_nil,List.take_add_one,hx,List.flatMap_append];simp
 exact⟨h.nd,h.lt,fun i hi=>by rw[this];exact h.cnt i hi,h.mem,h.wf⟩
theorem Kn.len {f:List Nat}{p m:Nat}{lf:Nat->Nat}(h:Kn need loop N U f p m lf):f.length<=N:=zce N f h.nd h.lt
theorem Kn.over {f:List Nat}{p:Nat}{lf:Nat->Nat}(h:Kn need loop N U f p 0 lf)(hp:f.length<=p)(hU:∀i j:Nat,i<N->j<N->(U j).count (i:Int)=(need i).count j)(hN:∀i,i<N->∀j,j ∈ need i->j<N){i:Nat}(hi:i<N):i ∈ f↔WfG need loop i:=by
 refine⟨h.wf i,fun hw=>WfG.least (ok:=fun i=>i ∈ f) hN (fun i hi hj hl=>?_) hi hw⟩;rw[h.mem i hi];have hc:=h.cnt i hi;have hd:dnL U f p 0=f.flatMap U:=by
  unfold dnL;rw[List.take_of_length_le hp,List.take_zero,List.append_nil]
 rw[hd,zf5 hU h.nd h.lt hi,List.filter_eq_self.2 fun y hy=>decide_eq_true (hj y hy)] at hc;unfold lpN at hc;rw[hl,if_neg (by decide)] at hc;omega
end
theorem znb {P:Nat->Prop}(h:∃n,P n):∃n,P n/\∀m,P m->n<=m:=by
 obtain⟨n,hn⟩:=h
 induction n using Nat.strongRecOn with
 |_ n ih=>
  by_cases h:∃m,m<n/\P m
  ·obtain⟨m,hm,hp⟩:=h
   exact ih m hm hp
  ·exact⟨n,hn,fun m hp=>Nat.le_of_not_lt fun hl=>h ⟨m,hl,hp⟩⟩
def ltL:List Nat->List Nat->Prop
 |a::l,b::m=>a<b∨(a=b/\ltL l m)
 |_,_=>False
theorem yaax:∀l:List Nat,¬ltL l l
 | [],h=>h
 |_::l,h=>by rcases h with h|⟨-,h⟩;exact absurd h (Nat.lt_irrefl _);exact yaax l h
theorem zrg:∀ {l m:List Nat},ltL l m->¬ltL m l
 | [],_,h=>fun _=>h
 |_::_,[],h=>fun _=>h
 |a::l,b::m,h=>fun g=>by
  rcases h with h|⟨rfl,h⟩
  ·rcases g with g|⟨rfl,-⟩<;>omega
  ·rcases g with g|⟨-,g⟩
   ·omega
   ·exact zrg h g
theorem yaaa:∀ {l m:List Nat},l.length=m.length->l=m∨ltL l m∨ltL m l
 | [],[],_=>.inl rfl
 | [],_::_,h=>by simp at h
 |_::_,[],h=>by simp at h
 |a::l,b::m,h=>by
  rcases Nat.lt_trichotomy a b with g|rfl|g
  ·exact .inr (.inl (.inl g))
  ·rcases yaaa (l:=l) (m:=m) (by simpa using h) with rfl|g|g
   ·exact .inl rfl
   ·exact .inr (.inl (.inr ⟨rfl,g⟩))
   ·exact .inr (.inr (.inr ⟨rfl,g⟩))
  ·exact .inr (.inr (.inl g))
theorem znc:∀ {l m n:List Nat},ltL l m->ltL m n->ltL l n
 | [],_,_,h,_=>h.elim
 |_::_,[],_,h,_=>h.elim
 |_::_,_::_,[],_,g=>g.elim
 |a::l,b::m,c::n,h,g=>by
  rcases h with h|⟨rfl,h⟩
  ·rcases g with g|⟨rfl,-⟩
   ·exact .inl (by omega)
   ·exact .inl h
  ·rcases g with g|⟨rfl,g⟩
   ·exact .inl g
   ·exact .inr ⟨rfl,znc h g⟩
theorem zjr:∀(k:Nat) (P:List Nat->Prop),(∃l,l.length=k/\P l)->∃l,l.length=k/\P l/\∀m,m.length=k->P m->l=m∨ltL l m
 |0,P,⟨l,hl,hp⟩=>by
  obtain rfl:=List.length_eq_zero_iff.1 hl;exact⟨[],rfl,hp,fun m hm _=>.inl (List.length_eq_zero_iff.1 hm).symm⟩
 |k+1,P,⟨l,hl,hp⟩=>by
  obtain⟨a,⟨l',hl',hp'⟩,hmin⟩:=znb (P:=fun a=>∃l,l.length=k/\P (a::l)) (by
   cases l with
   |nil=>simp at hl
   |cons a l=>exact⟨a,l,by simpa using hl,hp⟩)
  obtain⟨m,hm,hpm,hlm⟩:=zjr k (fun l=>P (a::l)) ⟨l',hl',hp'⟩;refine⟨a::m,by rw[List.length_cons,hm],hpm,fun x hx hpx=>?_⟩;cases x with
  |nil=>simp at hx
  |cons b x=>
   have hx':x.length=k:=by simpa using hx
   rcases Nat.lt_or_ge a b with g|g
   ·exact .inr (.inl g)
   ·have:a=b:=Nat.le_antisymm (hmin b ⟨x,hx',hpx⟩) g
    subst this;rcases hlm x hx' hpx with rfl|h
    ·exact .inl rfl
    ·exact .inr (.inr ⟨rfl,h⟩)
section
variable (calls:Nat->List Nat)
def ChI (w:List Nat):Prop:=∀i a b,w[i]?=some a->w[i+1]?=some b->b ∈ calls a
def CyG (r:Nat)(l:List Nat):Prop:=l[0]?=some r/\ChI calls (l++[r])
def MinC (r:Nat)(l:List Nat):Prop:=CyG calls r l/\∀m,CyG calls r m->l.length<m.length∨(l.length=m.length/\(l=m∨ltL l m))
variable {calls}
theorem MinC.unique {r:Nat}{l m:List Nat}(h:MinC calls r l)(g:MinC calls r m):l=m:=by
 rcases h.2 m g.1 with a|⟨a,a'|a'⟩
 ·rcases g.2 l h.1 with b|⟨b,-⟩<;>omega
 ·exact a'
 ·rcases g.2 l h.1 with b|⟨b,b'|b'⟩
  ·omega
  ·exact b'.symm
  ·exact absurd b' (zrg a')
theorem MinC.exists {r:Nat}(h:∃l,CyG calls r l):∃l,MinC calls r l:=by
 obtain⟨l0,h0⟩:=h;obtain⟨k,⟨l1,hk1,hl1⟩,hk⟩:=znb (P:=fun k=>∃l,l.length=k/\CyG calls r l) ⟨_,l0,rfl,h0⟩;obtain⟨l,hl,hc,hm⟩:=zjr k (CyG calls r) ⟨l1,hk1,hl1⟩;refine⟨l,hc,fun m hcm=>?_⟩;have:=hk m.length ⟨m,rfl,hcm⟩;rcases Nat.lt_or_ge k m.length with g|g
 ·exact .inl (by omega)
 ·exact .inr ⟨by omega,hm m (by omega) hcm⟩
theorem ChI.cut {w:List Nat}{i j x:Nat}(h:ChI calls w)(hi:w[i]?=some x)(hj:w[j]?=some x):ChI calls (w.take i++w.drop j):=by
 have hil:=(List.getElem?_eq_some_iff.1 hi).1;have hti:(w.take i).length=i:=by rw[List.length_take];omega
 intro t a b ha hb;rcases Nat.lt_trichotomy (t+1) i with g|g|g
 ·rw[List.getElem?_append_left (by omega),List.getElem?_take_of_lt (by omega)] at ha hb
  exact h t a b ha hb
 ·rw[List.getElem?_append_left (by omega),List.getElem?_take_of_lt (by omega)] at ha
  rw[List.getElem?_append_right (by omega),hti,List.getElem?_drop,show j+(t+1-i)=j by omega,hj] at hb;exact h t a b ha (by rw[g,hi];exact hb)
 ·rw[List.getElem?_append_right (by omega),hti,List.getElem?_drop] at ha hb
  exact h (j+(t-i)) a b ha (by rw[show j+(t-i)+1=j+(t+1-i) by omega];exact hb)
theorem CyG.pos {r:Nat}{l:List Nat}(h:CyG calls r l):0<l.length:=(List.getElem?_eq_some_iff.1 h.1).1
theorem CyG.cut {r i j x:Nat}{l:List Nat}(h:CyG calls r l)(hi:l[i]?=some x)(hj:l[j]?=some x)(hij:i<j):CyG calls r (l.take i++l.drop j)/\(l.take i++l.drop j).length<l.length:=by
 have hjl:=(List.getElem?_eq_some_iff.1 hj).1;have hti:(l.take i).length=i:=by rw[List.length_take];omega
 refine⟨⟨?_,?_⟩,?_⟩
 ·cases i with
  |zero=>
   rw[List.take_zero,List.nil_append,List.getElem?_drop,Nat.add_zero,hj,<-hi,h.1]
  |succ i=>rw[List.getElem?_append_left (by omega),List.getElem?_take_of_lt (by omega)];exact h.1
 ·have hc:=h.2.cut (i:=i) (j:=j) (x:=x) (by rw[List.getElem?_append_left (by omega)];exact hi) (by rw[List.getElem?_append_left hjl];exact hj)
  rw[List.take_append_of_le_length (by omega),List.drop_append_of_le_length (by omega),<-List.append_assoc] at hc;exact hc
 ·rw[List.length_append,hti,List.length_drop];omega
theorem CyG.simple {r:Nat}{l:List Nat}(h:CyG calls r l)(hm:∀m,CyG calls r m->l.length<=m.length){i j x:Nat}(hi:l[i]?=some x)(hj:l[j]?=some x):i=j:=by
 rcases Nat.lt_trichotomy i j with g|g|g
 ·obtain⟨h1,h2⟩:=h.cut hi hj g
  have:=hm _ h1;omega
 ·exact g
 ·obtain⟨h1,h2⟩:=h.cut hj hi g
  have:=hm _ h1;omega
theorem MinC.of_simple {r:Nat}{l:List Nat}(h:CyG calls r l)(hno:∀m,CyG calls r m->(∀i j x:Nat,m[i]?=some x->m[j]?=some x->i=j)->m.length<l.length->False)
  (hle:∀m,CyG calls r m->(∀i j x:Nat,m[i]?=some x->m[j]?=some x->i=j)->m.length=l.length->l=m∨ltL l m):MinC calls r l:=by
 obtain⟨m,hm⟩:=MinC.exists ⟨l,h⟩;have hmin:∀x,CyG calls r x->m.length<=x.length:=fun x hx=>by rcases hm.2 x hx with a|⟨a,-⟩<;>omega
 have hs:=fun i j x=>hm.1.simple hmin (i:=i) (j:=j) (x:=x)
 have hlen:m.length=l.length:=Nat.le_antisymm (hmin l h) (Nat.le_of_not_lt fun g=>hno m hm.1 hs g);rcases hle m hm.1 hs hlen with rfl|g
 ·exact hm
 ·rcases hm.2 l h with a|⟨-,a|a⟩
  ·omega
  ·subst a;exact absurd g (yaax _)
  ·exact absurd a (zrg g)
theorem z05 {i j:Nat}(h:RchG calls i j):∃l,l[0]?=some i/\ChI calls (l++[j]):=by
 induction h with
 |one h=>exact⟨[_],rfl,fun t a b ha hb=>by
   cases t with
   |zero=>cases ha;cases hb;exact h
   |succ t=>cases t<;>simp at hb⟩
 |more h _ ih=>
  obtain⟨l,h0,hc⟩:=ih;refine⟨_::l,rfl,fun t a b ha hb=>?_⟩;cases t with
  |zero=>
   cases ha;have:(l++[_])[0]?=some b:=hb;rw[List.getElem?_append_left (List.getElem?_eq_some_iff.1 h0).1,h0] at this;cases this;exact h
  |succ t=>exact hc t a b ha hb
theorem zrh:∀ {l:List Nat} {i j:Nat},l[0]?=some i->ChI calls (l++[j])->RchG calls i j
 | [],_,_,h,_=>by simp at h
 | [a],i,j,h,hc=>by
  obtain rfl:a=i:=by simpa using h
  exact .one (hc 0 a j rfl rfl)
 |a::b::l,i,j,h,hc=>by
  obtain rfl:a=i:=by simpa using h
  exact .more (hc 0 a b rfl rfl) (zrh (l:=b::l) rfl fun t x y hx hy=>hc (t+1) x y hx hy)
theorem zwo {r:Nat}:(∃l,CyG calls r l)↔RchG calls r r:=⟨fun⟨_,h0,hc⟩=>zrh h0 hc,fun h=>z05 h⟩
end
section
variable (need:Nat->List Nat) (cl:Nat->Option Nat)
inductive LcG:Nat->Nat->Prop
 |here {i x:Nat}:cl i=some x->LcG i x
 |more {i j x:Nat}:cl i=none->j ∈ need i->LcG j x->LcG i x
structure CallsG (root:Nat->Nat) (calls:Nat->List Nat):Prop where
 call:∀i x,cl i=some x->need i=[root x]
 less:∀i j,cl i=none->j ∈ need i->j<i
 is:∀r x,x ∈ calls r↔LcG need cl (root r) x
variable {need cl} {root:Nat->Nat} {calls:Nat->List Nat}
theorem LcG.rch {i x:Nat}(hG:CallsG need cl root calls)(h:LcG need cl i x):RchG need i (root x):=by
 induction h with
 |here h=>exact .one (by rw[hG.call _ _ h];exact List.mem_singleton.2 rfl)
 |more _ h _ ih=>exact .more h ih
theorem RchG.lc {i j x:Nat}(hG:CallsG need cl root calls)(h:RchG need i j)(hj:cl j=some x):LcG need cl i x∨∃r,LcG need cl i r/\RchG calls r x:=by
 induction h with
 | @one i j h=>
  cases hi:cl i with
  |none=>exact .inl (.more hi h (.here hj))
  |some r=>
   rw[hG.call _ _ hi] at h;obtain rfl:=List.mem_singleton.1 h;exact .inr ⟨r,.here hi,.one ((hG.is _ _).2 (.here hj))⟩
 | @more i k j h _ ih=>
  cases hi:cl i with
  |none=>
   rcases ih hj with g|⟨r,g,g2⟩
   ·exact .inl (.more hi h g)
   ·exact .inr ⟨r,.more hi h g,g2⟩
  |some r0=>
   rw[hG.call _ _ hi] at h;obtain rfl:=List.mem_singleton.1 h;rcases ih hj with g|⟨r,g,g2⟩
   ·exact .inr ⟨r0,.here hi,.one ((hG.is _ _).2 g)⟩
   ·exact .inr ⟨r0,.here hi,.more ((hG.is _ _).2 g) g2⟩
def ndC (need:Nat->List Nat)(cl:Nat->Option Nat)(i:Nat):List Nat:=match cl i with
 |none=>need i
 |some _=>[]
theorem zlq {i:Nat}(h:cl i=none):ndC need cl i=need i:=by unfold ndC;rw[h]
theorem zlr {i x:Nat}(h:cl i=some x):ndC need cl i=[]:=by unfold ndC;rw[h]
theorem zcz {i j:Nat}:j ∈ ndC need cl i↔cl i=none/\j ∈ need i:=by
 cases h:cl i with
 |none=>rw[zlq h];exact⟨fun g=>⟨rfl,g⟩,fun g=>g.2⟩
 |some x=>rw[zlr h];exact⟨fun g=>absurd g List.not_mem_nil,fun g=>by cases g.1⟩
theorem LcG.iff {i x:Nat}:LcG need cl i x↔∃c,(c=i∨RchG (ndC need cl) i c)/\cl c=some x:=by
 constructor
 ·intro h
  induction h with
  |here h=>exact⟨_,.inl rfl,h⟩
  |more h g _ ih=>
   obtain⟨c,a,b⟩:=ih;exact⟨c,.inr (a.elim (fun e=>by rw[e];exact .one (zcz.2 ⟨h,g⟩)) (fun e=>.more (zcz.2 ⟨h,g⟩) e)),b⟩
 ·rintro⟨c,rfl|h,b⟩
  ·exact .here b
  ·induction h with
   |one h=>exact .more (zcz.1 h).1 (zcz.1 h).2 (.here b)
   |more h _ ih=>exact .more (zcz.1 h).1 (zcz.1 h).2 (ih b)
end
end Go.Proofs.YthhppmehhdlmnaaGreatDoor
