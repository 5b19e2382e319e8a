/- What a token reads lies within it: the same token, whatever follows (an identifier: if no letter follows). No walk. A string as its tokens with the spacing betw -/
import Derived.Test.YtnmflokhnaiiiaaGreatDoorPkA
import Derived.Test.YtnmflokhnaiiiaaGreatDoorPkC
import Derived.Test.YtnmflokhnaiiiaaGreatDoorPkF
import Derived.Test.YtnmflokhnaiiiaaGreatDoorPkRG
import Derived.Test.YtnmflokhnaiiiaaGreatDoorPkResCloM
namespace Go.Proofs.YtnmflokhnaiiiaaGreatDoor
theorem zmm (X Y:List Nat):∀(a:List Nat) (k c n:Nat),(numF c n ((a++X).take k)).2<n+a.length->numF c n ((a++Y).take k)=numF c n ((a++X).take k)
 | [],k,c,n,h=>by
  have:=(zeh (([]++X).take k) c n).1;rw[List.length_nil] at h;omega
 |d::t,0,c,n,h=>rfl
 |d::t,k+1,c,n,h=>by
  have h':(numF c n (d::(t++X).take k)).2<n+(t.length+1):=h;show numF c n (d::(t++Y).take k)=numF c n (d::(t++X).take k);cases ho:oct d
  ·rw[zft _ _ ho,zft _ _ ho]
  ·rw[zco _ _ ho] at h'
   rw[zco _ _ ho,zco _ _ ho];exact zmm X Y t k _ _ (by omega)
theorem z54 (X Y a:List Nat)(h:(esc (a++X)).2<a.length):esc (a++Y)=esc (a++X):=by
 cases a with
 |nil=>exact absurd h (Nat.not_lt_zero _)
 |cons d t=>
  have h3:=zmm X Y (d::t) 3 0 0;have h2:=zmm X Y (d::t) 2 0 0;rw[Nat.zero_add] at h3 h2;rw[List.cons_append] at h h3 h2 ⊢;rw[List.cons_append] at h3 h2 ⊢;rw[zb3] at h ⊢;rw[zb3 d (t++X)];by_cases c1:d=110
  ·rw[if_pos c1,if_pos c1]
  rw[if_neg c1] at h ⊢;rw[if_neg c1];by_cases c2:d=114
  ·rw[if_pos c2,if_pos c2]
  rw[if_neg c2] at h ⊢;rw[if_neg c2];by_cases c3:d=116
  ·rw[if_pos c3,if_pos c3]
  rw[if_neg c3] at h ⊢;rw[if_neg c3];by_cases c4:d=39∨d=34∨d=91∨d=93∨d=92
  ·rw[if_pos c4,if_pos c4]
  rw[if_neg c4] at h ⊢;rw[if_neg c4];by_cases c5:d=48∨d=49∨d=50
  ·rw[if_pos c5] at h ⊢
   rw[if_pos c5];exact h3 h
  rw[if_neg c5] at h ⊢;rw[if_neg c5];by_cases c6:d=51∨d=52∨d=53∨d=54∨d=55
  ·rw[if_pos c6] at h ⊢
   rw[if_pos c6];exact h2 h
  rw[if_neg c6,if_neg c6]
theorem zmn {X a:List Nat}(Y:List Nat){c k:Nat}(h:rdl (a++X)=some (c,k))(hk:k<a.length):rdl (a++Y)=some (c,k):=by
 cases a with
 |nil=>exact absurd hk (Nat.not_lt_zero _)
 |cons d t=>
  rw[List.length_cons] at hk;rw[List.cons_append] at h ⊢;by_cases hd:d=92
  ·subst hd
   rw[zir] at h ⊢;by_cases h0:(esc (t++X)).2=0
   ·rw[if_pos h0] at h;cases h
   ·rw[if_neg h0] at h
    obtain⟨-,e⟩:=Prod.mk.inj (Option.some.inj h);rw[z54 X Y t (by omega),if_neg h0];exact h
  ·rw[zdi _ _ hd] at h ⊢
   exact h
theorem zsg (q:Nat)(X Y:List Nat):∀(n:Nat) (a:List Nat),a.length<=n->∀b m,litE q (a++X)=some (b,m)->m<=a.length->litE q (a++Y)=some (b,m)
 |_,[],_,b,m,h,hm=>by
  have:=(zh9 q _ _ (Nat.le_refl _) b m h).1;rw[List.length_nil] at hm;omega
 |0,d::t,hn,_,_,_,_=>absurd hn (by rw[List.length_cons];omega)
 |n+1,d::t,hn,b,m,h,hm=>by
  rw[List.length_cons] at hn hm;by_cases hd:d=q
  ·subst hd
   rw[List.cons_append,zff] at h ⊢;exact h
  ·cases hr:rdl (d::(t++X)) with
   |none=>rw[List.cons_append,zf9 hr hd] at h;cases h
   |some z=>
    obtain⟨c,k⟩:=z;rw[List.cons_append,zdj hr hd] at h;obtain⟨⟨b',m'⟩,h',e⟩:=Option.map_eq_some_iff.1 h;obtain⟨rfl,rfl⟩:=Prod.mk.inj e;have h1:=(zh9 q _ _ (Nat.le_refl _) b' m' h').1;have hm:k+m'<=t.length+1:=hm;have hr2:rdl (d::(t++Y))=some (c,k):=zmn (a:=d::t) Y hr (by rw[List.length_cons];omega);have hX:(d::(t++X)).drop k=(d::t).drop k++X:=by rw[<-List.cons_append,List.drop_append_of_le_length (by rw[List.length_cons];omega)]
    have hY:(d::(t++Y)).drop k=(d::t).drop k++Y:=by rw[<-List.cons_append,List.drop_append_of_le_length (by rw[List.length_cons];omega)]
    have hk:=zei _ _ _ hr;rw[hX] at h';rw[List.cons_append,zdj hr2 hd,hY,zsg q X Y n _ (by rw[List.length_drop,List.length_cons];omega) b' m' h' (by rw[List.length_drop,List.length_cons];omega)];rfl
theorem zyr {u:List Nat}{y:List (Nat × Nat) × Nat}(h:clsL (45::u)=some y):∃z,rdl u=some z:=by
 cases hz:rdl u with
 |some z=>exact⟨z,rfl⟩
 |none=>
  rw[zdw (lo:=45) (n:=1) (by rfl) (by decide) (fun t ht=>by
   have ht:u=45::t:=ht;rw[ht,zdi _ _ (by decide)] at hz;cases hz)] at h
  obtain⟨y',h',-⟩:=Option.map_eq_some_iff.1 h;have h':clsL u=some y':=h';cases u with
  |nil=>rw[zh5] at h';cases h'
  |cons d v=>
   have hd:d≠93:=fun e=>by rw[e,zdi _ _ (by decide)] at hz;cases hz
   rw[zf8 hz hd] at h';cases h'
theorem zmo (X Y:List Nat):∀(n:Nat) (a:List Nat),a.length<=n->∀b m,clsL (a++X)=some (b,m)->m<=a.length->clsL (a++Y)=some (b,m)
 |_,[],_,b,m,h,hm=>by
  have:=(zfg _ _ (Nat.le_refl _) b m h).1;rw[List.length_nil] at hm;omega
 |0,d::t,hn,_,_,_,_=>absurd hn (by rw[List.length_cons];omega)
 |n+1,d::t,hn,b,m,h,hm=>by
  rw[List.length_cons] at hn hm;by_cases hd:d=93
  ·subst hd
   rw[List.cons_append,zh6] at h ⊢;exact h
  ·cases hr:rdl (d::(t++X)) with
   |none=>rw[List.cons_append,zf8 hr hd] at h;cases h
   |some z=>
    obtain⟨lo,k⟩:=z;have hk:=zei _ _ _ hr;have hX:∀j,j<=t.length+1->(d::(t++X)).drop j=(d::t).drop j++X:=fun j hj=>by rw[<-List.cons_append,List.drop_append_of_le_length (by rw[List.length_cons];omega)]
    have hY:∀j,j<=t.length+1->(d::(t++Y)).drop j=(d::t).drop j++Y:=fun j hj=>by rw[<-List.cons_append,List.drop_append_of_le_length (by rw[List.length_cons];omega)]
    rw[List.cons_append] at h ⊢;by_cases hg:∃u hi j,(d::(t++X)).drop k=45::u/\rdl u=some (hi,j)
    ·obtain⟨u,hi,j,h1,h2⟩:=hg
     rw[zd4 hr hd h1 h2] at h;obtain⟨⟨b',m'⟩,h',e⟩:=Option.map_eq_some_iff.1 h;obtain⟨rfl,rfl⟩:=Prod.mk.inj e;have hm:k+1+j+m'<=t.length+1:=hm;have h3:=(zfg _ _ (Nat.le_refl _) b' m' h').1;have hr2:rdl (d::(t++Y))=some (lo,k):=zmn (a:=d::t) Y hr (by rw[List.length_cons];omega);rw[hX k (by omega)] at h1;obtain⟨v,hv⟩:∃v,(d::t).drop k=45::v:=by
      cases hq:(d::t).drop k with
      |nil=>
       have:=congrArg List.length hq;rw[List.length_drop,List.length_cons,List.length_nil] at this;omega
      |cons c v=>
       rw[hq,List.cons_append] at h1;exact⟨v,by rw[(List.cons.inj h1).1]⟩
     have hvl:=congrArg List.length hv;rw[List.length_drop,List.length_cons,List.length_cons] at hvl;rw[hv,List.cons_append] at h1;obtain rfl:=(List.cons.inj h1).2;rw[zd4 hr2 hd (by rw[hY k (by omega),hv];rfl) (zmn Y h2 (by omega)),hY _ (by omega)];rw[hX _ (by omega)] at h';rw[zmo X Y n _ (by rw[List.length_drop,List.length_cons];omega) b' m' h' (by rw[List.length_drop,List.length_cons];omega)];rfl
    ·have hno:∀u,(d::(t++X)).drop k=45::u->rdl u=none:=fun u hu=>by
      cases h2:rdl u with
      |none=>rfl
      |some y=>exact absurd ⟨u,y.1,y.2,hu,h2⟩ hg
     rw[zdw hr hd hno] at h;obtain⟨⟨b',m'⟩,h',e⟩:=Option.map_eq_some_iff.1 h;obtain⟨rfl,rfl⟩:=Prod.mk.inj e;have hm:k+m'<=t.length+1:=hm;have h3:=(zfg _ _ (Nat.le_refl _) b' m' h').1;have hr2:rdl (d::(t++Y))=some (lo,k):=zmn (a:=d::t) Y hr (by rw[List.length_cons];omega);have hne:∀u,(d::(t++X)).drop k≠45::u:=fun u hu=>by
      rw[hu] at h';obtain⟨z,hz⟩:=zyr h';rw[hno u hu] at hz;cases hz
     have hno':∀u,(d::(t++Y)).drop k=45::u->rdl u=none:=fun u hu=>by
      rw[hY k (by omega)] at hu;cases hq:(d::t).drop k with
      |nil=>
       have:=congrArg List.length hq;rw[List.length_drop,List.length_cons,List.length_nil] at this;omega
      |cons c v=>
       rw[hq,List.cons_append] at hu;refine absurd ?_ (hne (v++X));rw[hX k (by omega),hq,(List.cons.inj hu).1];rfl
     rw[zdw hr2 hd hno',hY _ (by omega)];rw[hX _ (by omega)] at h';rw[zmo X Y n _ (by rw[List.length_drop,List.length_cons];omega) b' m' h' (by rw[List.length_drop,List.length_cons];omega)];rfl
theorem zys (X Y:List Nat)(hY:idL false Y=0):∀(a:List Nat) (f:Bool),a≠[]->idL f (a++X)<=a.length->idL f (a++Y)=idL f (a++X)
 | [],_,h,_=>absurd rfl h
 | [c],f,_,h=>by
  show idL f (c::Y)=idL f (c::X);have h:idL f (c::X)<=1:=h;cases hl:letB c f
  ·rw[zex hl,zex hl]
  ·rw[zbu hl] at h
   rw[zbu hl,zbu hl,hY];omega
 |c::d::t,f,_,h=>by
  have h:idL f (c::(d::t++X))<=(d::t).length+1:=h;show idL f (c::(d::t++Y))=idL f (c::(d::t++X));cases hl:letB c f
  ·rw[zex hl,zex hl]
  ·rw[zbu hl] at h
   rw[zbu hl,zbu hl,zys X Y hY (d::t) false (by simp) (by omega)]
theorem z1y {k:Nat}{a X:List Nat}(Y:List Nat){t:Tok}{n:Nat}(h:tokL k (a++X)=some (t,n))(h0:t.kind≠0)(h1:t.kind≠1)(hn:n<=k+a.length):tokL k (a++Y)=some (t,n):=by
 have hmv:=zd5 k _ t n h;cases a with
 |nil=>
  rw[List.length_nil] at hn;rcases hmv with h|h
  ·exact absurd h.1 h0
  ·omega
 |cons c r=>
  rw[List.length_cons] at hn;rw[List.cons_append] at h ⊢;cases hl:letB c true
  ·by_cases ha:c=60/\(r++X).head?=some 45
   ·rw[zbq hl ha] at h
    cases h;cases r with
    |nil=>rw[List.length_nil] at hn;omega
    |cons d v=>exact zbq hl ha
   ·cases hs:signK c with
    |some i=>
     rw[zca hl ha hs] at h;have hc:c≠60:=fun e=>by rw[e,show signK 60=none from by decide] at hs;cases hs
     rw[zca hl (fun e=>hc e.1) hs];exact h
    |none=>
     by_cases h91:c=91
     ·subst h91
      rw[zc9] at h ⊢;obtain⟨⟨b,m⟩,h',e⟩:=Option.map_eq_some_iff.1 h;cases e;have hn:k+1+m<=k+(r.length+1):=hn;rw[zmo X Y _ r (Nat.le_refl _) b m h' (by omega)];rfl
     ·by_cases hq:c=39∨c=34
      ·rw[zda hq] at h ⊢
       obtain⟨⟨b,m⟩,h',e⟩:=Option.map_eq_some_iff.1 h;cases e;have hn:k+1+m<=k+(r.length+1):=hn;rw[zsg c X Y _ r (Nat.le_refl _) b m h' (by omega)];rfl
      ·rw[zc3 hl ha hs h91 hq] at h;cases h
  ·rw[zci hl] at h
   cases h;exact absurd rfl h1
theorem zsh (X:List Nat):∀(t:List Nat) (m:Nat),comL (t++X)=some m->m<t.length->comL t=some m
 | [],m,_,hm=>absurd hm (Nat.not_lt_zero _)
 |c::r,m,h,hm=>by
  rw[List.cons_append] at h;by_cases hc:c=10∨c=13
  ·rw[zek hc] at h ⊢;exact h
  ·rw[zb7 hc] at h ⊢
   obtain⟨k,hk,rfl⟩:=Option.map_eq_some_iff.1 h;rw[List.length_cons] at hm;rw[zsh X r k hk (by omega)];rfl
theorem zyt:∀(l:List Nat) (m:Nat),comL l=some m->∃c r,l.drop m=c::r/\(c=10∨c=13)
 | [],m,h=>by cases h
 |c::r,m,h=>by
  by_cases hc:c=10∨c=13
  ·rw[zek hc] at h
   cases h;exact⟨c,r,rfl,hc⟩
  ·rw[zb7 hc] at h
   obtain⟨k,hk,rfl⟩:=Option.map_eq_some_iff.1 h;exact zyt r k hk
theorem zyu (X:List Nat):∀(n:Nat) (a:List Nat),a.length<=n->skipL (a++X)=(a.length,true)->Spc a
 |_,[],_,_=>zul
 |0,c::t,hn,_=>absurd hn (by rw[List.length_cons];omega)
 |n+1,c::t,hn,h=>by
  rw[List.length_cons] at hn h;rw[List.cons_append] at h;by_cases hc:c=32∨c=9∨c=10∨c=13
  ·rw[zbf hc] at h
   obtain⟨e1,e2⟩:=Prod.mk.inj h;exact zy5 hc (zyu X n t (by omega) (Prod.ext (by show(skipL (t++X)).1=t.length;omega) e2))
  ·by_cases h35:c=35
   ·subst h35
    cases hm:comL (t++X) with
    |none=>rw[zew hm] at h;cases h
    |some m=>
     rw[zd3 hm] at h;obtain⟨e1,e2⟩:=Prod.mk.inj h;have h1:1<=(skipL ((t++X).drop m)).1:=by
      obtain⟨c',r',hd,hc'⟩:=zyt _ _ hm;rw[hd,zbf (by omega)];exact Nat.le_add_left _ _
     have hdr:(t++X).drop m=t.drop m++X:=List.drop_append_of_le_length (by omega);rw[hdr] at e1 e2;exact z3m (zsh X t m hm (by rw[hdr] at h1;omega)) rfl (zyu X n _ (by rw[List.length_drop];omega) (Prod.ext (by show(skipL (t.drop m++X)).1=_;rw[List.length_drop];omega) e2))
   ·rw[zbg hc h35] at h
    cases h
inductive Seg:List Nat->Nat->List Tok->Prop
 |fin {g:List Nat} {p:Nat} (h:Spc g):Seg g p [⟨0,p+g.length,[],[]⟩]
 |tok {g b X:List Nat} {p:Nat} {t:Tok} {ts:List Tok} (h:Spc g) (hk:t.kind≠0) (ht:tokL (p+g.length) (b++X)=some (t,p+g.length+b.length)) (hr:Seg X (p+g.length+b.length) ts):Seg (g++(b++X)) p (t::ts)
theorem Seg.of_toks {l:List Nat}:∀(n p:Nat) (ts:List Tok),l.length-p<=n->p<=l.length->toksL l p=.ok ts->Seg (l.drop p) p ts:=by
 intro n
 induction n with
 |zero=>
  intro p ts hn hp h;cases hx:nextL l p with
  |error k=>rw[zdl hx] at h;cases h
  |ok y=>
   obtain⟨t,m⟩:=y;have hd:l.drop p=[]:=List.drop_eq_nil_of_le (by omega);obtain⟨-,ht⟩:=zlh hx;rw[hd,zc5,List.drop_eq_nil_of_le (by omega)] at ht;have ht:some ((⟨0,p,[],[]⟩:Tok),p)=some (t,m):=ht;obtain⟨rfl,rfl⟩:=Prod.mk.inj (Option.some.inj ht);rw[zcb hx rfl] at h;obtain rfl:=Except.ok.inj h;rw[hd];exact Seg.fin zul
 |succ n ih=>
  intro p ts hn hp h;cases hx:nextL l p with
  |error k=>rw[zdl hx] at h;cases h
  |ok y=>
   obtain⟨t,m⟩:=y;obtain⟨hs,ht⟩:=zlh hx;have hle:=zel _ (l.drop p) (Nat.le_refl _);have hsp:Spc ((l.drop p).take (skipL (l.drop p)).1):=by
    refine zyu ((l.drop p).drop (skipL (l.drop p)).1) _ _ (Nat.le_refl _) ?_;rw[List.take_append_drop,List.length_take,Nat.min_eq_left hle];exact Prod.ext rfl hs
   generalize hq:(skipL (l.drop p)).1=q at *;rw[List.length_drop] at hle;have hgl:((l.drop p).take q).length=q:=by rw[List.length_take,List.length_drop];omega
   have hmv:=zd5 _ _ _ _ ht;by_cases hk:t.kind=0
   ·rcases hmv with h2|h2
    ·obtain⟨-,h3⟩:=h2
     rw[h3,zcp] at ht;obtain⟨rfl,rfl⟩:=Prod.mk.inj (Option.some.inj ht);rw[zcb hx rfl] at h;obtain rfl:=Except.ok.inj h;have e:(l.drop p).take q=l.drop p:=by
      rw[<-List.drop_drop] at h3;have:=List.take_append_drop q (l.drop p);rw[h3,List.append_nil] at this;exact this
     have r:=Seg.fin (p:=p) hsp;rw[hgl,e] at r;exact r
    ·exact absurd hk h2.1
   ·rcases hmv with h2|⟨-,h2,h3⟩
    ·exact absurd h2.1 hk
    ·rw[List.length_drop] at h3
     rw[zdc hx hk ⟨by omega,by omega⟩] at h;cases hr:toksL l m with
     |error k=>rw[hr] at h;cases h
     |ok ts'=>
      rw[hr] at h;obtain rfl:=Except.ok.inj h;have hi:=ih m ts' (by omega) (by omega) hr;have hb:((l.drop (p+q)).take (m-(p+q))).length=m-(p+q):=by rw[List.length_take,List.length_drop];omega
      have hX:(l.drop (p+q)).drop (m-(p+q))=l.drop m:=by rw[List.drop_drop];congr 1;omega
      have r:=Seg.tok (g:=(l.drop p).take q) (b:=(l.drop (p+q)).take (m-(p+q))) (X:=l.drop m) (p:=p) (t:=t) (ts:=ts') hsp hk (by
       rw[hgl,hb,<-hX,List.take_append_drop,ht,show p+q+(m-(p+q))=m by omega]) (by
       rw[hgl,hb,show p+q+(m-(p+q))=m by omega];exact hi)
      rw[<-hX,List.take_append_drop,<-List.drop_drop,List.take_append_drop] at r;exact r
theorem z1z {k n:Nat}{y:List Nat}{t:Tok}(h:tokL k y=some (t,n))(hk:t.kind≠0):skipL y=(0,true):=by
 cases y with
 |nil=>
  rw[zcp] at h;obtain⟨rfl,-⟩:=Prod.mk.inj (Option.some.inj h);exact absurd rfl hk
 |cons c r=>
  by_cases hc:c=32∨c=9∨c=10∨c=13∨c=35
  ·have hb:tokL k (c::r)=none:=by
    rcases hc with rfl|rfl|rfl|rfl|rfl<;>exact zc3 (by decide) (fun e=>absurd e.1 (by decide)) (by decide) (by decide) (by decide)
   rw[hb] at h;cases h
  ·exact zbg (by omega) (by omega)
theorem Seg.toks {x:List Nat}{p:Nat}{ts:List Tok}(h:Seg x p ts):∀l:List Nat,l.drop p=x->p<=l.length->toksL l p=.ok ts:=by
 induction h with
 |fin h=>
  rename_i g p;intro l hl hp;have hs:=h [];rw[List.append_nil,zc5] at hs;have hlen:=congrArg List.length hl;rw[List.length_drop] at hlen;refine zcb (n:=p+g.length) ?_ rfl;unfold nextL;rw[hl,hs];show(match tokL (p+(g.length+0)) (l.drop (p+(g.length+0))) with|some x=>Except.ok x|none=>.error _)=_;rw[List.drop_eq_nil_of_le (by omega),zcp];rfl
 |tok h hk ht hr ih=>
  rename_i g b X p t ts;intro l hl hp;have hs:=h (b++X);rw[z1z ht hk] at hs;have hlen:=congrArg List.length hl;rw[List.length_drop,List.length_append,List.length_append] at hlen;have hd:l.drop (p+g.length)=b++X:=by rw[<-List.drop_drop,hl,List.drop_left]
  have hn:nextL l p=.ok (t,p+g.length+b.length):=by
   unfold nextL;rw[hl,hs];show(match tokL (p+(g.length+0)) (l.drop (p+(g.length+0))) with|some x=>Except.ok x|none=>.error _)=_;rw[Nat.add_zero,hd,ht]
  have hmv:=zd5 _ _ _ _ ht;have hb:0<b.length:=by
   rcases hmv with h2|h2
   ·exact absurd h2.1 hk
   ·omega
  rw[zdc hn hk ⟨by omega,by omega⟩,ih l (by rw[<-List.drop_drop,hd,List.drop_left]) (by omega)];rfl
theorem Seg.at {x:List Nat}{p:Nat}{ts:List Tok}(h:Seg x p ts):∀t r,ts=t::r->p<=t.at_:=by
 cases h with
 |fin h=>intro t r e;rw[<-(List.cons.inj e).1];exact Nat.le_add_right _ _
 |tok h hk ht hr=>
  intro t r e;rw[<-(List.cons.inj e).1,zgb _ _ _ _ ht];exact Nat.le_add_right _ _
def renL (l:List Nat)(p:Nat):List Tok->List Nat
 | []=>l.drop p
 |t::ts=>((l.drop p).take (t.at_-p)++(if t.kind=1 then [120,95] else []))++renL l t.at_ ts
def rnT (d:Nat):List Tok->List Tok
 | []=>[]
 |t::ts=>⟨t.kind,t.at_+d,if t.kind=1 then 120::95::t.text else t.text,t.rs⟩::rnT (d+if t.kind=1 then 2 else 0) ts
theorem zt4 (l:List Nat){a p:Nat}(h:a<=p)(ts:List Tok)(ht:∀t r,ts=t::r->p<=t.at_):renL l a ts=(l.drop a).take (p-a)++renL l p ts:=by
 have hd:l.drop p=(l.drop a).drop (p-a):=by rw[List.drop_drop];congr 1;omega
 cases ts with
 |nil=>
  show l.drop a=_++l.drop p;rw[hd,List.take_append_drop]
 |cons t r=>
  have h2:=ht t r rfl;show((l.drop a).take (t.at_-a)++_)++_=_++(((l.drop p).take (t.at_-p)++_)++_);rw[show t.at_-a=(p-a)+(t.at_-p) by omega,List.take_add,hd,List.append_assoc,List.append_assoc,List.append_assoc]
theorem zyv {l g:List Nat}{p:Nat}(hl:l.drop p=g):renL l p [⟨0,p+g.length,[],[]⟩]=g:=by
 show((l.drop p).take (p+g.length-p)++[])++l.drop (p+g.length)=g;rw[<-List.drop_drop,hl,Nat.add_sub_cancel_left,List.take_length,List.drop_length,List.append_nil,List.append_nil]
theorem zyw {l g b X:List Nat}{p:Nat}{t:Tok}{ts:List Tok}(hl:l.drop p=g++(b++X))(ht:tokL (p+g.length) (b++X)=some (t,p+g.length+b.length))(hr:Seg X (p+g.length+b.length) ts) :
  renL l p (t::ts)=g++((if t.kind=1 then [120,95] else [])++b++renL l (p+g.length+b.length) ts):=by
 have ha:=zgb _ _ _ _ ht;show((l.drop p).take (t.at_-p)++_)++renL l t.at_ ts=_;rw[ha,Nat.add_sub_cancel_left,zt4 l (Nat.le_add_right _ b.length) ts hr.at,Nat.add_sub_cancel_left,<-List.drop_drop,hl,List.take_left,List.drop_left,List.take_left];simp only[List.append_assoc]
theorem z10 {c:Nat}{y:List Nat}(h:idL false (c::y)=0):letB c false=false:=by
 cases hl:letB c false with
 |false=>rfl
 |true=>rw[zbu hl] at h;cases h
theorem zsi {b X:List Nat}(Z:List Nat)(hb:b≠[])(h:idL false (b++X)=0):idL false (b++Z)=0:=by
 cases b with
 |nil=>exact absurd rfl hb
 |cons c r=>exact zex (z10 h)
theorem z3e {k n:Nat}{y:List Nat}{t:Tok}(h:tokL k y=some (t,n))(hk:t.kind=1):∃c r,y=c::r/\letB c true=true/\t=⟨1,k,y.take (idL true y),[]⟩/\n=k+idL true y:=by
 cases y with
 |nil=>
  rw[zcp] at h;obtain⟨rfl,-⟩:=Prod.mk.inj (Option.some.inj h);cases hk
 |cons c r=>
  cases hl:letB c true with
  |true=>
   rw[zci hl] at h;obtain⟨rfl,rfl⟩:=Prod.mk.inj (Option.some.inj h);exact⟨c,r,rfl,hl,rfl,rfl⟩
  |false=>
   by_cases ha:c=60/\r.head?=some 45
   ·rw[zbq hl ha] at h
    obtain⟨rfl,-⟩:=Prod.mk.inj (Option.some.inj h);cases hk
   ·cases hs:signK c with
    |some i=>
     rw[zca hl ha hs] at h;obtain⟨rfl,-⟩:=Prod.mk.inj (Option.some.inj h);have:=zlf _ _ _ _ hs;have hk:i=1:=hk;omega
    |none=>
     by_cases h91:c=91
     ·subst h91
      rw[zc9] at h;obtain⟨z,-,e⟩:=Option.map_eq_some_iff.1 h;obtain⟨rfl,-⟩:=Prod.mk.inj e;cases hk
     ·by_cases hq:c=39∨c=34
      ·rw[zda hq] at h
       obtain⟨z,-,e⟩:=Option.map_eq_some_iff.1 h;obtain⟨rfl,-⟩:=Prod.mk.inj e;cases hk
      ·rw[zc3 hl ha hs h91 hq] at h;cases h
theorem zjv {c:Nat}(h:letB c true=true):letB c false=true:=by
 unfold letB at h ⊢;split
 ·rfl
 ·rename_i hn
  rw[if_neg hn] at h;exact h
theorem z8w {x:List Nat}{p:Nat}{ts:List Tok}(h:Seg x p ts)(l:List Nat)(hl:l.drop p=x)(h0:idL false x=0):idL false (renL l p ts)=0:=by
 cases h with
 |fin h=>rw[zyv hl];exact h0
 |tok h hk ht hr=>
  rename_i g b X t ts;rw[zyw hl ht hr];by_cases hg:g=[]
  ·subst hg
   rw[List.nil_append] at h0 ⊢;by_cases h1:t.kind=1
   ·obtain⟨c,r,e,hc,-⟩:=z3e ht h1
    rw[e,zbu (zjv hc)] at h0;cases h0
   ·rw[if_neg h1,List.nil_append]
    refine zsi _ ?_ h0;rintro rfl;have hmv:=zd5 _ _ _ _ ht;rcases hmv with h2|h2
    ·exact hk h2.1
    ·have:=h2.2.1
     rw[List.length_nil] at this;omega
  ·exact zsi _ hg h0
theorem z55 {x:List Nat}{p:Nat}{ts:List Tok}(h:Seg x p ts):∀(l:List Nat) (d:Nat),l.drop p=x->Seg (renL l p ts) (p+d) (rnT d ts):=by
 induction h with
 |fin h=>
  rename_i g p;intro l d hl;rw[zyv hl];have r:=Seg.fin (p:=p+d) h;rw[show p+d+g.length=p+g.length+d by omega] at r;exact r
 |tok h hk ht hr ih=>
  rename_i g b X p t ts;intro l d hl;rw[zyw hl ht hr];have hl2:l.drop (p+g.length+b.length)=X:=by rw[<-List.drop_drop,<-List.drop_drop,hl,List.drop_left,List.drop_left]
  have ha:=zgb _ _ _ _ ht;by_cases h1:t.kind=1
  ·obtain⟨c,r,e,hc,et,en⟩:=z3e ht h1
   have hi:=ih l (d+2) hl2;show Seg _ _ (⟨t.kind,t.at_+d,if t.kind=1 then 120::95::t.text else t.text,t.rs⟩::rnT (d+if t.kind=1 then 2 else 0) ts);rw[if_pos h1,if_pos h1,if_pos h1];have hbl:idL true (b++X)=b.length:=by omega
   have hb:b≠[]:=by
    rintro rfl;rw[e,zbu hc] at hbl;cases hbl
   have hX:idL false X=0:=by
    have key:∀(b:List Nat) (f:Bool),b≠[]->idL f (b++X)=b.length->idL false X=0:=by
     intro b
     induction b with
     |nil=>intro f hb;exact absurd rfl hb
     |cons c r ih2=>
      intro f _ hq;have hq:idL f (c::(r++X))=r.length+1:=hq;cases hlc:letB c f with
      |false=>rw[zex hlc] at hq;cases hq
      |true=>
       rw[zbu hlc] at hq;cases r with
       |nil=>exact Nat.succ.inj hq
       |cons d v=>exact ih2 false (by simp) (Nat.succ.inj hq)
    exact key b true hb hbl
   have hZ:idL false (renL l (p+g.length+b.length) ts)=0:=z8w hr l hl2 hX;refine Seg.tok (b:=[120,95]++b) h (by show t.kind≠0;exact hk) ?_ (by
    have e2:p+d+g.length+(([120,95]:List Nat)++b).length=p+g.length+b.length+(d+2):=by
     rw[List.length_append];show p+d+g.length+(2+b.length)=_;omega
    rw[e2];exact hi)
   have hid:idL false (b++renL l (p+g.length+b.length) ts)=b.length:=by
    have h2:=zys X (renL l (p+g.length+b.length) ts) hZ b true hb (by omega);rw[hbl] at h2;cases b with
    |nil=>exact absurd rfl hb
    |cons c' r'=>
     have hc':letB c' true=true:=by
      rw[List.cons_append] at e;rw[(List.cons.inj e).1];exact hc
     rw[List.cons_append,zbu hc'] at h2;rw[List.cons_append,zbu (zjv hc')];exact h2
   have hx:letB 120 true=true:=by decide
   have h95:letB 95 false=true:=by decide
   show tokL (p+d+g.length) (120::(95::(b++renL l (p+g.length+b.length) ts)))=_;rw[zci hx,zbu hx,zbu h95,hid];have htx:t.text=b:=by
    rw[et];show(b++X).take _=b;rw[hbl,List.take_left]
   have hrs:t.rs=[]:=by rw[et]
   have htk:(120::(95::(b++renL l (p+g.length+b.length) ts))).take (b.length+1+1)=120::95::b:=by
    show 120::(95::(b++_).take b.length)=_;rw[List.take_left]
   rw[htk,htx,hrs,h1,ha];have e3:p+d+g.length+(([120,95]:List Nat)++b).length=p+d+g.length+(b.length+1+1):=by
    rw[List.length_append];show p+d+g.length+(2+b.length)=_;omega
   rw[e3,show p+g.length+d=p+d+g.length by omega]
  ·have hi:=ih l d hl2
   show Seg _ _ (⟨t.kind,t.at_+d,if t.kind=1 then 120::95::t.text else t.text,t.rs⟩::rnT (d+if t.kind=1 then 2 else 0) ts);rw[if_neg h1,if_neg h1,if_neg h1,List.nil_append];refine Seg.tok h hk ?_ (by
    rw[show p+d+g.length+b.length=p+g.length+b.length+d by omega];exact hi)
   have h2:=z1y (renL l (p+g.length+b.length) ts) ht hk h1 (Nat.le_refl _);have h3:=zkd d (p+g.length) (b++renL l (p+g.length+b.length) ts);rw[h2] at h3;rw[show p+d+g.length=p+g.length+d by omega,h3];show some (shT d t,p+g.length+b.length+d)=_;rw[show p+g.length+d+b.length=p+g.length+b.length+d by omega];rfl
theorem z11 {l:List Nat}{ts:List Tok}(h:toksL l 0=.ok ts):toksL (renL l 0 ts) 0=.ok (rnT 0 ts):=by
 have h1:=Seg.of_toks (l:=l) _ 0 ts (Nat.le_refl _) (Nat.zero_le _) h;rw[List.drop_zero] at h1;exact(z55 h1 l 0 (List.drop_zero)).toks _ List.drop_zero (Nat.zero_le _)
def xN (l:List Nat):List Nat:=120::95::l
def TR (t u:Tok):Prop:=u.kind=t.kind/\u.rs=t.rs/\u.text=if t.kind=1 then xN t.text else t.text
def TsR:List Tok->List Tok->Prop
 | [],[]=>True
 |t::ts,u::us=>TR t u/\TsR ts us
 | [],_::_=>False
 |_::_,[]=>False
def FR (f g:MF):Prop:=g.nodes=f.nodes/\g.calls.map (·.1)=f.calls.map fun c=>xN c.1
def OR:PO->PO->Prop
 |.ok a f,.ok b g=>TsR a b/\FR f g
 |.bad a d,.bad b e=>TsR a b/\d=e
 |.ok _ _,.bad _ _=>False
 |.bad _ _,.ok _ _=>False
def RH (F:List Tok->MF->PO):Prop:=∀a b f g,TsR a b->FR f g->OR (F a f) (F b g)
theorem TsR.kd {a b:List Tok}(h:TsR a b):Go.Proofs.YtnmflokhnaiiiaaGreatDoor.kd b=Go.Proofs.YtnmflokhnaiiiaaGreatDoor.kd a:=by
 match a,b,h with
 | [],[],_=>rfl
 |t::ts,u::us,h=>exact h.1.1
theorem TsR.tail {a b:List Tok}(h:TsR a b):TsR a.tail b.tail:=by
 match a,b,h with
 | [],[],_=>trivial
 |t::ts,u::us,h=>exact h.2
theorem TsR.len:∀ {a b:List Tok},TsR a b->b.length=a.length
 | [],[],_=>rfl
 |t::ts,u::us,h=>by rw[List.length_cons,List.length_cons,TsR.len h.2]
theorem TsR.txt {a b:List Tok}(h:TsR a b)(hk:Go.Proofs.YtnmflokhnaiiiaaGreatDoor.kd a=1):Go.Proofs.YtnmflokhnaiiiaaGreatDoor.txt b=xN (Go.Proofs.YtnmflokhnaiiiaaGreatDoor.txt a):=by
 match a,b,h with
 | [],[],_=>cases hk
 |t::ts,u::us,h=>
  have hk:t.kind=1:=hk;show u.text=xN t.text;rw[h.1.2.2,if_pos hk]
theorem FR.len {f g:MF}(h:FR f g):g.calls.length=f.calls.length:=by
 have:=congrArg List.length h.2;rw[List.length_map,List.length_map] at this;exact this
theorem FR.last {f g:MF}(h:FR f g):lastI g=lastI f:=by
 unfold lastI;rw[h.1]
theorem FR.add {f g:MF}(h:FR f g)(n:PN):FR (addN f n) (addN g n):=⟨by show g.nodes++[n]=f.nodes++[n];rw[h.1],h.2⟩
theorem FR.call {f g:MF}{t u:Tok}(h:FR f g)(ht:TR t u)(hk:t.kind=1):FR (callF f t) (callF g u):=by
 refine⟨?_,?_⟩
 ·show g.nodes++[callN g.calls.length]=f.nodes++[callN f.calls.length]
  rw[h.1,h.len]
 ·show(g.calls++[(u.text,u.at_)]).map _=(f.calls++[(t.text,t.at_)]).map _
  rw[List.map_append,List.map_append,h.2];show _++[u.text]=_++[xN t.text];rw[ht.2.2,if_pos hk]
theorem FR.join {f g:MF}(h:FR f g)(op:Int)(ks:List Int):FR (joinN f op ks) (joinN g op ks):=by
 match ks with
 | []=>exact h.add _
 | [_]=>exact h
 |_::_::_=>exact h.add _
theorem FR.litF:∀(l:List Nat) {f g:MF} (ks:List Int),FR f g->FR (Go.Proofs.YtnmflokhnaiiiaaGreatDoor.litF f l ks).1 (Go.Proofs.YtnmflokhnaiiiaaGreatDoor.litF g l ks).1/\(Go.Proofs.YtnmflokhnaiiiaaGreatDoor.litF g l ks).2=(Go.Proofs.YtnmflokhnaiiiaaGreatDoor.litF f l ks).2
 | [],f,g,ks,h=>⟨h,rfl⟩
 |c::r,f,g,ks,h=>by
  show FR (Go.Proofs.YtnmflokhnaiiiaaGreatDoor.litF (addN f _) r _).1 (Go.Proofs.YtnmflokhnaiiiaaGreatDoor.litF (addN g _) r _).1/\_;have e:(g.nodes.length:Int)=(f.nodes.length:Int):=by rw[h.1]
  have:=FR.litF r (ks++[(f.nodes.length:Int)]) (h.add (clsN fun i=>decide (i=c)));show FR _ (Go.Proofs.YtnmflokhnaiiiaaGreatDoor.litF (addN g _) r (ks++[(g.nodes.length:Int)])).1/\(Go.Proofs.YtnmflokhnaiiiaaGreatDoor.litF (addN g _) r (ks++[(g.nodes.length:Int)])).2=_;rw[e];exact this
theorem FR.lit {f g:MF}(h:FR f g)(text:List Nat):FR (litN f text) (litN g text):=by
 obtain⟨h1,h2⟩:=FR.litF text [] h;unfold litN;rw[h2];exact h1.join _ _
theorem OR.acc {st:Bool}{a b:List Tok}{f g:MF}(h:TsR a b)(hf:FR f g):OR (Go.Proofs.YtnmflokhnaiiiaaGreatDoor.acc st a f) (Go.Proofs.YtnmflokhnaiiiaaGreatDoor.acc st b g):=by
 unfold Go.Proofs.YtnmflokhnaiiiaaGreatDoor.acc;rw[h.kd];split
 ·exact⟨h,rfl⟩
 ·exact⟨h,hf⟩
theorem OR.bind {o p:PO}{j k:List Tok->MF->PO}(h:OR o p)(hk:∀a b f g,TsR a b->FR f g->OR (j a f) (k b g)):OR (o.bind j) (p.bind k):=by
 cases o with
 |ok a f=>
  cases p with
  |ok b g=>exact hk a b f g h.1 h.2
  |bad b e=>exact h.elim
 |bad a d=>
  cases p with
  |ok b g=>exact h.elim
  |bad b e=>exact h
theorem RH.clos (st:Bool):RH (closL st):=by
 intro a b f g h hf;unfold closL;rw[h.kd];split
 ·exact OR.acc h.tail hf
 ·exact⟨h,rfl⟩
theorem RH.prim {st:Bool}{room:Nat}{rec:List Tok->MF->PO}(hr:RH rec):RH (primL st room rec):=by
 intro a b f g h hf
 match a,b,h with
 | [],[],_=>exact⟨trivial,rfl⟩
 |t::ts,u::us,h=>
  obtain⟨⟨hk,hrs,htx⟩,htl⟩:=h;have ht:TsR (t::ts) (u::us):=⟨⟨hk,hrs,htx⟩,htl⟩;unfold primL;dsimp only;rw[hk,htl.kd];by_cases h1:t.kind=1
  ·rw[if_pos h1,if_pos h1]
   split
   ·exact⟨htl,rfl⟩
   ·exact OR.acc htl (hf.call ⟨hk,hrs,htx⟩ h1)
  ·rw[if_neg h1] at htx
   rw[if_neg h1,if_neg h1];split
   ·split
    ·exact⟨ht,rfl⟩
    ·refine(OR.acc htl hf).bind fun a b f g h hf=>?_
     exact(hr a b f g h hf).bind fun a b f g h hf=>RH.clos st a b f g h hf
   ·split
    ·rw[htx];exact OR.acc htl (hf.lit _)
    ·split
     ·rw[hrs];exact OR.acc htl (hf.add _)
     ·split
      ·exact OR.acc htl (hf.add _)
      ·exact⟨ht,rfl⟩
theorem RH.sufK (st:Bool):RH (Go.Proofs.YtnmflokhnaiiiaaGreatDoor.sufK st):=by
 intro a b f g h hf;unfold Go.Proofs.YtnmflokhnaiiiaaGreatDoor.sufK;rw[h.kd,hf.last];split
 ·exact OR.acc h.tail (hf.add _)
 ·exact⟨h,hf⟩
theorem RH.suf {st:Bool}{room:Nat}{rec:List Tok->MF->PO}(hr:RH rec):RH (sufL st room rec):=by
 intro a b f g h hf;exact(RH.prim hr a b f g h hf).bind fun a b f g h hf=>RH.sufK st a b f g h hf
theorem RH.pre {st:Bool}{room:Nat}{rec:List Tok->MF->PO}(hr:RH rec):RH (preL st room rec):=by
 intro a b f g h hf;unfold preL;rw[h.kd];split
 ·refine(OR.acc h.tail hf).bind fun a b f g h hf=>?_
  refine(RH.suf hr a b f g h hf).bind fun a b f g h hf=>?_
  rw[hf.last];exact⟨h,hf.add _⟩
 ·exact RH.suf hr a b f g h hf
theorem TsR.beg {a b:List Tok}(top:Bool)(h:TsR a b):begB top b=begB top a:=by
 unfold begB;rw[h.kd,h.tail.kd]
theorem RH.parts {top:Bool}{pre:List Tok->MF->PO}(hp:RH pre):∀(n:Nat) (a b:List Tok) (f g:MF) (ks:List Int),TsR a b->FR f g->OR (zb8 top pre n a f ks) (zb8 top pre n b g ks)
 |0,_,_,_,_,_,h,_=>⟨h,rfl⟩
 |n+1,a,b,f,g,ks,h,hf=>by
  cases hb:begB top a
  ·rw[za7 hb,za7 (by rw[h.beg];exact hb)]
   exact⟨h,hf.join _ _⟩
  ·rw[zbw hb,zbw (by rw[h.beg];exact hb)]
   refine(hp a b f g h hf).bind fun a b f g h hf=>?_
   rw[hf.last];exact RH.parts hp n a b f g _ h hf
theorem RH.seq {top:Bool}{pre:List Tok->MF->PO}(hp:RH pre):RH (seqL top pre):=by
 intro a b f g h hf;unfold seqL;rw[h.len];exact RH.parts hp _ a b f g [] h hf
theorem RH.alts {st:Bool}{sq:List Tok->MF->PO}(hs:RH sq):∀(n:Nat) (a b:List Tok) (f g:MF) (ks:List Int),TsR a b->FR f g->OR (altsL st sq n a f ks) (altsL st sq n b g ks)
 |0,_,_,_,_,_,h,_=>⟨h,rfl⟩
 |n+1,a,b,f,g,ks,h,hf=>by
  rw[zch,zch];refine(hs a b f g h hf).bind fun a b f g h hf=>?_
  rw[h.kd,hf.last];split
  ·exact(OR.acc h.tail hf).bind fun a b f g h hf=>RH.alts hs n a b f g _ h hf
  ·exact⟨h,hf.join _ _⟩
theorem RH.none:RH fun a _=>.bad a false:=fun _ _ _ _ h _=>⟨h,rfl⟩
theorem RH.expr (st:Bool):∀(r:Nat) (top:Bool),RH (exprL st r top)
 |0,_=>fun a b f g h hf=>by
  show OR (altsL st _ (a.length+1) _ _ []) (altsL st _ (b.length+1) _ _ []);rw[h.len];exact RH.alts (RH.seq (RH.pre RH.none)) _ a b f g [] h hf
 |r+1,_=>fun a b f g h hf=>by
  show OR (altsL st _ (a.length+1) _ _ []) (altsL st _ (b.length+1) _ _ []);rw[h.len];exact RH.alts (RH.seq (RH.pre (RH.expr st r false))) _ a b f g [] h hf
theorem RH.defL {st:Bool}{F:List Tok->MF->PO}(hF:RH F):RH (Go.Proofs.YtnmflokhnaiiiaaGreatDoor.defL st F):=by
 intro a b f g h hf;unfold Go.Proofs.YtnmflokhnaiiiaaGreatDoor.defL;rw[h.kd];split
 ·refine(OR.acc h.tail hf).bind fun a b f g h hf=>?_
  rw[h.kd];split
  ·exact(OR.acc h.tail hf).bind fun a b f g h hf=>hF a b f g h hf
  ·exact⟨h,rfl⟩
 ·exact⟨h,rfl⟩
def RsR (rs rs':List (List Nat × Nat × Int)):Prop:=rs'.map (fun r=>(r.1,r.2.2))=rs.map fun r=>(xN r.1,r.2.2)
def FoR:FO->FO->Prop
 |.ok rs f,.ok rs' g=>RsR rs rs'/\FR f g
 |.bad _ _,.bad _ _=>True
 |.ok _ _,.bad _ _=>False
 |.bad _ _,.ok _ _=>False
theorem RH.defs {st:Bool}{F:List Tok->MF->PO}(hF:RH F):∀(n:Nat) (a b:List Tok) (f g:MF) (rs rs':List (List Nat × Nat × Int)),TsR a b->FR f g->RsR rs rs'->FoR (defsL st F n a f rs) (defsL st F n b g rs')
 |0,_,_,_,_,_,_,_,_,_=>trivial
 |n+1,a,b,f,g,rs,rs',h,hf,hr=>by
  have ho:=RH.defL (st:=st) hF a b f g h hf;unfold defsL;cases hd:Go.Proofs.YtnmflokhnaiiiaaGreatDoor.defL st F a f with
  |bad c d=>
   rw[hd] at ho;cases hd2:Go.Proofs.YtnmflokhnaiiiaaGreatDoor.defL st F b g with
   |bad c' d'=>trivial
   |ok c' k'=>rw[hd2] at ho;exact ho.elim
  |ok c k=>
   have h1:=zq9 hd;rw[hd] at ho;cases hd2:Go.Proofs.YtnmflokhnaiiiaaGreatDoor.defL st F b g with
   |bad c' d'=>rw[hd2] at ho;exact ho.elim
   |ok c' k'=>
    rw[hd2] at ho;obtain⟨h2,hf2⟩:=ho;have hr2:RsR (rs++[(txt a,pos a,lastI k)]) (rs'++[(txt b,pos b,lastI k')]):=by
     unfold RsR at hr ⊢;rw[List.map_append,List.map_append,hr];show _++[(txt b,lastI k')]=_++[(xN (txt a),lastI k)];rw[h.txt h1,hf2.last]
    dsimp only;rw[h2.kd];split
    ·exact⟨hr2,hf2⟩
    ·exact RH.defs hF n c c' k k' _ _ h2 hf2 hr2
theorem zyx:∀(ts:List Tok) (d:Nat),TsR ts (rnT d ts)
 | [],_=>trivial
 |_::ts,_=>⟨⟨rfl,rfl,rfl⟩,zyx ts _⟩
theorem z12 {l:List Nat}{rs:List (List Nat × Nat × Int)}{f:MF}(h:zaz l=.ok rs f):∃rs' g,zaz (renL l 0 (strm l 0))=.ok rs' g/\RsR rs rs'/\FR f g:=by
 obtain⟨ht,-⟩:=zne h;have hs:=zvm _ _ 0 _ (Nat.le_refl _) (Nat.zero_le _) (z11 ht);have hr:=zyx (strm l 0) 0;have key:=RH.defs (st:=true) (RH.expr true 200 true) ((strm l 0).length+1) (strm l 0) (rnT 0 (strm l 0)) ⟨[],[]⟩ ⟨[],[]⟩ [] [] hr ⟨rfl,rfl⟩ rfl;have e1:defsL true (exprL true 200 true) ((strm l 0).length+1) (strm l 0) ⟨[],[]⟩ []=.ok rs f:=h;have e2:zaz (renL l 0 (strm l 0))=defsL true (exprL true 200 true) ((strm l 0).length+1) (rnT 0 (strm l 0)) ⟨[],[]⟩ []:=by
  unfold zaz;rw[hs,hr.len]
 rw[e1] at key;rw[e2];cases ho:defsL true (exprL true 200 true) ((strm l 0).length+1) (rnT 0 (strm l 0)) ⟨[],[]⟩ [] with
 |bad c d=>rw[ho] at key;exact key.elim
 |ok rs' g=>
  rw[ho] at key;exact⟨rs',g,rfl,key.1,key.2⟩
def xB (b:ByteArray):ByteArray:=(⟨#[120,95]⟩:ByteArray)++b
def xR (r:PR):PR:=⟨xB r.name,r.root⟩
theorem z3f {a b:ByteArray}(h:xB a=xB b):a=b:=by
 have h2:=congrArg bts h;unfold xB at h2;rw[zcl,zcl] at h2;exact zow (List.append_cancel_left h2)
theorem zyy (l:List Nat):strOf (xN l)=xB (strOf l):=by
 unfold xN xB;have h:=zmq [120,95] l;exact h
theorem zsj (x:ByteArray):∀l:List ByteArray,fndL (l.map xB) (xB x)=fndL l x
 | []=>rfl
 |y::l=>by
  rw[List.map_cons];by_cases h:y=x
  ·rw[zdx h,zdx (by rw[h])]
  ·rw[zf5 h,zf5 (fun e=>h (z3f e)),zsj x l]
theorem z8x (l:List ByteArray):dupB (l.map xB)=dupB l:=by
 funext k;unfold dupB;rw[List.getElem?_map];cases l[k]? with
 |none=>rfl
 |some x=>
  show(match fndL (l.map xB) (xB x) with|some j=>decide (j<k)|none=>false)=_;rw[zsj]
  first|done|rfl
theorem z8y (l m:List ByteArray):undB (l.map xB) (m.map xB)=undB l m:=by
 funext k;unfold undB;rw[List.getElem?_map];cases m[k]? with
 |none=>rfl
 |some x=>
  show(fndL (l.map xB) (xB x)).isNone=_;rw[zsj]
theorem RsR.nm {rs rs':List (List Nat × Nat × Int)}(h:RsR rs rs'):nmR rs'=(nmR rs).map xB:=by
 have h2:=congrArg (List.map (fun p:List Nat × Int=>strOf p.1)) h;rw[List.map_map,List.map_map] at h2;unfold nmR;rw[List.map_map];refine h2.trans (List.map_congr_left fun r _=>?_);exact zyy r.1
theorem RsR.len {rs rs':List (List Nat × Nat × Int)}(h:RsR rs rs'):rs'.length=rs.length:=by
 have h2:=congrArg List.length h;rw[List.length_map,List.length_map] at h2;exact h2
theorem RsR.g {rs rs':List (List Nat × Nat × Int)}(h:RsR rs rs'):zam rs'=(zam rs).map xR:=by
 have h2:=congrArg (List.map (fun p:List Nat × Int=>(⟨strOf p.1,p.2⟩:PR))) h;rw[List.map_map,List.map_map] at h2;unfold zam;rw[List.map_map];refine h2.trans (List.map_congr_left fun r _=>?_);show PR.mk (strOf (xN r.1)) r.2.2=⟨xB (strOf r.1),r.2.2⟩;rw[zyy]
theorem FR.nm {f g:MF}(h:FR f g):nmC g=(nmC f).map xB:=by
 have h2:=congrArg (List.map strOf) h.2;rw[List.map_map,List.map_map] at h2;unfold nmC;rw[List.map_map];refine h2.trans (List.map_congr_left fun r _=>?_);exact zyy r.1
theorem z13 {l:List ByteArray}{f:MF}(hO:COk f):zan (l.map xB) ((nmC f).map xB) f.nodes=zan l (nmC f) f.nodes:=by
 unfold zan;refine List.map_congr_left fun n hn=>?_
 unfold gNode;by_cases h2:n.op=2
 ·obtain⟨i,hi⟩:=List.getElem?_of_mem hn
  obtain⟨c,hc,hl⟩:=hO.rule hi h2;rw[if_pos h2,if_pos h2,hc,Int.toNat_natCast];obtain⟨x,hx⟩:∃x,(nmC f)[c]?=some x:=⟨_,List.getElem?_eq_getElem (by rw[zcv];exact hl)⟩;have e1:((nmC f).map xB).getD c ByteArray.empty=xB x:=by rw[List.getD_eq_getElem?_getD,List.getElem?_map,hx];rfl
  have e2:(nmC f).getD c ByteArray.empty=x:=by rw[List.getD_eq_getElem?_getD,hx];rfl
  rw[e1,e2,zsj]
 ·rw[if_neg h2,if_neg h2]
theorem zmp {p:Nat->Bool}{m:Nat}(h:∀j,j<m->p j=false):fbad p m 0=none:=zmc m 0 fun j _ hj=>h j (by omega)
theorem zyz:∀l:List Nat,allF true l=true->allF false l=true
 | [],_=>rfl
 |c::r,h=>by
  cases hc:letB c true with
  |false=>rw[zoy hc] at h;cases h
  |true=>
   rw[zfe hc] at h;rw[zfe (zjv hc)];exact h
theorem z56 {b:ByteArray}(h:nameB (bts b)=true):nameB (bts (xB b))=true:=by
 unfold nameB at h;have h2:allF true (bts b)=true:=(Bool.and_eq_true_iff.1 h).2;have e:bts (xB b)=120::95::bts b:=by
  unfold xB;rw[zcl];rfl
 unfold nameB;rw[e,zfe (by decide),zfe (by decide),zyz _ h2];rfl
theorem zy0 {rs:List PR}{i:Nat}(h:zbp rs i=false):zbp (rs.map xR) i=false:=by
 unfold zbp at h ⊢;rw[List.getElem?_map];cases hr:rs[i]? with
 |none=>rfl
 |some r=>
  rw[hr] at h;obtain⟨h1,h2⟩:=Bool.or_eq_false_iff.1 h;show(((rs.map xR).take i).any (fun x=>decide (x.name=xB r.name)) || !nameB (bts (xB r.name)))=false;have h3:nameB (bts r.name)=true:=by simpa using h2
  rw[z56 h3,<-List.map_take,List.any_map,Bool.not_true,Bool.or_false,<-h1];congr 1;funext x;show decide (xB x.name=xB r.name)=_;exact decide_eq_decide.2 ⟨z3f,fun e=>by rw[e]⟩
theorem z3g (ns:List PN):∀(rs:List PR) (b:Int),ordR ns (rs.map xR) b=ordR ns rs b
 | [],_=>rfl
 |r::t,b=>by
  show(if r.root<=b∨(ns.length:Int)<=r.root∨exL ns r.root≠b then false else ordR ns (t.map xR) r.root)=_;rw[z3g ns t];rfl
theorem z8z {rs:List PR}{ns:List PN}(h:chkL rs ns=.ok):chkL (rs.map xR) ns=.ok:=by
 obtain⟨h1,h2,h3,h4,h5,h6,h7⟩:=z3k h;unfold chkL;rw[List.length_map,if_neg (by omega),if_neg (by omega),zmp (p:=zbp (rs.map xR)) (fun j hj=>zy0 (h4 j hj))];dsimp only;rw[zmp (p:=zbv ns rs.length) h5];dsimp only;rw[z3g,if_pos h6,zmp (p:=zb2 ns) (fun j hj=>decide_eq_false (by have:=h7 j hj;omega))]
theorem z14 {l:List Nat}{rs:List (List Nat × Nat × Int)}{f:MF}(h:zaz l=.ok rs f)(hO:COk f)(hd:dupO rs=none)(hu:undO (nmR rs) f=none)(hk:chkL (zam rs) (zan (nmR rs) (nmC f) f.nodes)=.ok) :
  ∃rs' g,zaz (renL l 0 (strm l 0))=.ok rs' g/\dupO rs'=none/\undO (nmR rs') g=none/\zam rs'=(zam rs).map xR/\zan (nmR rs') (nmC g) g.nodes=zan (nmR rs) (nmC f) f.nodes/\chkL (zam rs') (zan (nmR rs') (nmC g) g.nodes)=.ok:=by
 obtain⟨rs',g,h',hr,hf⟩:=z12 h;have en:zan (nmR rs') (nmC g) g.nodes=zan (nmR rs) (nmC f) f.nodes:=by rw[hr.nm,hf.nm,hf.1,z13 hO]
 have hdn:fbad (dupB (nmR rs)) rs.length 0=none:=by
  cases hb:fbad (dupB (nmR rs)) rs.length 0 with
  |none=>rfl
  |some k=>
   have hl:=(zfu _ _ _ hb).2.1;obtain⟨x,hx⟩:∃x,rs[k]?=some x:=⟨_,List.getElem?_eq_getElem (by omega)⟩;rw[zmg hb hx] at hd;cases hd
 have hun:fbad (undB (nmR rs) (nmC f)) f.calls.length 0=none:=by
  cases hb:fbad (undB (nmR rs) (nmC f)) f.calls.length 0 with
  |none=>rfl
  |some k=>
   have hl:=(zfu _ _ _ hb).2.1;obtain⟨x,hx⟩:∃x,f.calls[k]?=some x:=⟨_,List.getElem?_eq_getElem (by omega)⟩;unfold undO at hu;rw[hb,Option.bind_some,hx] at hu;cases hu
 refine⟨rs',g,h',zjp ?_,?_,hr.g,en,?_⟩
 ·rw[hr.nm,z8x,hr.len];exact hdn
 ·unfold undO
  rw[hr.nm,hf.nm,z8y,hf.len,hun];rfl
 ·rw[en,hr.g];exact z8z hk
def AtOk:Nat->List Tok->Prop
 |_,[]=>True
 |p,t::ts=>p<=t.at_/\AtOk t.at_ ts
theorem AtOk.mono {a p:Nat}(h:a<=p):∀ {ts:List Tok},AtOk p ts->AtOk a ts
 | [],_=>trivial
 |_::_,k=>⟨Nat.le_trans h k.1,k.2⟩
theorem Seg.ok {x:List Nat}{p:Nat}{ts:List Tok}(h:Seg x p ts):AtOk p ts:=by
 induction h with
 |fin h=>exact⟨Nat.le_add_right _ _,trivial⟩
 |tok h hk ht hr ih=>
  have ha:=zgb _ _ _ _ ht;exact⟨by rw[ha];exact Nat.le_add_right _ _,AtOk.mono (by rw[ha];exact Nat.le_add_right _ _) ih⟩
theorem zqj {α:Type}{l:List α}{k:Nat}{x:α}(h:l[k]?=some x):l.drop k=x::l.drop (k+1):=by
 have hk:=(List.getElem?_eq_some_iff.1 h).1;rw[List.drop_eq_getElem_cons hk];congr 1;exact(List.getElem?_eq_some_iff.1 h).2
def x_B:ByteArray:=⟨#[120,95]⟩
def RnA (s:ByteArray)(ts:List Tok)(k A:Nat)(T:ByteArray):Prop:=A<=s.size/\T.size<=A+2*k/\AtOk A (ts.drop k)/\bts T++renL (bts s) A (ts.drop k)=renL (bts s) 0 ts
theorem RnA.zero {s:ByteArray}{ts:List Tok}(h:toksL (bts s) 0=.ok ts):RnA s ts 0 0 ⟨#[]⟩:=by
 have h1:=Seg.of_toks (l:=bts s) _ 0 ts (Nat.le_refl _) (Nat.zero_le _) h;exact⟨Nat.zero_le _,Nat.le_refl _,h1.ok,rfl⟩
theorem RnA.le {s:ByteArray}{ts:List Tok}{k A:Nat}{T:ByteArray}{t:Tok}(h:RnA s ts k A T)(ht:ts[k]?=some t):A<=t.at_:=by
 have h3:=h.2.2.1;rw[zqj ht] at h3;exact h3.1
theorem RnA.mid {s:ByteArray}{ts:List Tok}{k A:Nat}{T:ByteArray}{t:Tok}(h:RnA s ts k A T)(ht:ts[k]?=some t)(hs:t.at_<=s.size):(T++s.extract A t.at_).size<=t.at_+2*k:=by
 have h1:=h.le ht;have h2:=h.2.1;rw[ByteArray.size_append,ByteArray.size_extract];omega
theorem RnA.id {s:ByteArray}{ts:List Tok}{k A:Nat}{T:ByteArray}{t:Tok}(h:RnA s ts k A T)(ht:ts[k]?=some t)(hs:t.at_<=s.size)(hk:t.kind=1):RnA s ts (k+1) t.at_ (T++s.extract A t.at_++x_B):=by
 have hm:=h.mid ht hs;obtain⟨-,-,h3,h4⟩:=h;rw[zqj ht] at h3 h4;refine⟨hs,?_,h3.2,?_⟩
 ·rw[ByteArray.size_append]
  have e:x_B.size=2:=rfl;omega
 ·rw[<-h4]
  show _=_++(((bts s).drop A).take (t.at_-A)++(if t.kind=1 then [120,95] else [])++renL (bts s) t.at_ (ts.drop (k+1)));rw[if_pos hk,zcl,zcl,zby];simp only[List.append_assoc];rfl
theorem RnA.no {s:ByteArray}{ts:List Tok}{k A:Nat}{T:ByteArray}{t:Tok}(h:RnA s ts k A T)(ht:ts[k]?=some t)(hs:t.at_<=s.size)(hk:t.kind≠1):RnA s ts (k+1) t.at_ (T++s.extract A t.at_):=by
 have hm:=h.mid ht hs;obtain⟨-,-,h3,h4⟩:=h;rw[zqj ht] at h3 h4;refine⟨hs,by omega,h3.2,?_⟩;rw[<-h4];show _=_++(((bts s).drop A).take (t.at_-A)++(if t.kind=1 then [120,95] else [])++renL (bts s) t.at_ (ts.drop (k+1)));rw[if_neg hk,zcl,zby];simp only[List.append_assoc,List.nil_append]
theorem RnA.done {s:ByteArray}{ts:List Tok}{A:Nat}{T:ByteArray}(h:RnA s ts ts.length A T):bts (T++s.extract A s.size)=renL (bts s) 0 ts/\(T++s.extract A s.size).size<=s.size+2*ts.length:=by
 obtain⟨h1,h2,-,h4⟩:=h;rw[List.drop_length] at h4;refine⟨?_,?_⟩
 ·rw[<-h4,zcl,zby]
  show _=_++(bts s).drop A;rw[List.take_of_length_le (by rw[List.length_drop,zaj];omega)]
 ·rw[ByteArray.size_append,ByteArray.size_extract]
  omega
end Go.Proofs.YtnmflokhnaiiiaaGreatDoor
