/- Layer 13: the search in breadth: rules are found by the shortest path, and of these the least one; so the first that leads back ends the cycle. Layer 13: the pa -/
import Derived.Deep.Cut
import Derived.Laws.OwnMore
import Derived.Test.YthhppmehhdlmnaaGreatDoorPzMM
import Derived.Test.YthhppmehhdlmnaaGreatDoorPzFS
import Derived.Test.YthhppmehhdlmnaaGreatDoorPzLA
import Derived.Test.YthhppmehhdlmnaaGreatDoorPzLeftSort
import Derived.Test.YthhppmehhdlmnaaGreatDoorPzLB
set_option maxRecDepth 100000
set_option maxHeartbeats 8000000
namespace Go.Proofs.YthhppmehhdlmnaaGreatDoor
def leS (l m:List Nat):Prop:=l.length<m.length∨(l.length=m.length/\(l=m∨ltL l m))
def ltS (l m:List Nat):Prop:=l.length<m.length∨(l.length=m.length/\ltL l m)
theorem ltS.le {l m:List Nat}(h:ltS l m):leS l m:=h.imp id fun h=>⟨h.1,.inr h.2⟩
theorem leS.refl (l:List Nat):leS l l:=.inr ⟨rfl,.inl rfl⟩
theorem leS.trans {l m n:List Nat}(h:leS l m)(g:leS m n):leS l n:=by
 rcases h with h|⟨h,h2⟩
 ·rcases g with g|⟨g,-⟩<;>exact .inl (by omega)
 ·rcases g with g|⟨g,g2⟩
  ·exact .inl (by omega)
  ·refine .inr ⟨by omega,?_⟩
   rcases h2 with rfl|h2
   ·exact g2
   ·rcases g2 with rfl|g2
    ·exact .inr h2
    ·exact .inr (znc h2 g2)
theorem zpb:∀ {l m:List Nat},l.length=m.length->ltL l m->∀a b:List Nat,ltL (l++a) (m++b)
 | [],[],_,h,_,_=>h.elim
 | [],_::_,h,_,_,_=>by simp at h
 |_::_,[],h,_,_,_=>by simp at h
 |x::l,y::m,h,g,a,b=>by
  rcases g with g|⟨rfl,g⟩
  ·exact .inl g
  ·exact .inr ⟨rfl,zpb (by simpa using h) g a b⟩
theorem zwq:∀(l:List Nat) {a b:Nat},a<b->ltL (l++[a]) (l++[b])
 | [],_,_,h=>.inl h
 |_::l,_,_,h=>.inr ⟨rfl,zwq l h⟩
theorem ltS.snoc {l m:List Nat}(h:ltS l m)(a b:Nat):ltS (l++[a]) (m++[b]):=by
 rcases h with h|⟨h,g⟩
 ·left;rw[List.length_append,List.length_append];simp;omega
 ·right;exact⟨by rw[List.length_append,List.length_append,h];rfl,zpb h g _ _⟩
theorem leS.snoc {l m:List Nat}(h:leS l m)(a:Nat):leS (l++[a]) (m++[a]):=by
 rcases h with h|⟨h,rfl|g⟩
 ·left;rw[List.length_append,List.length_append];simp;omega
 ·exact leS.refl _
 ·right;exact⟨by rw[List.length_append,List.length_append,h],.inr (zpb h g _ _)⟩
section
variable (calls:Nat->List Nat) (r:Nat)
def ChR (l:List Nat):Prop:=l[0]?=some r/\ChI calls l
structure BfS (sn:List Nat) (P:Nat->List Nat) (F:Nat->Option Nat) (k i:Nat):Prop where
 fst:sn[0]?=some r
 p0:P 0=[r]
 path:∀j x,sn[j]?=some x->ChR calls r (P j)/\lastL (P j)=x
 inc:∀a b,a<b->b<sn.length->ltS (P a) (P b)
 min:∀j x,sn[j]?=some x->∀m,ChR calls r m->lastL m=x->leS (P j) m
 par:∀j x,0<j->sn[j]?=some x->∃p y,p<j/\sn[p]?=some y/\P j=P p++[x]/\F x=some y/\(p<k∨(p=k/\x ∈ (calls y).take i))
 dom:∀x,(F x).isSome=true↔x ∈ sn/\x≠r
 nodup:sn.Nodup
 done:∀j y,j<k->sn[j]?=some y->∀c,c ∈ calls y->c≠r/\c ∈ sn
 part:∀y,sn[k]?=some y->∀c,c ∈ (calls y).take i->c≠r/\c ∈ sn
variable {calls r} {sn:List Nat} {P:Nat->List Nat} {F:Nat->Option Nat} {k i:Nat}
theorem BfS.start:BfS calls r [r] (fun _=>[r]) (fun _=>none) 0 0:=by
 have one:∀j x,([r]:List Nat)[j]?=some x->j=0/\x=r:=fun j x h=>by
  cases j with
  |zero=>exact⟨rfl,by simpa using h.symm⟩
  |succ j=>simp at h
 refine⟨rfl,rfl,fun j x h=>?_,fun a b h hb=>?_,fun j x h m hm hl=>?_,fun j x h h2=>?_,fun x=>?_,List.nodup_cons.2 ⟨List.not_mem_nil,List.nodup_nil⟩,fun j y h=>absurd h (Nat.not_lt_zero _),fun y h c hc=>by (rw[List.take_zero] at hc;cases hc)⟩
 ·obtain⟨-,rfl⟩:=one j x h
  exact⟨⟨rfl,fun i a b ha hb=>by have:=(List.getElem?_eq_some_iff.1 hb).1;simp at this⟩,rfl⟩
 ·simp at hb;omega
 ·have:=(List.getElem?_eq_some_iff.1 hm.1).1
  rcases Nat.lt_or_ge 1 m.length with g|g
  ·exact .inl g
  ·right
   refine⟨by simp;omega,.inl ?_⟩
   match m,hm.1,(by omega:m.length=1) with
   | [a],h1,_=>simp at h1;rw[h1]
 ·obtain⟨rfl,-⟩:=one j x h2
  omega
 ·simp
theorem BfS.lt_of (h:BfS calls r sn P F k i){m:List Nat}(hm:ChR calls r m)(hy:∀j,j<k->sn[j]?≠some (lastL m)):leS (P k) m:=by
 have key:∀(n:Nat) (m:List Nat),m.length=n->ChR calls r m->(∀j,j<k->sn[j]?≠some (lastL m))->leS (P k) m:=by
  intro n
  induction n with
  |zero=>
   intro m hl hm _;have:=(List.getElem?_eq_some_iff.1 hm.1).1;omega
  |succ n ih=>
   intro m hl hm hno;by_cases hmem:lastL m ∈ sn
   ·obtain⟨j,hj,e⟩:=List.mem_iff_getElem.1 hmem
    have hj':sn[j]?=some (lastL m):=by rw[List.getElem?_eq_getElem hj,e]
    have hjk:k<=j:=Nat.le_of_not_lt fun g=>hno j g hj'
    have h1:=h.min j _ hj' m hm rfl;rcases Nat.lt_or_ge k j with g|g
    ·exact(h.inc k j g hj).le.trans h1
    ·rw[show k=j by omega];exact h1
   ·obtain⟨m',x,rfl⟩:=zif (l:=m) (by omega)
    rw[zdn] at hmem hno;rw[List.length_append] at hl;have hl:m'.length=n:=by simpa using hl
    have hn0:0<m'.length:=by
     rcases Nat.eq_zero_or_pos m'.length with e|e
     ·rw[List.length_eq_zero_iff.1 e] at hm
      have:x=r:=by simpa using hm.1
      exact absurd (List.mem_of_getElem? (this ▸ h.fst)) hmem
     ·exact e
    have hm':ChR calls r m':=⟨by have:=hm.1;rwa [List.getElem?_append_left hn0] at this,hm.2.left⟩;have hx:=((ChI.snoc hn0).1 hm.2).2;have h1:=ih m' hl hm' fun j hj e=>hmem (h.done j _ hj e x hx).2
    refine h1.trans (.inl ?_);rw[List.length_append];simp
 exact key _ m rfl hm hy
theorem BfS.add {y x:Nat}(h:BfS calls r sn P F k i)(hy:sn[k]?=some y)(hx:(calls y)[i]?=some x)(hs:(calls y).Pairwise (· < ·))(hxr:x≠r)(hF:F x=none) :
  BfS calls r (sn++[x]) (fun j=>if j=sn.length then P k++[x] else P j) (fun z=>if z=x then some y else F z) k (i+1):=by
 have hkl:=(List.getElem?_eq_some_iff.1 hy).1;have hxs:x ∉ sn:=fun hm=>by
  have:=(h.dom x).2 ⟨hm,hxr⟩;rw[hF] at this;cases this
 have hold:∀j z,sn[j]?=some z->(sn++[x])[j]?=some z:=fun j z hz=>by rw[List.getElem?_append_left (List.getElem?_eq_some_iff.1 hz).1];exact hz
 have hnew:∀j z,(sn++[x])[j]?=some z->(j<sn.length/\sn[j]?=some z)∨(j=sn.length/\z=x):=fun j z hz=>by
  rcases Nat.lt_or_ge j sn.length with g|g
  ·rw[List.getElem?_append_left g] at hz;exact .inl ⟨g,hz⟩
  ·have hl:=(List.getElem?_eq_some_iff.1 hz).1
   rw[List.length_append] at hl;simp at hl;obtain rfl:j=sn.length:=by omega
   rw[List.getElem?_append_right g,Nat.sub_self] at hz;exact .inr ⟨rfl,by simpa using hz.symm⟩
 obtain⟨hPk,hlast⟩:=h.path k y hy;have hPk0:0<(P k).length:=(List.getElem?_eq_some_iff.1 hPk.1).1;have hxm:x ∈ calls y:=List.mem_of_getElem? hx;have hch:ChR calls r (P k++[x]):=⟨by rw[List.getElem?_append_left hPk0];exact hPk.1,(ChI.snoc hPk0).2 ⟨hPk.2,by rw[hlast];exact hxm⟩⟩;have htk:(calls y).take (i+1)=(calls y).take i++[x]:=by rw[List.take_add_one,hx];rfl
 have h0l:0<sn.length:=(List.getElem?_eq_some_iff.1 h.fst).1;refine⟨hold 0 r h.fst,by show(if 0=sn.length then _ else P 0)=_;rw[if_neg (by omega)];exact h.p0,fun j z hz=>?_,fun a b hab hb=>?_,fun j z hz m hm hl=>?_,fun j z hj hz=>?_,fun z=>?_,List.nodup_append.2 ⟨h.nodup,List.nodup_cons.2 ⟨List.not_mem_nil,List.nodup_nil⟩,fun a ha b hb e=>hxs (by have:=List.mem_singleton.1 hb;rw[<-this,<-e];exact ha)⟩,fun j z hj hz c hc=>?_,fun z hz c hc=>?_⟩
 ·rcases hnew j z hz with⟨hj,g⟩|⟨rfl,rfl⟩
  ·show ChR calls r (if j=sn.length then _ else P j)/\lastL (if j=sn.length then _ else P j)=z
   rw[if_neg (by omega)];exact h.path j z g
  ·show ChR calls r (if sn.length=sn.length then _ else P _)/\lastL (if sn.length=sn.length then _ else P _)=z
   rw[if_pos rfl];exact⟨hch,zdn _ _⟩
 ·show ltS (if a=sn.length then _ else P a) (if b=sn.length then _ else P b)
  rw[List.length_append] at hb;simp at hb;rw[if_neg (by omega)];by_cases e:b=sn.length
  ·rw[if_pos e]
   rcases Nat.eq_zero_or_pos a with rfl|ha
   ·left;rw[h.p0,List.length_append];simp;omega
   ·obtain⟨z,hz⟩:∃z,sn[a]?=some z:=⟨_,List.getElem?_eq_getElem (by omega)⟩
    obtain⟨p,u,hp,hu,hPa,-,hpk⟩:=h.par a z ha hz;rw[hPa];rcases hpk with hpk|⟨rfl,hzt⟩
    ·exact(h.inc p k hpk hkl).snoc z x
    ·rw[hy] at hu
     cases hu;right;refine⟨by rw[List.length_append,List.length_append];rfl,zwq _ ?_⟩;obtain⟨t,ht,et⟩:=List.mem_iff_getElem.1 hzt;rw[List.length_take] at ht;have hz2:(calls y)[t]?=some z:=by rw[<-List.getElem?_take_of_lt (show t<i by omega),List.getElem?_eq_getElem (by rw[List.length_take];omega),et]
     obtain⟨ht2,et2⟩:=List.getElem?_eq_some_iff.1 hz2;obtain⟨hi2,ei2⟩:=List.getElem?_eq_some_iff.1 hx;rw[<-et2,<-ei2];exact List.pairwise_iff_getElem.1 hs t i ht2 hi2 (by omega)
  ·rw[if_neg e];exact h.inc a b hab (by omega)
 ·rcases hnew j z hz with⟨hj,g⟩|⟨rfl,rfl⟩
  ·show leS (if j=sn.length then _ else P j) m
   rw[if_neg (by omega)];exact h.min j z g m hm hl
  ·show leS (if sn.length=sn.length then _ else P _) m
   rw[if_pos rfl];have hm0:0<m.length:=(List.getElem?_eq_some_iff.1 hm.1).1;obtain⟨m',u,rfl⟩:=zif hm0;rw[zdn] at hl;subst hl;have hn0:0<m'.length:=by
    rcases Nat.eq_zero_or_pos m'.length with e|e
    ·rw[List.length_eq_zero_iff.1 e] at hm
     exact absurd (show u=r by simpa using hm.1) hxr
    ·exact e
   have hm':ChR calls r m':=⟨by have:=hm.1;rwa [List.getElem?_append_left hn0] at this,hm.2.left⟩;have hu:=((ChI.snoc hn0).1 hm.2).2;exact(h.lt_of hm' fun j hj e=>hxs (h.done j _ hj e u hu).2).snoc u
 ·rcases hnew j z hz with⟨hjl,g⟩|⟨rfl,rfl⟩
  ·obtain⟨p,u,hp,hu,hPa,hFz,hpk⟩:=h.par j z hj g
   refine⟨p,u,hp,hold p u hu,?_,?_,hpk.imp id fun e=>⟨e.1,?_⟩⟩
   ·show(if j=sn.length then _ else P j)=(if p=sn.length then _ else P p)++[z]
    rw[if_neg (by omega),if_neg (by omega)];exact hPa
   ·show(if z=x then _ else F z)=_
    rw[if_neg (fun e1=>hxs (by rw[<-e1];exact List.mem_of_getElem? g))];exact hFz
   ·have hsub:∀ {l:List Nat},z ∈ l.take i->z ∈ l.take (i+1):=fun hz=>by rw[List.take_add_one];exact List.mem_append_left _ hz
    exact hsub e.2
  ·refine⟨k,y,hkl,hold k y hy,?_,if_pos rfl,.inr ⟨rfl,by rw[htk];exact List.mem_append_right _ (List.mem_singleton.2 rfl)⟩⟩
   show(if sn.length=sn.length then _ else P _)=(if k=sn.length then _ else P k)++[z];rw[if_pos rfl,if_neg (by omega)]
 ·show(if z=x then some y else F z).isSome=true↔_
  by_cases e:z=x
  ·subst e
   rw[if_pos rfl];exact⟨fun _=>⟨List.mem_append_right _ (List.mem_singleton.2 rfl),hxr⟩,fun _=>rfl⟩
  ·rw[if_neg e,h.dom,List.mem_append,List.mem_singleton]
   constructor
   ·exact fun g=>⟨.inl g.1,g.2⟩
   ·exact fun g=>⟨g.1.resolve_right e,g.2⟩
 ·rcases hnew j z hz with⟨hjl,g⟩|⟨rfl,-⟩
  ·obtain⟨a,b⟩:=h.done j z hj g c hc
   exact⟨a,List.mem_append_left _ b⟩
  ·omega
 ·rcases hnew k z hz with⟨-,g⟩|⟨e,-⟩
  ·rw[hy] at g
   cases g;rw[htk,List.mem_append,List.mem_singleton] at hc;rcases hc with hc|rfl
   ·obtain⟨a,b⟩:=h.part y hy c hc
    exact⟨a,List.mem_append_left _ b⟩
   ·exact⟨hxr,List.mem_append_right _ (List.mem_singleton.2 rfl)⟩
  ·omega
theorem BfS.old {y x:Nat}(h:BfS calls r sn P F k i)(hy:sn[k]?=some y)(hx:(calls y)[i]?=some x)(hxr:x≠r)(hF:(F x).isSome=true):BfS calls r sn P F k (i+1):=by
 have hsub:∀ {z:Nat} {l:List Nat},z ∈ l.take i->z ∈ l.take (i+1):=fun hz=>by rw[List.take_add_one];exact List.mem_append_left _ hz
 refine⟨h.fst,h.p0,h.path,h.inc,h.min,fun j z hj hz=>?_,h.dom,h.nodup,h.done,fun z hz c hc=>?_⟩
 ·obtain⟨p,u,a,b,c,d,e⟩:=h.par j z hj hz
  exact⟨p,u,a,b,c,d,e.imp id fun e=>⟨e.1,hsub e.2⟩⟩
 ·rw[hy] at hz
  cases hz;rw[List.take_add_one,hx,List.mem_append] at hc;rcases hc with hc|hc
  ·exact h.part y hy c hc
  ·obtain rfl:c=x:=by simpa using hc
   exact⟨hxr,((h.dom c).1 hF).1⟩
theorem BfS.next {y:Nat}(h:BfS calls r sn P F k i)(hy:sn[k]?=some y)(hi:(calls y).length<=i):BfS calls r sn P F (k+1) 0:=by
 refine⟨h.fst,h.p0,h.path,h.inc,h.min,fun j z hj hz=>?_,h.dom,h.nodup,fun j z hj hz c hc=>?_,fun z hz c hc=>by (rw[List.take_zero] at hc;cases hc)⟩
 ·obtain⟨p,u,a,b,c,d,e⟩:=h.par j z hj hz
  exact⟨p,u,a,b,c,d,.inl (by omega)⟩
 ·rcases Nat.lt_or_ge j k with g|g
  ·exact h.done j z g hz c hc
  ·obtain rfl:j=k:=by omega
   rw[hy] at hz;cases hz;exact h.part y hy c (by rw[List.take_of_length_le hi];exact hc)
theorem BfS.hit {y:Nat}(h:BfS calls r sn P F k i)(hy:sn[k]?=some y)(hr:r ∈ calls y):MinC calls r (P k):=by
 obtain⟨h1,h2⟩:=h.path k y hy;refine⟨zln.2 ⟨h1.1,h1.2,by rw[h2];exact hr⟩,fun m hm=>?_⟩;obtain⟨a,b,c⟩:=zln.1 hm;exact h.lt_of ⟨a,b⟩ fun j hj e=>(h.done j _ hj e r c).1 rfl
theorem BfS.over (h:BfS calls r sn P F k i)(hk:sn.length<=k):¬ ∃l,CyG calls r l:=by
 rintro⟨l,hl⟩;obtain⟨a,b,c⟩:=zln.1 hl;have key:∀(n:Nat) (m:List Nat),m.length=n->ChR calls r m->lastL m ∈ sn:=by
  intro n
  induction n with
  |zero=>intro m hm hc;have:=(List.getElem?_eq_some_iff.1 hc.1).1;omega
  |succ n ih=>
   intro m hm hc;obtain⟨m',x,rfl⟩:=zif (l:=m) (by omega);rw[zdn];rw[List.length_append] at hm;rcases Nat.eq_zero_or_pos m'.length with e|e
   ·rw[List.length_eq_zero_iff.1 e] at hc
    have:x=r:=by simpa using hc.1
    rw[this];exact List.mem_of_getElem? h.fst
   ·have hc':ChR calls r m':=⟨by have:=hc.1;rwa [List.getElem?_append_left e] at this,hc.2.left⟩
    obtain⟨j,hj,ej⟩:=List.mem_iff_getElem.1 (ih m' (by simpa using hm) hc');exact(h.done j _ (by omega) (by rw[List.getElem?_eq_getElem hj,ej]) x ((ChI.snoc e).1 hc.2).2).2
 obtain⟨j,hj,ej⟩:=List.mem_iff_getElem.1 (key _ l rfl ⟨a,b⟩);exact(h.done j _ (by omega) (by rw[List.getElem?_eq_getElem hj,ej]) r c).1 rfl
inductive PthF (F:Nat->Option Nat) (r:Nat):Nat->List Nat->Prop
 |here:PthF F r r [r]
 |step {x y:Nat} {l:List Nat}:x≠r->F x=some y->PthF F r y l->PthF F r x (l++[x])
theorem BfS.pth (h:BfS calls r sn P F k i):∀(n j x:Nat),j<n->sn[j]?=some x->PthF F r x (P j)
 |0,_,_,hj,_=>absurd hj (Nat.not_lt_zero _)
 |n+1,j,x,hj,hx=>by
  rcases Nat.eq_zero_or_pos j with rfl|h0
  ·rw[h.fst] at hx
   cases hx;rw[h.p0];exact .here
  ·obtain⟨p,y,hp,hy,e,hF,-⟩:=h.par j x h0 hx
   rw[e];refine .step (fun e1=>?_) hF (h.pth n p y (by omega) hy);subst e1;have:=zjs h.nodup hx h.fst;omega
end
section
variable (calls:Nat->List Nat) (r:Nat)
open Classical in
noncomputable def cycW:List Nat:=if h:∃l,MinC calls r l then Classical.choose h else []
variable {calls r}
theorem zpc {l:List Nat}(h:MinC calls r l):cycW calls r=l:=by
 unfold cycW;rw[dif_pos ⟨l,h⟩];exact(Classical.choose_spec (⟨l,h⟩:∃l,MinC calls r l)).unique h
theorem zwr (h:¬ ∃l,CyG calls r l):cycW calls r=[]:=by
 unfold cycW;rw[dif_neg fun⟨l,hl⟩=>h ⟨l,hl.1⟩]
theorem zlo (h:cycW calls r≠[]):MinC calls r (cycW calls r):=by
 unfold cycW at h ⊢;split
 ·rename_i g;exact Classical.choose_spec g
 ·rename_i g;rw[dif_neg g] at h;exact absurd rfl h
theorem z08:cycW calls r≠[]↔RchG calls r r:=by
 constructor
 ·exact fun h=>zwo.1 ⟨_,(zlo h).1⟩
 ·intro h e
  obtain⟨l,hl⟩:=MinC.exists (zwo.2 h);rw[zpc hl] at e;have:=hl.1.pos;rw[e] at this;exact Nat.lt_irrefl _ this
end
section
open Go.RowKit
theorem zf9 (l:List Nat):(l.map fun(k:Nat)=>Value.int .i64 (k:Int))=natsV l:=by
 unfold natsV intsV;rw[List.map_map];rfl
theorem zel (l:List Nat)(x:Nat):natsV (l++[x])=natsV l++[.int .i64 (x:Int)]:=by
 rw[<-zf9,<-zf9,List.map_append];rfl
theorem zez {l:List Nat}{k x:Nat}(h:l[k]?=some x):(natsV l)[k]?=some (.int .i64 (x:Int)):=by
 rw[<-zf9,List.getElem?_map,h];rfl
theorem zjv (w:World):(zeroValue 3).run Tryz.prog w=.ok (.int .i64 0) w:=by kernel_rfl
def finM (F:Nat->Option Nat):Nat->Option Value:=fun x=>(F x).map fun(y:Nat)=>.int .i64 (y:Int)
theorem PthF.len {F:Nat->Option Nat}{r x:Nat}{l:List Nat}(h:PthF F r x l):0<l.length:=by
 cases h with
 |here=>simp
 |step _ _ _=>simp
theorem PthF.root {F:Nat->Option Nat}{r:Nat}{l:List Nat}(h:PthF F r r l):l=[r]:=by
 cases h with
 |here=>rfl
 |step h _ _=>exact absurd rfl h
theorem PthF.inv {F:Nat->Option Nat}{r x:Nat}{l:List Nat}(h:PthF F r x l)(hx:x≠r):∃y m,F x=some y/\l=m++[x]/\PthF F r y m:=by
 cases h with
 |here=>exact absurd rfl hx
 |step _ h2 h3=>exact⟨_,_,h2,rfl,h3⟩
theorem zwu (fm r x:Nat)(F:Nat->Option Nat)(l:List Nat)(w:World)(hM:MZ w fm (finM F))(hp:PthF F r x l)(hl:l.length<=1000)(hF:∀a b,F a=some b->a<=1000) :
  Calls Tryz.prog 67 #[.map (some fm),.int .i64 (r:Int),.int .i64 (x:Int)] w (zb5 l w):=by
 obtain⟨ii,hii,hz0,hz1,hz2⟩:=info_parts za3;have HM:=Lib.hid hM;have hfl:=hM.lt;clear hM;go_enter Tryz.func67,Tryz.ntmps67;go_wp2
 go_loopw [2,7] (fun vt vl wr=>∃(c:Nat) (m t u:List Nat),vt=.int .i64 (c:Int)/\PthF F r c m/\l=m++t/\u=(c::t).reverse/\wr.ownsRow w.heap.size 3 1 vl u.length (natsV u)/\Below w.heap.size w wr) (fun _ vl _=>l.length-(match vl with|.slice _ n _=>n|_=>0))
 case atStart=>exact⟨x,l,[],[x],rfl,hp,by rw[List.append_nil],rfl,World.ownsRow_lit (size:=1) w #[.int .i64 (x:Int)] 1 (Nat.le_refl _) (by decide) rfl,zab _ _⟩
 case round=>
  obtain⟨c,m,t,u,rfl,hpm,hlm,hu,ho,hb⟩:=hrel;obtain⟨sa,sc,rfl⟩:=zad ho;have hlen:u.length=t.length+1:=by rw[hu];simp
  have HU:=Lib.hid hu;clear hu;have hml:m.length+t.length=l.length:=by rw[hlm,List.length_append]
  have hm0:=hpm.len;have HO:=Lib.hid ho;have HB:=Lib.hid hb;have HL:=Lib.hid hlen;by_cases hc:c=r
  ·subst hc
   have hmr:=hpm.root;have HR:Hid (l=(c::t)):=Lib.hid (by rw[hlm,hmr];rfl);have HV:=Lib.hid (fun W (hb:Below wr.heap.size wr W)=>zpd w.heap.size sa sc u W (by rw[zf9];exact zaa HO.out hb) (by rw[HL.out];omega) (by rw[HL.out];omega));clear ho hb hpm hlm hmr hlen
   go_wp2_with (go_at_call 108;(with_reducible refine(HV.out _ (Below.refl _ _)).mono ?_);rintro e w2 ⟨rfl,ho2,hb2⟩;have HO2:=Lib.hid ho2;have HB2:=Lib.hid hb2;clear ho2 hb2)
   go_ret;refine⟨_,rfl,?_,HB.out.trans HB2.out⟩;have h2:=HO2.out;rw[zf9] at h2;have h3:u.reverse=l:=by rw[HU.out,List.reverse_reverse,HR.out]
   have h4:u.length=l.length:=by rw[<-h3,List.length_reverse]
   rw[h3,h4] at h2;rw[h4];exact h2
  ·obtain⟨y,m',hFc,hm',hpy⟩:=hpm.inv hc
   have q1:((c:Int) != (r:Int))=true:=by rw[bne_iff_ne];omega
   have hlk:=(HM.out.below hb hfl).find (t:=101) Tryz.underlying101 (zjv wr) c (hF _ _ hFc) false;have hfy:(finM F c).getD (.int .i64 0)=.int .i64 (y:Int):=by unfold finM;rw[hFc];rfl
   simp only[hfy,Bool.false_eq_true,if_false] at hlk;have HP:=Lib.hid hpy;have HE:Hid (l=m'++(c::t)):=Lib.hid (by rw[hlm,hm',List.append_assoc];rfl);have hml':m'.length+1=m.length:=by rw[hm',List.length_append];rfl
   have hmp:=hpy.len;have HUL:=Lib.hid (show u.length<l.length by omega);clear ho hb hpm hlm hFc hm' hpy hfy hlen
   go_wp2_with (at_builtin;(refine wpList_append_own _ rfl _ _ 29 rfl w.heap.size 3 ii _ 1 8 Tryz.underlying29 hii hz0 hz1 hz2 rfl (by decide) _ u.length _ rfl (zaa HO.out (zab _ _)) ⟨_,0,none⟩ 1 1 [.int .i64 (y:Int)] rfl rfl (Bl.news (Bl.new _ 3 _)) (by simp[Value.oneCell']) (by have:=HL.out;unfold maxLen;omega) (by have:=HL.out;omega) (by have:=HB.out.size;simp;omega) ?_;intro v6 w6 hown' hgrow _;have HO6:=Lib.hid hown';have HB6:=Lib.hid ((zar HB.out).grown hgrow (zar HB.out).size (fun g e=>(HO.out.lt g e).1));clear hown' hgrow))
   go_roundw
   case rel=>
    refine⟨y,m',c::t,u++[y],rfl,HP.out,HE.out,by rw[HU.out,List.reverse_cons (a:=y)],?_,HB6.out⟩;have h6:=HO6.out;rw[<-zel] at h6;rw[List.length_append];exact h6
   case measure=>
    obtain⟨va,vc,rfl⟩:=zad HO6.out;have:=HUL.out;simp;omega
end
section
open Go.RowKit
structure KnS (rs:List PR) (ns:List PN) (w0:World) (KB:Nat) (X:Nat->Prop) (W:World):Prop where
 lo:Below w0.heap.size w0 W
 kb:w0.heap.size<=KB
 km:∃kn:Nat->Option Value,MZ W KB kn/\(∀r v,kn r=some v->W.ownsRow 0 3 1 v (zai rs ns r).length (natsV (zai rs ns r)))/\∀r v g,kn r=some v->v.ownBlock=some g->¬X g
section
variable {rs:List PR} {ns:List PN} {w0 W W':World} {KB:Nat} {X Y:Nat->Prop}
theorem KnS.lt (h:KnS rs ns w0 KB X W):KB<W.heap.size:=by obtain⟨kn,h1,-⟩:=h.km;exact h1.lt
theorem KnS.below (h:KnS rs ns w0 KB X W)(hb:Below W.heap.size W W'):KnS rs ns w0 KB X W':=by
 obtain⟨kn,h1,h2,h3⟩:=h.km;exact⟨h.lo.trans (hb.mono h.lo.size),h.kb,kn,h1.below hb h1.lt,fun r v hv=>zaa (h2 r v hv) hb,h3⟩
theorem KnS.less (h:KnS rs ns w0 KB X W)(hY:∀g,Y g->X g):KnS rs ns w0 KB Y W:=by
 obtain⟨kn,h1,h2,h3⟩:=h.km;exact⟨h.lo,h.kb,kn,h1,h2,fun r v g hv hg hy=>h3 r v g hv hg (hY g hy)⟩
theorem KnS.more (h:KnS rs ns w0 KB X W)(hY:∀g,Y g->X g∨W.heap.size<=g):KnS rs ns w0 KB Y W:=by
 obtain⟨kn,h1,h2,h3⟩:=h.km;refine⟨h.lo,h.kb,kn,h1,h2,fun r v g hv hg hy=>?_⟩;rcases hY g hy with e|e
 ·exact h3 r v g hv hg e
 ·have:=((h2 r v hv).lt g hg).2
  omega
theorem KnS.bl_ne {c:Nat}{t:TypeId}{cs:Array Value}(h:KnS rs ns w0 KB X W)(hB:Bl W c t cs):c≠KB:=by obtain⟨kn,h1,-⟩:=h.km;exact h1.bl_ne hB
theorem KnS.own_ne {base n size:Nat}{e:TypeId}{v:Value}{xs:List Value}(h:KnS rs ns w0 KB X W)(hv:W.ownsRow base e size v n xs):v.ownBlock≠some KB:=by obtain⟨kn,h1,-⟩:=h.km;exact h1.own_ne hv
theorem KnS.other {fm:Nat}{m:Nat->Option Value}(h:KnS rs ns w0 KB X W)(hg:W.grownBy W' (some fm))(hm:MZ W fm m)(hne:fm≠KB)(hf:w0.heap.size<=fm):KnS rs ns w0 KB X W':=by
 obtain⟨kn,h1,h2,h3⟩:=h.km;exact⟨h.lo.grown hg h.lo.size (fun k e=>by injection e with e;omega),h.kb,kn,h1.kept hg (fun e=>hne (by injection e with e;exact e.symm)),fun r v hv=>(h2 r v hv).kept hg (.inr (hm.own_ne (h2 r v hv))),h3⟩
theorem KnS.grow {base n:Nat}{v:Value}{xs:List Value}(h:KnS rs ns w0 KB X W)(hg:W.grownBy W' v.ownBlock)(ho:W.ownsRow base 3 1 v n xs)(hb:w0.heap.size<=base)(hX:∀g,v.ownBlock=some g->X g):KnS rs ns w0 KB X W':=by
 have hne:=h.own_ne ho;obtain⟨kn,h1,h2,h3⟩:=h.km;refine⟨h.lo.grown hg h.lo.size (fun k e=>by have:=(ho.lt k e).1;omega),h.kb,kn,h1.kept hg (fun e=>hne e.symm),fun r u hu=>(h2 r u hu).kept hg ?_,h3⟩;cases hub:u.ownBlock with
 |none=>exact .inl rfl
 |some g=>exact .inr fun e=>h3 r u g hu hub (hX g e.symm)
theorem KnS.put {kn:Nat->Option Value}{r:Nat}{v:Value}(h:KnS rs ns w0 KB X W)(hk:MZ W KB kn)(h2:∀r v,kn r=some v->W.ownsRow 0 3 1 v (zai rs ns r).length (natsV (zai rs ns r)))(h3:∀r v g,kn r=some v->v.ownBlock=some g->¬X g)(hp:MZ W' KB (putM kn r v))(hg:W.grownBy W' (some KB))(hv:W.ownsRow 0 3 1 v (zai rs ns r).length (natsV (zai rs ns r)))(hvX:∀g,v.ownBlock=some g->¬X g):KnS rs ns w0 KB X W':=by
 refine⟨h.lo.grown hg h.lo.size (fun k e=>by injection e with e;have:=h.kb;omega),h.kb,_,hp,fun q u hu=>?_,fun q u g hu hgb=>?_⟩
 ·by_cases e:q=r
  ·subst e
   rw[zdo] at hu;cases hu;exact hv.kept hg (.inr (hk.own_ne hv))
  ·rw[zdp e] at hu
   exact(h2 q u hu).kept hg (.inr (hk.own_ne (h2 q u hu)))
 ·by_cases e:q=r
  ·subst e
   rw[zdo] at hu;cases hu;exact hvX g hgb
  ·rw[zdp e] at hu
   exact h3 q u g hu hgb
end
theorem zpi (w:World):(zeroValue 29).run Tryz.prog w=.ok (.slice none 0 0) w:=by kernel_rfl
def OfL (rs:List PR)(ns:List PN)(w0:World)(KB r:Nat)(X:Nat->Prop)(W:World)(e:Ending)(w':World):Prop:=
 ∃a c,e=.returned (.slice a (zai rs ns r).length c)/\KnS rs ns w0 KB X w'/\w'.ownsRow 0 3 1 (.slice a (zai rs ns r).length c) (zai rs ns r).length (natsV (zai rs ns r))/\(∀g,(Value.slice a (zai rs ns r).length c).ownBlock=some g->¬X g/\g<w'.heap.size)/\KM KB KB W w'
theorem z55 (w0:World)(rv nv:Value)(rs:List PR)(ns:List PN)(KB r:Nat)(X:Nat->Prop)(W:World)(hR:RulesIn w0 rv rs)(hN:NodesAt w0 nv ns)(hC:CapsAt w0 nv ns.length)(hO:LeftOk rs ns)(hr:r<rs.length)(hK:KnS rs ns w0 KB X W)(hX:∀g,X g->g<W.heap.size) :
  Calls Tryz.prog 66 #[.agg #[rv,nv,.map (some KB)],.int .i64 (r:Int)] W (OfL rs ns w0 KB r X W):=by
 have hrl:=hO.rl;have HCL:=Lib.hid (fun(W':World) (hb:Below w0.heap.size w0 W')=>ze1 rv nv rs ns r W' (hR.kept hb (Nat.le_refl _)) (hN.kept hb (Nat.le_refl _)) (hC.kept hN rfl hb) hO hr);obtain⟨-,ra,rc,rfl,-⟩:=hR;obtain⟨-,na,nc,rfl,-⟩:=hN;obtain⟨kn,hk,hkv,hka⟩:=hK.km;have HKA:=Lib.hid hka;have HX:=Lib.hid hX;have hone:=zab W (.cells #[.slice ra rs.length rc,.slice na ns.length nc,.map (some KB)] 61);have hlk:=(hk.below hone hk.lt).find (t:=59) Tryz.underlying59 (zpi _) r (by omega) true;simp only[if_true] at hlk;have HB:=Lib.hid hone;have HK:=Lib.hid hK;have HKM:=Lib.hid hk;have HKV:=Lib.hid hkv;unfold zb5 at HCL;obtain⟨n,hn⟩:∃n,(zai rs ns r).length=n:=⟨_,rfl⟩;have HNL:=Lib.hid hn;clear hC hK hk hkv hka hX hone;cases hm:kn r with
 |some v=>
  rw[hm] at hlk;have ho:=HKV.out r v hm;rw[hn] at ho;obtain⟨a,c,rfl⟩:=zad ho;have HO:=Lib.hid ho;have HA:=Lib.hid (fun g=>HKA.out r _ g hm);simp only[Option.getD_some,Option.isSome_some] at hlk;clear ho hm hn;go_enter Tryz.func66,Tryz.ntmps66;go_wp2;go_ret;refine⟨a,c,by rw[HNL.out];rfl,HK.out.below HB.out,?_,by rw[HNL.out];exact fun g e=>⟨HA.out g e,by have:=(HO.out.lt g e).2;have:=HB.out.size;omega⟩,KM.of_below HB.out⟩;have:=zaa HO.out HB.out;rw[HNL.out];exact this
 |none=>
  rw[hm] at hlk;simp only[Option.getD_none,Option.isSome_none] at hlk;clear hm;rw[hn] at HCL;clear hn;go_enter Tryz.func66,Tryz.ntmps66
  go_upto_region 4 with(go_at_call 11;(with_reducible refine(HCL.out _ (HK.out.below HB.out).lo).mono ?_);rintro e w2 ⟨u,rfl,ho2,hb2⟩;obtain⟨ua,uc,rfl⟩:=zad ho2;have HO2:=Lib.hid (zax ho2 (Nat.zero_le _));have HL2:=Lib.hid (fun g e=>(ho2.lt g e).1);have HB2:=Lib.hid (bl_on HB.out hb2);have d2:w2.cell? ⟨W.heap.size,2,none⟩=some (.map (some KB)):=(((Bl.new W 61 #[.slice ra rs.length rc,.slice na ns.length nc,.map (some KB)]).below hb2)).cell (o:=2) rfl;have dl:=((Bl.new W 61 #[.slice ra rs.length rc,.slice na ns.length nc,.map (some KB)]).below hb2).lt;clear ho2 hb2)
  have hk2:=HKM.out.below HB2.out HKM.out.lt
  go_wp2_with (at_mapUpdate;refine zlp _ hk2 rfl _ _ _ 59 29 rfl Tryz.underlying59 r (by omega) (.slice ua n uc) rfl rfl rfl ?_;intro w3 hm3 hg3)
  go_ret;have h2:w2.ownsRow 0 3 1 (.slice ua n uc) (zai rs ns r).length (natsV (zai rs ns r)):=by rw[HNL.out];exact HO2.out
  refine⟨ua,uc,by rw[HNL.out];rfl,KnS.put (HK.out.below HB2.out) hk2 (fun q v hv=>zaa (HKV.out q v hv) HB2.out) HKA.out hm3 hg3 h2 (fun g e hx=>by have:=HL2.out g e;have:=HX.out g hx;have:=HB.out.size;omega),?_,fun g e=>⟨fun hx=>by have:=HL2.out g (by rw[HNL.out] at e;exact e);have:=HX.out g hx;have:=HB.out.size;omega,by have:=(h2.lt g (by rw[HNL.out] at e;exact e)).2;have:=hg3.size;omega⟩,(KM.of_below HB2.out).trans (KM.grown1 hg3)⟩;rw[HNL.out];rw[HNL.out] at h2;exact h2.kept hg3 (.inr (hk2.own_ne h2))
end
section
open Go.RowKit
section
variable {calls:Nat->List Nat} {r k i n:Nat} {sn:List Nat} {P:Nat->List Nat} {F:Nat->Option Nat}
theorem BfS.plen (h:BfS calls r sn P F k i):∀(m j x:Nat),j<m->sn[j]?=some x->(P j).length<=j+1
 |0,_,_,hj,_=>absurd hj (Nat.not_lt_zero _)
 |m+1,j,x,hj,hx=>by
  rcases Nat.eq_zero_or_pos j with rfl|h0
  ·rw[h.p0];exact Nat.le_refl _
  ·obtain⟨p,y,hp,hy,e,-,-⟩:=h.par j x h0 hx
   have:=h.plen m p y (by omega) hy;rw[e,List.length_append];simp;omega
theorem BfS.bound (h:BfS calls r sn P F k i)(hr:r<n)(hc:∀a x,x ∈ calls a->x<n):∀x,x ∈ sn->x<n:=fun x hx=>by
 obtain⟨j,hj,e⟩:=List.mem_iff_getElem.1 hx;obtain⟨h1,h2⟩:=h.path j x (by rw[List.getElem?_eq_getElem hj,e]);have h0:=(List.getElem?_eq_some_iff.1 h1.1).1;obtain⟨m,y,hm⟩:=zif h0;rw[hm,zdn] at h2;subst h2;rw[hm] at h1;rcases Nat.eq_zero_or_pos m.length with e0|e0
 ·rw[List.length_eq_zero_iff.1 e0] at h1
  have:y=r:=by simpa using h1.1
  omega
 ·exact hc _ _ ((ChI.snoc e0).1 h1.2).2
theorem BfS.short (h:BfS calls r sn P F k i)(hr:r<n)(hc:∀a x,x ∈ calls a->x<n):sn.length<=n:=zce n sn h.nodup (h.bound hr hc)
end
theorem KM.late {x y:Nat}{w W W':World}{row:Option Nat}(h:KM x y w W)(hg:W.grownBy W' row)(hr:∀g,row=some g->w.heap.size<=g):KM x y w W':=
 ⟨hg.os.trans h.os,hg.tape.trans h.tape,hg.output.trans h.output,Nat.le_trans h.size hg.size,fun k hk hx hy=>(hg.block k (Nat.lt_of_lt_of_le hk h.size) (fun e=>by have:=hr k e.symm;omega)).trans (h.block k hk hx hy)⟩
structure CyS (rs:List PR) (ns:List PN) (w0:World) (KB:Nat) (X:Nat->Prop) (w:World) (CB FM:Nat) (rv nv:Value) (sn:List Nat) (F:Nat->Option Nat) (vf:Value) (W:World):Prop where
 kn:KnS rs ns w0 KB (fun g=>X g∨vf.ownBlock=some g) W
 km:KM KB KB w W
 cb:Bl W CB 61 #[rv,nv,.map (some KB)]
 fm:MZ W FM (finM F)
 fo:W.ownsRow w.heap.size 3 1 vf sn.length (natsV sn)
 l1:w.heap.size<=CB
 l2:w.heap.size<=FM
 l0:w0.heap.size<=w.heap.size
 kl:KB<w.heap.size
section
variable {rs:List PR} {ns:List PN} {w0 w W W1 W':World} {KB CB FM:Nat} {X:Nat->Prop} {rv nv vf v5:Value} {sn:List Nat} {F:Nat->Option Nat}
theorem CyS.fm_ne (h:CyS rs ns w0 KB X w CB FM rv nv sn F vf W):FM≠KB:=by have:=h.l2;have:=h.kl;omega
theorem CyS.of (h:CyS rs ns w0 KB X w CB FM rv nv sn F vf W)(hk:KnS rs ns w0 KB (fun g=>X g∨vf.ownBlock=some g) W')(hm:KM KB KB W W'):CyS rs ns w0 KB X w CB FM rv nv sn F vf W':=
 ⟨hk,h.km.trans hm,hm.bl h.cb (h.kn.bl_ne h.cb) (h.kn.bl_ne h.cb),h.fm.block (hm.block FM h.fm.lt h.fm_ne h.fm_ne),hm.own h.fo (h.kn.own_ne h.fo) (h.kn.own_ne h.fo),h.l1,h.l2,h.l0,h.kl⟩
theorem CyS.below (h:CyS rs ns w0 KB X w CB FM rv nv sn F vf W)(hb:Below W.heap.size W W'):CyS rs ns w0 KB X w CB FM rv nv sn F vf W':=h.of (h.kn.below hb) (KM.of_below hb)
theorem CyS.fin {x y:Nat}(h:CyS rs ns w0 KB X w CB FM rv nv sn F vf W)(hp:MZ W' FM (putM (finM F) x (.int .i64 (y:Int))))(hg:W.grownBy W' (some FM)):CyS rs ns w0 KB X w CB FM rv nv sn (fun z=>if z=x then some y else F z) vf W':=by
 have h0:=h.l0;have h2:=h.l2;refine⟨h.kn.other hg h.fm h.fm_ne (by omega),h.km.late hg (fun g e=>by injection e with e;omega),?_,hp.same (fun k=>?_),h.fo.kept hg (.inr (h.fm.own_ne h.fo)),h.l1,h.l2,h.l0,h.kl⟩
 ·unfold Bl
  rw[hg.block CB h.cb.lt (fun e=>h.fm.bl_ne h.cb (by injection e))];exact h.cb
 ·by_cases e:k=x
  ·subst e
   rw[zdo];show Option.map _ (if k=k then some y else F k)=_;rw[if_pos rfl];rfl
  ·rw[zdp e]
   show Option.map _ (if k=x then some y else F k)=_;rw[if_neg e];rfl
theorem CyS.app {x:Nat}(h:CyS rs ns w0 KB X w CB FM rv nv sn F vf W)(hb:Below W.heap.size W W1)(ho:W'.ownsRow w.heap.size 3 1 v5 (sn.length+1) (natsV sn++[.int .i64 (x:Int)]))(hg:W1.grownBy W' vf.ownBlock)(hat:v5.ownBlock=vf.ownBlock∨v5.ownBlock=some W1.heap.size):CyS rs ns w0 KB X w CB FM rv nv (sn++[x]) F v5 W':=by
 have h1:=h.below hb;have hkind:∀g,vf.ownBlock=some g->∃c fz,W1.heap[g]?=some (.cells c 3 fz):=fun g e=>Lib.ownsRow_kind h1.fo g e
 refine⟨?_,h1.km.late hg (fun g e=>(h1.fo.lt g e).1),h1.cb.grown hg (fun g e=>by obtain⟨c,fz,hc⟩:=hkind g e;exact⟨c,3,fz,hc,by decide⟩),h1.fm.kept hg (fun e=>h1.fm.own_ne h1.fo e.symm),?_,h.l1,h.l2,h.l0,h.kl⟩
 ·have k1:KnS rs ns w0 KB (fun g=>(X g∨vf.ownBlock=some g)∨g=W1.heap.size) W1:=h1.kn.more fun g hg=>hg.imp id fun e=>by omega
  refine(k1.grow hg h1.fo h.l0 (fun g e=>.inl (.inr e))).less fun g hg=>?_
  rcases hg with e|e
  ·exact .inl (.inl e)
  ·rcases hat with e2|e2
   ·exact .inl (.inr (by rw[<-e2];exact e))
   ·rw[e2] at e;injection e with e;exact .inr e.symm
 ·rw[List.length_append,zel];exact ho
end
def CycIs (rs:List PR)(ns:List PN)(w0:World)(KB r:Nat)(X:Nat->Prop)(W:World)(e:Ending)(w':World):Prop:=
 ∃a c,e=.returned (.slice a (cycW (zai rs ns) r).length c)/\KnS rs ns w0 KB X w'/\w'.ownsRow W.heap.size 3 1 (.slice a (cycW (zai rs ns) r).length c) (cycW (zai rs ns) r).length (natsV (cycW (zai rs ns) r))/\KM KB KB W w'
theorem zw8 {u v:Value}(h:∀g,u.ownBlock=some g->v.ownBlock≠some g):u.ownBlock=none∨u.ownBlock≠v.ownBlock:=by
 cases hu:u.ownBlock with
 |none=>exact .inl rfl
 |some g=>exact .inr fun e=>h g hu e.symm
theorem zgr (w0:World)(rv nv:Value)(rs:List PR)(ns:List PN)(KB r:Nat)(X:Nat->Prop)(w:World)(hR:RulesIn w0 rv rs)(hN:NodesAt w0 nv ns)(hC:CapsAt w0 nv ns.length)(hO:LeftOk rs ns)(hr:r<rs.length)(hK:KnS rs ns w0 KB X w)(hX:∀g,X g->g<w.heap.size) :
  Calls Tryz.prog 37 #[.agg #[rv,nv,.map (some KB)],.int .i64 (r:Int)] w (CycIs rs ns w0 KB r X w):=by
 have hrl:=hO.rl;have HCL:=Lib.hid (fun(Y:Nat->Prop) (q:Nat) (hq:q<rs.length) (W':World) (hk:KnS rs ns w0 KB Y W') (hY:∀g,Y g->g<W'.heap.size)=>z55 w0 rv nv rs ns KB q Y W' hR hN hC hO hq hk hY);obtain⟨ii,hii,hz0,hz1,hz2⟩:=info_parts za3;obtain⟨-,ra,rc,rfl,-⟩:=hR;obtain⟨-,na,nc,rfl,-⟩:=hN;have HLT:=Lib.hid (fun(a x:Nat) (h:x ∈ zai rs ns a)=>zdr h);have HAS:=Lib.hid (fun(a:Nat)=>zgq rs ns a);have hmm:=@run_makeMap Tryz.prog;unfold OfL at HCL;have hk0:=hK.lt;have hlo:=hK.lo.size;have HK:=Lib.hid hK;have HX:=Lib.hid hX;clear hC hK hX;go_enter Tryz.func37,Tryz.ntmps37
 go_upto_region 3 with fail
 obtain⟨W3,hW3⟩:∃W3,((w.alloc (.cells #[.slice ra rs.length rc,.slice na ns.length nc,.map (some KB)] 61)).alloc (.map #[] 0)).alloc (.cells #[.int .i64 (r:Int)] 3)=W3:=⟨_,rfl⟩;have HS3:Hid (CyS rs ns w0 KB X w w.heap.size (w.heap.size+1) (.slice ra rs.length rc) (.slice na ns.length nc) [r] (fun _=>none) (.slice (some ⟨w.heap.size+1+1,0,none⟩) 1 1) W3):=Lib.hid (by
  have hb3:Below w.heap.size w W3:=by rw[<-hW3];exact zar (zar (zar (Below.refl _ _)))
  refine⟨((HK.out.more (Y:=fun g=>X g∨(Value.slice (some ⟨w.heap.size+1+1,0,none⟩) 1 1).ownBlock=some g) fun g hg=>hg.imp id fun e=>?_).below hb3),KM.of_below hb3,?_,?_,?_,Nat.le_refl _,by omega,hlo,hk0⟩
  ·have:w.heap.size+1+1=g:=by injection e
   omega
  ·rw[<-hW3];exact((Bl.new w _ _).past).past
  ·rw[<-hW3]
   have:=((MZ.made (w.alloc (.cells #[.slice ra rs.length rc,.slice na ns.length nc,.map (some KB)] 61))).same (m':=finM fun _=>none) fun _=>rfl).alloc (.cells #[.int .i64 (r:Int)] 3);simpa using this
  ·have:=World.ownsRow_lit (size:=1) (base:=w.heap.size) ((w.alloc (.cells #[.slice ra rs.length rc,.slice na ns.length nc,.map (some KB)] 61)).alloc (.map #[] 0)) #[.int .i64 (r:Int)] 1 (e:=3) (by simp;omega) (by decide) rfl
   rw[hW3] at this;rw[show natsV [r]=[.int .i64 (r:Int)] from rfl];simpa using this)
 rw[hW3];clear hW3;go_wp2
 go_loopw [7,6] (fun vn vf wr=>∃(k:Nat) (sn:List Nat) (P:Nat->List Nat) (F:Nat->Option Nat),vn=.int .i64 (k:Int)/\k<=sn.length/\BfS (zai rs ns) r sn P F k 0/\CyS rs ns w0 KB X w w.heap.size (w.heap.size+1) (.slice ra rs.length rc) (.slice na ns.length nc) sn F vf wr) (fun vn _ _=>rs.length+1-(intOf vn).toNat)
 case atStart=>exact⟨0,[r],fun _=>[r],fun _=>none,rfl,Nat.zero_le _,BfS.start,HS3.out⟩
 case round=>
  clear HS3;obtain⟨k,sn,P,F,rfl,hks,hB,hS⟩:=hrel;obtain⟨fa,fc,rfl⟩:=zad hS.fo;have HB:=Lib.hid hB;have HS:=Lib.hid hS;have hsl:=hB.short hr HLT.out;by_cases hlt:k<sn.length
  ·obtain⟨y,hy⟩:∃y,sn[k]?=some y:=⟨_,List.getElem?_eq_getElem hlt⟩
   have hyr:=hB.bound hr HLT.out y (List.mem_of_getElem? hy);obtain⟨fg,rfl,-,hcf,-⟩:=zan hS.fo (by omega);have cy:=hcf k _ (zez hy);have lf:=zac cy;have b0:wr.cell? ⟨w.heap.size,0,none⟩=some (.slice ra rs.length rc):=hS.cb.cell (o:=0) rfl;have b1:wr.cell? ⟨w.heap.size,1,none⟩=some (.slice na ns.length nc):=hS.cb.cell (o:=1) rfl;have b2:wr.cell? ⟨w.heap.size,2,none⟩=some (.map (some KB)):=hS.cb.cell (o:=2) rfl;have lb:=hS.cb.lt;have k3:(k:Int)<(sn.length:Int):=by omega
   have HCO:=Lib.hid (HCL.out _ y hyr wr.drew (hS.kn.below (Below.refl _ _).drew) (fun g hg=>by
    rcases hg with e|e
    ·have:=HX.out g e;have:=hS.km.size;simp;omega
    ·have:=(hS.fo.lt g e).2;simpa using this))
   obtain⟨l,hl⟩:∃l,zai rs ns y=l:=⟨_,rfl⟩;rw[hl] at HCO;have HL:=Lib.hid hl;have HY:=Lib.hid hy;have hll:l.length<=30:=by rw[<-hl];exact Nat.le_trans (zgo rs ns y) hrl
   clear hB hS hcf hl hy;go_wp2
   go_region_with (go_at_call 66;(with_reducible refine HCO.out.mono ?_);rintro e w4 ⟨la,lc,rfl,hk4,ho4,ha4,hm4⟩;have HS4:=Lib.hid (HS.out.of hk4 ((KM.of_below (Below.refl _ _).drew).trans hm4));have HO4:=Lib.hid ho4;have HA4:=Lib.hid ha4;clear hk4 ho4 ha4 hm4)
   all_goals (try simp only[Act.put,List.getElem_toArray,List.getElem_cons_succ,List.getElem_cons_zero,List.setIfInBounds_toArray,List.set_cons_succ,List.set_cons_zero])
   all_goals
    clear b0 b1 b2 lb cy lf HCO;go_wp2;obtain⟨wo,rfl⟩:∃wo,wo=wr:=⟨_,rfl⟩
    go_loopw [28,6] (fun vi vf wr=>∃(i:Nat) (sn:List Nat) (P:Nat->List Nat) (F:Nat->Option Nat),vi=.int .i64 (i:Int)/\i<=l.length/\sn[k]?=some y/\BfS (zai rs ns) r sn P F k i/\CyS rs ns w0 KB X w w.heap.size (w.heap.size+1) (.slice ra rs.length rc) (.slice na ns.length nc) sn F vf wr/\wr.ownsRow 0 3 1 (.slice la l.length lc) l.length (natsV l)/\∀g,(Value.slice la l.length lc).ownBlock=some g->vf.ownBlock≠some g) (fun vi _ _=>l.length-(intOf vi).toNat)
    case atStart=>exact⟨0,sn,P,F,rfl,Nat.zero_le _,HY.out,HB.out,HS4.out,HO4.out,fun g e e2=>(HA4.out g e).1 (.inr e2)⟩
    case round=>
     clear HS4 HO4 HA4 HS HB HY;obtain⟨i,sn,P,F,rfl,hi,hy,hB,hS,ho,ha⟩:=hrel;obtain⟨fa,fc,rfl⟩:=zad hS.fo;have hkl:=(List.getElem?_eq_some_iff.1 hy).1;obtain⟨fg,rfl,-,hcf,-⟩:=zan hS.fo (by omega);have cy:=hcf k _ (zez hy);have lf:=zac cy;have k3:(k:Int)<(sn.length:Int):=by omega
     have hsl:=hB.short hr HLT.out;have HB:=Lib.hid hB;have HS:=Lib.hid hS;have HO:=Lib.hid ho;have HA:=Lib.hid ha;have HY:=Lib.hid hy;by_cases hil:i<l.length
     ·obtain⟨x,hx⟩:∃x,l[i]?=some x:=⟨_,List.getElem?_eq_getElem hil⟩
      obtain⟨lg,rfl,-,hcl,-⟩:=zan ho (by omega);have cx:=hcl i _ (zez hx);have ll:=zac cx;have i1:(i:Int)<(l.length:Int):=by omega
      have hxm:x ∈ zai rs ns y:=by rw[HL.out];exact List.mem_of_getElem? hx
      have hxr:=zdr hxm;have hxi:(zai rs ns y)[i]?=some x:=by rw[HL.out];exact hx
      by_cases he:x=r
      ·subst he
       have hplen:=hB.plen (k+1) k y (by omega) hy;have hbd:=hB.bound hr HLT.out;have HPT:=Lib.hid (zwu (w.heap.size+1) x y F (P k) wr hS.fm (hB.pth (k+1) k y (by omega) hy) (by omega) (fun a b hab=>by
        have:=hbd a ((hB.dom a).1 (by rw[hab];rfl)).1;omega))
       have HCY:=Lib.hid (zpc (hB.hit hy hxm));clear hB hS ho ha hcf hcl hx hy hxm hxi hplen hbd
       go_wp2_with (go_at_call 67;(with_reducible refine HPT.out.mono ?_);rintro e w5 ⟨u,rfl,ho5,hb5⟩;obtain⟨ua,uc,rfl⟩:=zad ho5;have HO5:=Lib.hid ho5;have HB5:=Lib.hid hb5;clear ho5 hb5)
       go_ret;unfold CycIs;rw[HCY.out];exact⟨ua,uc,rfl,(HS.out.kn.below HB5.out).less (fun g h=>.inl h),zax HO5.out HS.out.km.size,HS.out.km.trans (KM.of_below HB5.out)⟩
      ·have q1:((x:Int) == (r:Int))=false:=by rw[beq_eq_false_iff_ne];omega
       have hlk:=hS.fm.find (t:=101) Tryz.underlying101 (zjv _) x (by omega) true;simp only[if_true] at hlk;have HXI:=Lib.hid hxi;cases hF:F x with
       |some z=>
        have hfz:finM F x=some (.int .i64 (z:Int)):=by unfold finM;rw[hF];rfl
        rw[hfz] at hlk;simp only[Option.getD_some,Option.isSome_some] at hlk;have HBN:=Lib.hid (hB.old hy hxi he (by rw[hF];rfl));clear hB hS ho ha hcf hcl hx hy hxm hxi hF hfz;go_wp2;go_roundw
        case rel=>exact⟨i+1,sn,P,F,by go_num,by omega,HY.out,HBN.out,HS.out,HO.out,HA.out⟩
        case measure=>simp[intOf];omega
       |none=>
        have hfz:finM F x=none:=by unfold finM;rw[hF];rfl
        rw[hfz] at hlk;simp only[Option.getD_none,Option.isSome_none] at hlk;have HBN:=Lib.hid (hB.add hy hxi (HAS.out y) he hF);have hfm:=hS.fm;have hwl:=hS.km.size;clear hB hS ho ha hcf hcl hx hy hxm hxi hF hfz
        go_wp2_with (first
         |(at_mapUpdate;refine zlp _ hfm rfl _ _ _ 101 3 rfl Tryz.underlying101 x (by omega) (.int .i64 (y:Int)) rfl rfl rfl ?_;intro w5 hm5 hg5;have HS5:=Lib.hid (HS.out.fin hm5 hg5);have HO5:=Lib.hid (HO.out.kept hg5 (.inr (hfm.own_ne HO.out)));have hz5:=hg5.size;clear hm5 hg5)
         |(at_builtin;refine wpList_append_own_at _ rfl _ _ 29 rfl w.heap.size 3 ii (.int .i64 0) 1 8 Tryz.underlying29 hii hz0 hz1 hz2 rfl (by decide) _ sn.length _ rfl (zaa HS5.out.fo (zab _ _)) ⟨w5.heap.size,0,none⟩ 1 1 [.int .i64 (x:Int)] rfl rfl (zaq _ _ _) (by simp[Value.oneCell']) (by unfold maxLen;omega) (by omega) (by simp;omega) ?_;intro v6 w6 hown' hgrow _ hat;have HS6:=Lib.hid (HS5.out.app (zab _ _) hown' hgrow hat);have HO6:=Lib.hid ((zaa HO5.out (zab _ (.cells #[.int .i64 (x:Int)] 3))).kept hgrow (zw8 HA.out));have HAT:=Lib.hid hat;clear hown' hgrow hat))
        go_roundw
        case rel=>exact⟨i+1,sn++[x],_,_,by go_num,by omega,by rw[List.getElem?_append_left hkl];exact HY.out,HBN.out,HS6.out,HO6.out,fun g e e2=>by
         have h1:=(HO.out.lt g e).2;rcases HAT.out with h|h
         ·exact HA.out g e (h.symm.trans e2)
         ·rw[h] at e2
          injection e2 with e2;simp at e2;omega⟩
        case measure=>simp[intOf];omega
     ·obtain rfl:i=l.length:=by omega
      have i1:¬(l.length:Int)<(l.length:Int):=by omega
      have HBN:=Lib.hid (hB.next hy (by rw[HL.out];exact Nat.le_refl _));clear hB hS ho ha hcf hy;go_wp2;exact⟨⟨k+1,sn,P,F,by first|go_num|omega,by omega,HBN.out,HS.out⟩,by simp[intOf];omega⟩
  ·obtain rfl:k=sn.length:=by omega
   have k3:¬(sn.length:Int)<(sn.length:Int):=by omega
   have HCY:=Lib.hid (zwr (HB.out.over (Nat.le_refl _)));clear hB hS;go_wp2;go_ret;unfold CycIs;rw[HCY.out];exact⟨none,0,rfl,HS.out.kn.less (fun g h=>.inl h),World.ownsRow_nil _ _ _ _,HS.out.km⟩
end
end Go.Proofs.YthhppmehhdlmnaaGreatDoor
