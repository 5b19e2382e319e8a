/- Layer 13: a worklist without marks over a tree: each node comes once. Layer 13: the reference's search of a cycle: all lists without repetition, longer and long -/
import Derived.Maps.Keyed
import Derived.Maps.Own
import Derived.Maps.Views
import Derived.Maps.Range
import Derived.Test.YthhppmehhdlmnaaGreatDoorPzB
import Derived.Test.YthhppmehhdlmnaaGreatDoorPzFM
import Derived.Test.YthhppmehhdlmnaaGreatDoorPzMM
import Derived.Test.YthhppmehhdlmnaaGreatDoorPzWN
set_option maxRecDepth 100000
set_option maxHeartbeats 200000
namespace Go.Proofs.YthhppmehhdlmnaaGreatDoor
structure TreeG (nd:Nat->List Nat):Prop where
 less:∀i j,j ∈ nd i->j<i
 one:∀i i' j,j ∈ nd i->j ∈ nd i'->i=i'
 nd:∀i,(nd i).Nodup
structure WkG (nd:Nat->List Nat) (root:Nat) (sn:List Nat) (k:Nat):Prop where
 nodup:sn.Nodup
 le:∀x,x ∈ sn->x<=root
 src:∀x,x ∈ sn->x=root∨∃t y,t<k/\sn[t]?=some y/\x ∈ nd y
 fst:root ∈ sn
 cls:∀t y,t<k->sn[t]?=some y->∀j,j ∈ nd y->j ∈ sn
 rch:∀x,x ∈ sn->x=root∨RchG nd root x
section
variable {nd:Nat->List Nat} {root k:Nat} {sn:List Nat}
theorem WkG.start:WkG nd root [root] 0:=
 ⟨List.nodup_cons.2 ⟨List.not_mem_nil,List.nodup_nil⟩,fun x h=>by obtain rfl:=List.mem_singleton.1 h;exact Nat.le_refl _,fun x h=>.inl (List.mem_singleton.1 h),List.mem_singleton.2 rfl,fun t y h=>absurd h (Nat.not_lt_zero _),fun x h=>.inl (List.mem_singleton.1 h)⟩
theorem WkG.len (h:WkG nd root sn k):sn.length<=root+1:=zce _ _ h.nodup fun x hx=>Nat.lt_succ_of_le (h.le x hx)
theorem zjs:∀ {l:List Nat},l.Nodup->∀ {i j x:Nat},l[i]?=some x->l[j]?=some x->i=j
 | [],_,i,j,x,h,_=>by simp at h
 |a::l,h,0,0,x,_,_=>rfl
 |a::l,h,0,j+1,x,hi,hj=>by
  obtain rfl:a=x:=by simpa using hi
  exact absurd (List.mem_of_getElem? (show l[j]?=some a from hj)) (List.nodup_cons.1 h).1
 |a::l,h,i+1,0,x,hi,hj=>by
  obtain rfl:a=x:=by simpa using hj
  exact absurd (List.mem_of_getElem? (show l[i]?=some a from hi)) (List.nodup_cons.1 h).1
 |a::l,h,i+1,j+1,x,hi,hj=>by rw[zjs (List.nodup_cons.1 h).2 (show l[i]?=some x from hi) hj]
theorem WkG.step (hT:TreeG nd)(h:WkG nd root sn k){y:Nat}(hy:sn[k]?=some y):WkG nd root (sn++nd y) (k+1):=by
 have hkl:=(List.getElem?_eq_some_iff.1 hy).1;have hym:=List.mem_of_getElem? hy;have hold:∀t z,sn[t]?=some z->(sn++nd y)[t]?=some z:=fun t z hz=>by rw[List.getElem?_append_left (List.getElem?_eq_some_iff.1 hz).1];exact hz
 refine⟨List.nodup_append.2 ⟨h.nodup,hT.nd y,fun a ha b hb e=>?_⟩,fun x hx=>?_,fun x hx=>?_,List.mem_append_left _ h.fst,fun t z ht hz j hj=>?_,fun x hx=>?_⟩
 ·subst e
  rcases h.src a ha with rfl|⟨t,z,ht,hz,hj⟩
  ·have:=hT.less y a hb
   have:=h.le y hym;omega
  ·obtain rfl:=hT.one _ _ _ hj hb
   have:=zjs h.nodup hz hy;omega
 ·rcases List.mem_append.1 hx with hx|hx
  ·exact h.le x hx
  ·have:=hT.less y x hx
   have:=h.le y hym;omega
 ·rcases List.mem_append.1 hx with hx|hx
  ·rcases h.src x hx with e|⟨t,z,ht,hz,hj⟩
   ·exact .inl e
   ·exact .inr ⟨t,z,by omega,hold t z hz,hj⟩
  ·exact .inr ⟨k,y,by omega,hold k y hy,hx⟩
 ·rcases Nat.lt_or_ge t k with g|g
  ·rw[List.getElem?_append_left (by omega)] at hz
   exact List.mem_append_left _ (h.cls t z g hz j hj)
  ·obtain rfl:t=k:=by omega
   rw[hold t y hy] at hz;cases hz;exact List.mem_append_right _ hj
 ·rcases List.mem_append.1 hx with hx|hx
  ·exact h.rch x hx
  ·rcases h.rch y hym with rfl|g
   ·exact .inr (.one hx)
   ·exact .inr (g.trans (.one hx))
theorem WkG.over (h:WkG nd root sn k)(hk:sn.length<=k)(x:Nat):x ∈ sn↔x=root∨RchG nd root x:=by
 refine⟨h.rch x,?_⟩;have hc:∀a,a ∈ sn->∀j,j ∈ nd a->j ∈ sn:=fun a ha j hj=>by
  obtain⟨t,ht,e⟩:=List.mem_iff_getElem.1 ha;exact h.cls t a (by omega) (by rw[List.getElem?_eq_getElem ht,e]) j hj
 rintro(rfl|g)
 ·exact h.fst
 ·exact g.closed hc h.fst
end
section
variable (calls:Nat->List Nat) (r:Nat)
def lastL (l:List Nat):Nat:=l.getLastD 0
def nextS (all:List (List Nat)):List (List Nat):=all.flatMap fun l=>((calls (lastL l)).filter fun x=>decide (x ∉ l)).map fun x=>l++[x]
def allS:Nat->List (List Nat)
 |0=>[[r]]
 |k+1=>nextS calls (allS k)
def ltB (a b:List Nat):Bool:=match a,b with
 |x::l,y::m=>decide (x<y) || (decide (x=y)&&ltB l m)
 |_,_=>false
def bestS:List (List Nat)->List Nat->List Nat
 | [],b=>b
 |l::t,b=>bestS t (if decide (r ∈ calls (lastL l))&&(b.isEmpty || ltB l b) then l else b)
variable {calls r}
theorem yaai:∀ {l m:List Nat},ltB l m=true↔ltL l m
 | [],m=>by unfold ltB ltL;simp
 |_::_,[]=>by unfold ltB ltL;simp
 |a::l,b::m=>by
  unfold ltB ltL;rw[Bool.or_eq_true,Bool.and_eq_true,decide_eq_true_iff,decide_eq_true_iff,yaai]
theorem zdn (l:List Nat)(x:Nat):lastL (l++[x])=x:=by unfold lastL;simp
theorem zif {l:List Nat}(h:0<l.length):∃m x,l=m++[x]:=by
 refine⟨l.dropLast,l.getLast (by intro e;rw[e] at h;cases h),(List.dropLast_concat_getLast _).symm⟩
theorem ChI.left {l:List Nat}{x:Nat}(h:ChI calls (l++[x])):ChI calls l:=fun i a b ha hb=>h i a b (by rw[List.getElem?_append_left (List.getElem?_eq_some_iff.1 ha).1];exact ha) (by rw[List.getElem?_append_left (List.getElem?_eq_some_iff.1 hb).1];exact hb)
theorem ChI.snoc {l:List Nat}{x:Nat}(h0:0<l.length):ChI calls (l++[x])↔ChI calls l/\x ∈ calls (lastL l):=by
 obtain⟨m,y,rfl⟩:=zif h0;rw[zdn];constructor
 ·refine fun h=>⟨h.left,h m.length y x ?_ ?_⟩
  ·rw[List.getElem?_append_left (by simp),List.getElem?_append_right (Nat.le_refl _),Nat.sub_self];rfl
  ·rw[List.getElem?_append_right (by simp)];simp
 ·rintro⟨h,hx⟩ i a b ha hb
  rcases Nat.lt_or_ge (i+1) (m++[y]).length with g|g
  ·rw[List.getElem?_append_left (by omega)] at ha
   rw[List.getElem?_append_left g] at hb;exact h i a b ha hb
  ·have hl:=(List.getElem?_eq_some_iff.1 hb).1
   simp at hl g;obtain rfl:i=m.length:=by omega
   rw[List.getElem?_append_left (by simp),List.getElem?_append_right (Nat.le_refl _),Nat.sub_self] at ha;rw[List.getElem?_append_right (by simp)] at hb;simp at ha hb;subst ha hb;exact hx
theorem z9j:∀ {k:Nat} {l:List Nat},l ∈ allS calls r k↔l.length=k+1/\l[0]?=some r/\ChI calls l/\l.Nodup
 |0,l=>by
  unfold allS;rw[List.mem_singleton];constructor
  ·rintro rfl
   exact⟨rfl,rfl,fun i a b ha hb=>by have:=(List.getElem?_eq_some_iff.1 hb).1;simp at this,List.nodup_cons.2 ⟨List.not_mem_nil,List.nodup_nil⟩⟩
  ·rintro⟨h1,h2,-,-⟩
   match l,h1 with
   | [a],_=>simp at h2;rw[h2]
 |k+1,l=>by
  unfold allS nextS;rw[List.mem_flatMap];constructor
  ·rintro⟨m,hm,hl⟩
   obtain⟨x,hx,rfl⟩:=List.mem_map.1 hl;obtain⟨hx1,hx2⟩:=List.mem_filter.1 hx;obtain⟨a,b,c,d⟩:=z9j.1 hm;refine⟨by rw[List.length_append,a];rfl,by rw[List.getElem?_append_left (by omega)];exact b,(ChI.snoc (by omega)).2 ⟨c,hx1⟩,List.nodup_append.2 ⟨d,List.nodup_cons.2 ⟨List.not_mem_nil,List.nodup_nil⟩,fun y hy z hz e=>?_⟩⟩;obtain rfl:=List.mem_singleton.1 hz;exact of_decide_eq_true hx2 (e ▸ hy)
  ·rintro⟨a,b,c,d⟩
   obtain⟨m,x,rfl⟩:=zif (l:=l) (by omega);rw[List.length_append] at a;have a:m.length=k+1:=by simpa using a
   obtain⟨c1,c2⟩:=(ChI.snoc (by omega)).1 c;obtain⟨d1,-,d3⟩:=List.nodup_append.1 d;exact⟨m,z9j.2 ⟨a,by rw[List.getElem?_append_left (by omega)] at b;exact b,c1,d1⟩,List.mem_map.2 ⟨x,List.mem_filter.2 ⟨c2,decide_eq_true fun hx=>d3 x hx x (List.mem_singleton.2 rfl) rfl⟩,rfl⟩⟩
theorem z9o {k:Nat}:∀(t:List (List Nat)) (b:List Nat),(∀l,l ∈ t->l.length=k+1)->(b=[]∨b.length=k+1) ->
  (bestS calls r t b=[]↔b=[]/\∀l,l ∈ t->r ∉ calls (lastL l)) /\
  (bestS calls r t b=b∨(bestS calls r t b ∈ t/\r ∈ calls (lastL (bestS calls r t b)))) /\
  (b≠[]->bestS calls r t b=b∨ltL (bestS calls r t b) b) /\
  ∀l,l ∈ t->r ∈ calls (lastL l)->bestS calls r t b=l∨ltL (bestS calls r t b) l
 | [],b,_,_=>⟨⟨fun h=>⟨h,fun l hl=>by cases hl⟩,fun h=>h.1⟩,.inl rfl,fun _=>.inl rfl,fun l hl=>by cases hl⟩
 |x::t,b,ht,hb=>by
  have hx:=ht x (List.mem_cons_self ..);have hxn:x≠[]:=fun e=>by rw[e] at hx;cases hx
  unfold bestS;by_cases hc:(decide (r ∈ calls (lastL x))&&(b.isEmpty || ltB x b))=true
  ·rw[if_pos hc]
   rw[Bool.and_eq_true,Bool.or_eq_true,decide_eq_true_iff,yaai] at hc;obtain⟨i1,i2,i3,i4⟩:=z9o t x (fun l hl=>ht l (List.mem_cons_of_mem _ hl)) (.inr hx);refine⟨⟨fun h=>absurd (i1.1 h).1 hxn,fun h=>absurd hc.1 (h.2 x (List.mem_cons_self ..))⟩,.inr ?_,fun hbn=>?_,fun l hl hr=>?_⟩
   ·rcases i2 with e|⟨e1,e2⟩
    ·rw[e];exact⟨List.mem_cons_self ..,hc.1⟩
    ·exact⟨List.mem_cons_of_mem _ e1,e2⟩
   ·have hlt:ltL x b:=hc.2.resolve_left fun e=>hbn (List.isEmpty_iff.1 e)
    rcases i3 hxn with e|e
    ·rw[e];exact .inr hlt
    ·exact .inr (znc e hlt)
   ·rcases List.mem_cons.1 hl with rfl|hl
    ·exact i3 hxn
    ·exact i4 l hl hr
  ·rw[if_neg hc]
   obtain⟨i1,i2,i3,i4⟩:=z9o t b (fun l hl=>ht l (List.mem_cons_of_mem _ hl)) hb;have hno:b=[]->r ∉ calls (lastL x):=fun e hr=>hc (by rw[e,decide_eq_true hr];rfl)
   refine⟨⟨fun h=>⟨(i1.1 h).1,fun l hl=>?_⟩,fun h=>i1.2 ⟨h.1,fun l hl=>h.2 l (List.mem_cons_of_mem _ hl)⟩⟩,i2.elim .inl fun e=>.inr ⟨List.mem_cons_of_mem _ e.1,e.2⟩,i3,fun l hl hr=>?_⟩
   ·rcases List.mem_cons.1 hl with rfl|hl
    ·exact hno (i1.1 h).1
    ·exact(i1.1 h).2 l hl
   ·rcases List.mem_cons.1 hl with rfl|hl
    ·have hbn:b≠[]:=fun e=>hno e hr
     have hnl:¬ltL l b:=fun e=>hc (by rw[decide_eq_true hr,(yaai).2 e,Bool.or_true];rfl)
     have hbl:b=l∨ltL b l:=by
      rcases yaaa (l:=l) (m:=b) (by rw[hx];exact(hb.resolve_left hbn).symm) with e|e|e
      ·exact .inl e.symm
      ·exact absurd e hnl
      ·exact .inr e
     rcases i3 hbn with e|e
     ·rw[e];exact hbl
     ·rcases hbl with rfl|g
      ·exact .inr e
      ·exact .inr (znc e g)
    ·exact i4 l hl hr
theorem zln {l:List Nat}:CyG calls r l↔l[0]?=some r/\ChI calls l/\r ∈ calls (lastL l):=by
 constructor
 ·exact fun h=>⟨h.1,(ChI.snoc h.pos).1 h.2⟩
 ·rintro⟨h0,h⟩
  exact⟨h0,(ChI.snoc (List.getElem?_eq_some_iff.1 h0).1).2 h⟩
theorem yaay {k:Nat}(h:bestS calls r (allS calls r k) []=[]){m:List Nat}(hm:CyG calls r m)(hs:m.Nodup):m.length≠k+1:=fun e=>by
 obtain⟨a,b,c⟩:=zln.1 hm;exact((z9o (k:=k) _ _ (fun l hl=>(z9j.1 hl).1) (.inl rfl)).1.1 h).2 m (z9j.2 ⟨e,a,b,hs⟩) c
theorem zfl:∀ {l:List Nat},(∀i j x:Nat,l[i]?=some x->l[j]?=some x->i=j)->l.Nodup
 | [],_=>List.nodup_nil
 |a::l,h=>List.nodup_cons.2 ⟨fun ha=>by
   obtain⟨t,ht,e⟩:=List.mem_iff_getElem.1 ha;have:=h 0 (t+1) a rfl (by show l[t]?=some a;rw[List.getElem?_eq_getElem ht,e]);omega,zfl fun i j x hi hj=>by have:=h (i+1) (j+1) x hi hj;omega⟩
theorem yaba {k:Nat}(hno:∀j,j<k->bestS calls r (allS calls r j) []=[]){l:List Nat}(h:bestS calls r (allS calls r k) []=l)(hl:l≠[]):MinC calls r l:=by
 obtain⟨-,i2,-,i4⟩:=z9o (calls:=calls) (r:=r) (k:=k) (allS calls r k) [] (fun l hl=>(z9j.1 hl).1) (.inl rfl);rw[h] at i2 i4;obtain⟨hm,hr⟩:=i2.resolve_left hl;obtain⟨a,b,c,d⟩:=z9j.1 hm;refine MinC.of_simple (zln.2 ⟨b,c,hr⟩) (fun m hcm hs hlt=>?_) (fun m hcm hs he=>?_)
 ·have:=hcm.pos
  exact yaay (hno (m.length-1) (by omega)) hcm (zfl hs) (by omega)
 ·obtain⟨a1,a2,a3⟩:=zln.1 hcm
  exact i4 m (z9j.2 ⟨by omega,a1,a2,zfl hs⟩) a3
theorem yaaz {n:Nat}(hN:∀i,i<n->∀j,j ∈ calls i->j<n)(hr:r<n)(hno:∀j,j<n->bestS calls r (allS calls r j) []=[]):¬ ∃l,CyG calls r l:=fun h=>by
 obtain⟨l,hl⟩:=MinC.exists h;have hmin:∀x,CyG calls r x->l.length<=x.length:=fun x hx=>by rcases hl.2 x hx with a|⟨a,-⟩<;>omega
 have hd:=zfl fun i j x=>hl.1.simple hmin (i:=i) (j:=j) (x:=x)
 have hlt:∀(i x:Nat),l[i]?=some x->x<n:=by
  intro i
  induction i with
  |zero=>
   intro x hx;rw[hl.1.1] at hx;cases hx;exact hr
  |succ i ih=>
   intro x hx;obtain⟨y,hy⟩:∃y,l[i]?=some y:=⟨_,List.getElem?_eq_getElem (by have:=(List.getElem?_eq_some_iff.1 hx).1;omega)⟩;exact hN y (ih y hy) x ((zln.1 hl.1).2.1 i y x hy hx)
 have hle:l.length<=n:=zce n l hd fun x hx=>by
  obtain⟨t,ht,e⟩:=List.mem_iff_getElem.1 hx;exact hlt t x (by rw[List.getElem?_eq_getElem ht,e])
 have:=hl.1.pos;exact yaay (hno (l.length-1) (by omega)) hl.1 hd (by omega)
end
section
open Go.RowKit Go.Maps
def heldR (v:Value):Option (DataW Value × List MemPlace):=some (.held v,[])
theorem zrj:Keyed Tryz.prog 3:=int_keyed Tryz.underlying3
theorem keyZ (n:Nat)(hn:n<=1000):keyOf Tryz.prog 3 (.int .i64 (n:Int))=some (.int .i64 (n:Int)):=keyOf_int_mk Tryz.underlying3 (by
 show decide _=true;rw[decide_eq_true_eq];have h1:(-9223372036854775808:Int)<=(n:Int):=by omega
 have h2:(n:Int)<=9223372036854775807:=by omega
 first
  |exact⟨h1,h2⟩
  |(simp;omega))
theorem litZ (n:Nat):WideAt.IsKeyLit (.int .i64 (n:Int)):=trivial
def MZ (w:World)(b:Nat)(m:Nat->Option Value):Prop:=∃D:DataW Value,w.ownsMap Tryz.prog 3 heldR b 1001 D/\IsMap D/\(∀k:Nat,∀z,D.atKey (.int .i64 (k:Int)) z=(match m k with|some v=>.held v|none=>z))/\∀l,has D l=true->∃k:Nat,k<=1000/\l=.int .i64 (k:Int)/\(m k).isSome=true
def keyN:Lit->Nat
 |.int _ a=>a.toNat
 |_=>0
theorem zws {w:World}{b n:Nat}{D:DataW Value}(h:w.ownsMap Tryz.prog 3 heldR b n D)(h4:∀l,has D l=true->∃k:Nat,k<=1000/\l=.int .i64 (k:Int)):∃es,D=.map es/\es.Pairwise (fun p q=>p.1≠q.1)/\∀p,p ∈ es->∃k:Nat,k<=1000/\p.1=.int .i64 (k:Int):=by
 obtain⟨es,rfl,hpw,hkl⟩:=h.entries zrj;refine⟨es,rfl,hpw,fun p hp=>h4 _ ?_⟩;rw[has_eq,List.any_eq_true];exact⟨p,hp,WideAt.sameKey_self (hkl p hp)⟩
theorem z09 {w:World}{b n:Nat}{D:DataW Value}(h:w.ownsMap Tryz.prog 3 heldR b n D)(h4:∀l,has D l=true->∃k:Nat,k<=1000/\l=.int .i64 (k:Int)):w.ownsMap Tryz.prog 3 heldR b 1001 D:=by
 obtain⟨es,hD,hpw,hk⟩:=zws h h4;obtain⟨xs,clock,hb,F,-,hx⟩:=h;refine⟨xs,clock,hb,F,?_,hx⟩;rw[hD] at hx;injection hx with hx;have e1:es.length=xs.size:=by rw[hx,length_sorted,List.length_map,Array.length_toList]
 rw[<-e1];have e2:=zce 1001 (es.map fun p=>keyN p.1) (by
  rw[List.nodup_iff_pairwise_ne,List.pairwise_map];refine hpw.imp_of_mem fun {p q} hp hq hne e=>hne ?_
  obtain⟨a,-,ha⟩:=hk p hp;obtain⟨c,-,hc⟩:=hk q hq;rw[ha,hc] at e ⊢;have:a=c:=by simpa [keyN] using e
  rw[this]) (fun x hx=>by
  obtain⟨p,hp,rfl⟩:=List.mem_map.1 hx;obtain⟨a,ha0,ha⟩:=hk p hp;rw[ha];show((a:Int)).toNat<1001;omega)
 rwa [List.length_map] at e2
def putM (m:Nat->Option Value)(k:Nat)(v:Value):Nat->Option Value:=fun i=>if i=k then some v else m i
theorem zdo {m:Nat->Option Value}{k:Nat}{v:Value}:putM m k v k=some v:=if_pos rfl
theorem zdp {m:Nat->Option Value}{k i:Nat}{v:Value}(h:i≠k):putM m k v i=m i:=if_neg h
section
variable {w w':World} {b:Nat} {m:Nat->Option Value}
theorem MZ.made (w:World):MZ (w.alloc (.map #[] 0)) w.heap.size (fun _=>none):=
 ⟨.map [],(World.ownsMap_made _ _ _ _).mono (by omega),isMap_empty,fun _ _=>rfl,fun l h=>by cases h⟩
theorem MZ.lt (h:MZ w b m):b<w.heap.size:=by obtain⟨D,h1,-⟩:=h;exact h1.lt
theorem MZ.same {m':Nat->Option Value}(h:MZ w b m)(hm:∀k,m' k=m k):MZ w b m':=by rw[show m'=m from funext hm];exact h
theorem MZ.block (h:MZ w b m)(hb:w'.heap[b]?=w.heap[b]?):MZ w' b m:=by
 obtain⟨D,⟨es,clock,h0,h1⟩,h2⟩:=h;exact⟨D,⟨es,clock,hb.trans h0,h1⟩,h2⟩
theorem MZ.below (h:MZ w b m){B:Nat}(hb:Below B w w')(hB:b<B):MZ w' b m:=h.block (hb.block b hB)
theorem MZ.kept (h:MZ w b m){row:Option Nat}(hg:w.grownBy w' row)(hne:some b≠row):MZ w' b m:=h.block (hg.block b h.lt hne)
theorem MZ.alloc (h:MZ w b m)(o:Obj):MZ (w.alloc o) b m:=by obtain⟨D,h1,h2⟩:=h;exact⟨D,h1.alloc o,h2⟩
theorem MZ.drew (h:MZ w b m):MZ w.drew b m:=h
theorem MZ.set (h:MZ w b m)(a:Addr)(v:Value)(hne:a.block≠b):MZ (w.setCell a v) b m:=h.block (heap_setCell_other _ _ _ _ (Ne.symm hne))
theorem MZ.not_cells (h:MZ w b m){t:TypeId}{cs:Array Value}{fz:Nat × Nat}:w.heap[b]?≠some (.cells cs t fz):=by
 obtain⟨D,⟨es,clock,h0,-⟩,-⟩:=h;rw[h0];intro e;cases e
theorem MZ.find (h:MZ w b m){t e:TypeId}{z:Value}(ht:Tryz.prog.underlying t=some (.map 3 e))(hz:(zeroValue e).run Tryz.prog w=.ok z w)(k:Nat)(hk:k<=1000)(c:Bool) :
  (Instr.lookup t (.map (some b)) (.int .i64 (k:Int)) c).run Tryz.prog w=.ok (if c then .tuple #[(m k).getD z,.bool (m k).isSome] else (m k).getD z) w:=by
 obtain⟨D,⟨es,clock,hb,F,_,rfl⟩,h2,h3,h4⟩:=h;rcases fit_look c zrj ht hz hb F (keyZ k hk) with⟨hrun,_,hat⟩|⟨e0,y,_,_,hrun,hRv,hat,_⟩
 ·rw[hrun]
  have h5:=h3 k .nil;have h6:=hat .nil;rw[h6] at h5;cases hm:m k with
  |none=>rfl
  |some v=>rw[hm] at h5;cases h5
 ·rw[hrun]
  have h5:=h3 k .nil;rw[hat .nil] at h5;injection hRv with hRv;rw[<-hRv] at h5;cases hm:m k with
  |none=>rw[hm] at h5;cases h5
  |some v=>rw[hm] at h5;injection h5 with h5;rw[h5];rfl
theorem MZ.put {n k:Nat}{v:Value}{D:DataW Value}(hk:k<=1000)(h1:w.ownsMap Tryz.prog 3 heldR b n (D.put (.int .i64 (k:Int)) (.held v)))(h2:IsMap D)(h3:∀k:Nat,∀z,D.atKey (.int .i64 (k:Int)) z=(match m k with|some v=>.held v|none=>z))(h4:∀l,has D l=true->∃k:Nat,k<=1000/\l=.int .i64 (k:Int)/\(m k).isSome=true):MZ w b (putM m k v):=by
 have key:∀l,has (D.put (.int .i64 (k:Int)) (.held v)) l=true->∃i:Nat,i<=1000/\l=.int .i64 (i:Int)/\(putM m k v i).isSome=true:=fun l hl=>by
  by_cases e:l=.int .i64 (k:Int)
  ·exact⟨k,hk,e,by rw[zdo];rfl⟩
  ·rw[has_put_other e] at hl
   obtain⟨i,hi0,hi,hs⟩:=h4 l hl;refine⟨i,hi0,hi,?_⟩;by_cases e2:i=k
   ·rw[e2,zdo];rfl
   ·rw[zdp e2];exact hs
 refine⟨_,z09 h1 fun l hl=>by obtain⟨i,a,c,-⟩:=key l hl;exact⟨i,a,c⟩,h2.put _ _,fun i z=>?_,key⟩;by_cases e:i=k
 ·subst e
  rw[atKey_put_same h2 (litZ i),zdo]
 ·rw[atKey_put_other (by intro he;injection he with _ he;omega),zdp e]
  exact h3 i z
end
theorem zlp {b:Nat}{m:Nat->Option Value}(w:World)(h:MZ w b m){ops:Array Oper}{rest:List Oper}{o:Oper}{a:Act}{Q:Exit->Act->World->Prop}
  (hg:o.guard=none) (mm x v:Operand) (t e:TypeId) (hop:o.op=Op.mapUpdate t mm x v) (ht:Tryz.prog.underlying t=some (.map 3 e)) (k:Nat) (hk:k<=1000) (val:Value) (hm:a.eval mm=.map (some b)) (hx:a.eval x=.int .i64 (k:Int)) (hv:a.eval v=val)
  (hK:∀w',MZ w' b (putM m k val)->w.grownBy w' (some b)->wpList Tryz.prog ops Q rest (a.put o.dst undef) w') :
  wpList Tryz.prog ops Q (o::rest) a w:=by
 obtain⟨D,h1,h2,h3,h4⟩:=h;exact wpList_mapUpdate_own w hg mm x v t hop 3 e zrj ht heldR b 1001 D hm h1 (by unfold maxLen;omega) _ val _ hx hv (keyZ k hk) (.held val) [] rfl fun w' g1 g2=>hK w' (MZ.put hk g1 h2 h3 h4) g2
end
section
variable {ns:List PN} {i:Nat} {n:PN}
theorem zih (hA:exL ns i ≠ -2)(hn:ns[i]?=some n){p:Nat}{k:Int}(hk:n.kids[p]?=some k):exL ns k ≠ -2/\exL ns k=(if p=0 then exL ns i else n.kids.getD (p-1) 0):=by
 have hq:=zg0 ns (i:Int) (by omega);rw[show(i:Int).toNat=i by omega,zbn hn] at hq;have:=zhw n.kids.reverse _ (exL ns i) hq.symm hA p k (by rw[List.reverse_reverse];exact hk);rw[List.reverse_reverse] at this;exact this
theorem zhl (hA:exL ns i ≠ -2)(hn:ns[i]?=some n){p:Nat}{k k':Int}(hk:n.kids[p]?=some k)(hk':n.kids[p+1]?=some k'):exL ns k'=k/\k<k':=by
 obtain⟨h1,h2⟩:=zih hA hn hk';rw[if_neg (Nat.succ_ne_zero _),Nat.add_sub_cancel,List.getD_eq_getElem?_getD,hk] at h2;have h2:exL ns k'=k:=h2;have:=zd5 ns k' h1;exact⟨h2,by omega⟩
theorem zrk (hA:exL ns i ≠ -2)(hn:ns[i]?=some n):∀(d p:Nat) (k k':Int),n.kids[p]?=some k->n.kids[p+d+1]?=some k'->k<k'
 |0,p,k,k',hk,hk'=>(zhl hA hn hk hk').2
 |d+1,p,k,k',hk,hk'=>by
  obtain⟨z,hz⟩:∃z,n.kids[p+d+1]?=some z:=⟨_,List.getElem?_eq_getElem (by have:=(List.getElem?_eq_some_iff.1 hk').1;omega)⟩;have h1:=zrk hA hn d p k z hk hz;have h2:=(zhl hA hn hz (show n.kids[p+d+1+1]?=some k' from hk')).2;omega
theorem zpe (hA:exL ns i ≠ -2)(hn:ns[i]?=some n):∀(p:Nat) (k:Int),n.kids[p]?=some k->exL ns i<=exL ns k
 |0,k,hk=>by rw[(zih hA hn hk).2,if_pos rfl];exact Int.le_refl _
 |p+1,k,hk=>by
  obtain⟨z,hz⟩:∃z,n.kids[p]?=some z:=⟨_,List.getElem?_eq_getElem (by have:=(List.getElem?_eq_some_iff.1 hk).1;omega)⟩;have h1:=zpe hA hn p z hz;have h2:=zd5 ns z (zih hA hn hz).1;have h3:=(zhl hA hn hz hk).1;omega
theorem zrl (hA:exL ns i ≠ -2)(hn:ns[i]?=some n){k:Int}(hk:n.kids[n.kids.length-1]?=some k):k+1=(i:Int):=by
 have hq:=zg0 ns (i:Int) (by omega);rw[show(i:Int).toNat=i by omega,zbn hn] at hq;have hl:=(List.getElem?_eq_some_iff.1 hk).1;have h0:n.kids.reverse[0]?=some k:=by rw[List.getElem?_reverse (by omega)];exact hk
 cases hr:n.kids.reverse with
 |nil=>rw[hr] at h0;cases h0
 |cons x t=>
  rw[hr] at hq h0;obtain⟨e,-,-⟩:=zbe (show zas (exL ns) (x::t) ((i:Int)-1) ≠ -2 by rw[<-hq];exact hA);have:x=k:=by simpa using h0
  omega
theorem zem (hA:exL ns i ≠ -2)(hn:ns[i]?=some n){p:Nat}{k:Int}(hk:n.kids[p]?=some k):0<=k/\k<(i:Int):=by
 have hl:=(List.getElem?_eq_some_iff.1 hk).1;refine⟨(zd5 ns k (zih hA hn hk).1).2.2,?_⟩;obtain⟨z,hz⟩:∃z,n.kids[n.kids.length-1]?=some z:=⟨_,List.getElem?_eq_getElem (by omega)⟩;have h1:=zrl hA hn hz;rcases Nat.lt_or_ge p (n.kids.length-1) with g|g
 ·have:=zrk hA hn (n.kids.length-1-p-1) p k z hk (by rw[show p+(n.kids.length-1-p-1)+1=n.kids.length-1 by omega];exact hz)
  omega
 ·rw[show n.kids.length-1=p by omega,hk] at hz
  cases hz;omega
theorem zrm {x:Int}:∀(d p:Nat) (k z:Int),p+d+1=n.kids.length->n.kids[p]?=some k->k<x->n.kids[n.kids.length-1]?=some z->x<=z->∃q a b,p<=q/\n.kids[q]?=some a/\n.kids[q+1]?=some b/\a<x/\x<=b
 |0,p,k,z,hl,hk,hkx,hz,hxz=>by
  rw[show n.kids.length-1=p by omega,hk] at hz;cases hz;omega
 |d+1,p,k,z,hl,hk,hkx,hz,hxz=>by
  obtain⟨y,hy⟩:∃y,n.kids[p+1]?=some y:=⟨_,List.getElem?_eq_getElem (by omega)⟩;rcases Int.lt_or_le y x with g|g
  ·obtain⟨q,a,b,h1,h2⟩:=zrm d (p+1) y z (by omega) hy g hz hxz
   exact⟨q,a,b,by omega,h2⟩
  ·exact⟨p,k,y,Nat.le_refl _,hk,hy,hkx,g⟩
theorem zjw {i':Nat}{n':PN}(hA:exL ns i ≠ -2)(hn:ns[i]?=some n)(hA':exL ns i' ≠ -2)(hn':ns[i']?=some n'){p p':Nat}{k:Int}(hk:n.kids[p]?=some k)(hk':n'.kids[p']?=some k):¬i<i':=fun hlt=>by
 have hl:=(List.getElem?_eq_some_iff.1 hk').1;obtain⟨z,hz⟩:∃z,n'.kids[n'.kids.length-1]?=some z:=⟨_,List.getElem?_eq_getElem (by omega)⟩;have hz1:=zrl hA' hn' hz;have hki:=(zem hA hn hk).2;obtain⟨q,a,b,h1,ha,hb,h2,h3⟩:=zrm (n:=n') (x:=(i:Int)) (n'.kids.length-p'-1) p' k z (by omega) hk' hki hz (by omega);have hex:=(zhl hA' hn' ha hb).1;have hbt:=(zdg (x:=(i:Int)) (zih hA' hn' hb).1 (by omega) h3).2;have hlow:=zpe hA hn p k hk;have hkl:=zd5 ns k (zih hA hn hk).1;have hak:k<=a:=by
  rcases Nat.lt_or_ge p' q with g|g
  ·have:=zrk hA' hn' (q-p'-1) p' k a hk' (by rw[show p'+(q-p'-1)+1=q by omega];exact ha)
   omega
  ·rw[show q=p' by omega,hk'] at ha
   cases ha;omega
 omega
theorem z5z {i':Nat}{n':PN}(hA:exL ns i ≠ -2)(hn:ns[i]?=some n)(hA':exL ns i' ≠ -2)(hn':ns[i']?=some n'){k:Int}(hk:k ∈ n.kids)(hk':k ∈ n'.kids):i=i':=by
 obtain⟨p,hp,e⟩:=List.mem_iff_getElem.1 hk;obtain⟨p',hp',e'⟩:=List.mem_iff_getElem.1 hk';have h1:n.kids[p]?=some k:=by rw[List.getElem?_eq_getElem hp,e]
 have h2:n'.kids[p']?=some k:=by rw[List.getElem?_eq_getElem hp',e']
 rcases Nat.lt_trichotomy i i' with g|g|g
 ·exact absurd g (zjw hA hn hA' hn' h1 h2)
 ·exact g
 ·exact absurd g (zjw hA' hn' hA hn h2 h1)
end
def clW (ns:List PN)(i:Nat):Option Nat:=match ns[i]? with
 |some n=>if n.op=2 then some n.rule.toNat else none
 |none=>none
theorem zdz {ns:List PN}{i:Nat}{n:PN}(h:ns[i]?=some n)(h2:n.op=2):clW ns i=some n.rule.toNat:=by unfold clW;rw[h];exact if_pos h2
theorem zii {ns:List PN}{i:Nat}{n:PN}(h:ns[i]?=some n)(h2:n.op≠2):clW ns i=none:=by unfold clW;rw[h];exact if_neg h2
theorem zij (L:List Fc):∀ks:List Int,(seqNd L ks).Sublist ks
 | []=>List.Sublist.refl _
 |k::r=>by
  unfold seqNd;split
  ·exact(zij L r).cons_cons k
  ·exact(List.nil_sublist r).cons_cons k
theorem zhm {rs:List PR}{ns:List PN}{L:List Fc}{i j:Nat}(hA:∀x:Nat,x<ns.length->exL ns x ≠ -2)(hc:clW ns i=none)(hj:j ∈ needW rs ns L i):∃n,ns[i]?=some n/\exL ns i ≠ -2/\(j:Int) ∈ n.kids:=by
 cases hn:ns[i]? with
 |none=>unfold needW at hj;rw[hn] at hj;cases hj
 |some n=>
  rw[zc8 hn] at hj;have hi:=(List.getElem?_eq_some_iff.1 hn).1;have h2:n.op≠2:=fun h=>by rw[zdz hn h] at hc;cases hc
  obtain⟨k,hk,rfl⟩:=List.mem_map.1 hj;have hk':k ∈ n.kids:=by
   unfold needN at hk;rw[if_neg h2] at hk;split at hk
   ·exact zh9 _ _ _ hk
   ·exact hk
  obtain⟨p,hp,e⟩:=List.mem_iff_getElem.1 hk';have h0:=(zem (hA i hi) hn (show n.kids[p]?=some k by rw[List.getElem?_eq_getElem hp,e])).1;exact⟨n,rfl,hA i hi,by rw[Int.toNat_of_nonneg h0];exact hk'⟩
theorem zrn:∀ {ks:List Int},(∀d p k k',ks[p]?=some k->ks[p+d+1]?=some k'->k<k')->ks.Nodup
 | [],_=>List.nodup_nil
 |a::r,h=>List.nodup_cons.2 ⟨fun ha=>by
   obtain⟨t,ht,e⟩:=List.mem_iff_getElem.1 ha;have:=h t 0 a a rfl (by show r[0+t]?=some a;rw[Nat.zero_add,List.getElem?_eq_getElem ht,e]);omega,zrn fun d p k k' hk hk'=>h d (p+1) k k' hk (by rw[show p+1+d+1=p+d+1+1 by omega];exact hk')⟩
theorem znf:∀ {ks:List Int},(∀k,k ∈ ks->0<=k)->ks.Nodup->(ks.map Int.toNat).Nodup
 | [],_,_=>List.nodup_nil
 |a::r,h0,h=>List.nodup_cons.2 ⟨fun ha=>by
   obtain⟨b,hb,e⟩:=List.mem_map.1 ha;have h1:=h0 a (List.mem_cons_self ..);have h2:=h0 b (List.mem_cons_of_mem _ hb);have:a=b:=by omega
   subst this;exact(List.nodup_cons.1 h).1 hb,znf (fun k hk=>h0 k (List.mem_cons_of_mem _ hk)) (List.nodup_cons.1 h).2⟩
theorem zls {rs:List PR}{ns:List PN}{L:List Fc}(hA:∀x:Nat,x<ns.length->exL ns x ≠ -2):TreeG (ndC (needW rs ns L) (clW ns)):=by
 refine⟨fun i j h=>?_,fun i i' j h h'=>?_,fun i=>?_⟩
 ·obtain⟨hc,hj⟩:=zcz.1 h
  obtain⟨n,hn,hAi,hk⟩:=zhm hA hc hj;obtain⟨p,hp,e⟩:=List.mem_iff_getElem.1 hk;have:=(zem hAi hn (show n.kids[p]?=some (j:Int) by rw[List.getElem?_eq_getElem hp,e])).2;omega
 ·obtain⟨hc,hj⟩:=zcz.1 h
  obtain⟨hc',hj'⟩:=zcz.1 h';obtain⟨n,hn,hAi,hk⟩:=zhm hA hc hj;obtain⟨n',hn',hAi',hk'⟩:=zhm hA hc' hj';exact z5z hAi hn hAi' hn' hk hk'
 ·cases hc:clW ns i with
  |some x=>rw[zlr hc];exact List.nodup_nil
  |none=>
   rw[zlq hc];cases hn:ns[i]? with
   |none=>unfold needW;rw[hn];exact List.nodup_nil
   |some n=>
    rw[zc8 hn];have hi:=(List.getElem?_eq_some_iff.1 hn).1;have h2:n.op≠2:=fun h=>by rw[zdz hn h] at hc;cases hc
    have hs:(needN rs L n).Sublist n.kids:=by
     unfold needN;rw[if_neg h2];split
     ·exact zij _ _
     ·exact List.Sublist.refl _
    refine znf (fun k hk=>?_) ((zrn (zrk (hA i hi) hn)).sublist hs);obtain⟨p,hp,e⟩:=List.mem_iff_getElem.1 (hs.subset hk);exact(zem (hA i hi) hn (show n.kids[p]?=some k by rw[List.getElem?_eq_getElem hp,e])).1
section
variable (nd:Nat->List Nat) (cl:Nat->Option Nat)
def ClsF (M C:Nat->Bool)(y:Nat):Prop:=(∀j,j ∈ nd y->M j=true)/\∀r,cl y=some r->C r=true
def PreF (i:Nat)(M C:Nat->Bool):Prop:=∀y,y<=i->M y=true->ClsF nd cl M C y
structure PostF (i:Nat) (M C M' C':Nat->Bool):Prop where
 mono:∀y,M y=true->M' y=true
 cmono:∀r,C r=true->C' r=true
 here:M' i=true
 up:∀y,i<y->M' y=M y
 cls:PreF nd cl i M' C'
 src:∀y,M' y=true->M y=true∨y=i∨RchG nd i y
 csrc:∀r,C' r=true->C r=true∨∃c,(c=i∨RchG nd i c)/\cl c=some r
structure MidF (i:Nat) (l:List Nat) (k:Nat) (M C M' C':Nat->Bool):Prop where
 mono:∀y,M y=true->M' y=true
 cmono:∀r,C r=true->C' r=true
 here:M' i=true
 up:∀y,i<y->M' y=M y
 cls:∀y,y<i->M' y=true->ClsF nd cl M' C' y
 done:∀j,j ∈ l.take k->M' j=true
 src:∀y,M' y=true->M y=true∨y=i∨RchG nd i y
 csrc:∀r,C' r=true->C r=true∨∃c,(c=i∨RchG nd i c)/\cl c=some r
variable {nd cl} {i:Nat} {M C M' C' M2 C2:Nat->Bool}
def setB (M:Nat->Bool)(i:Nat):Nat->Bool:=fun y=>M y || decide (y=i)
theorem zik:setB M i i=true:=by unfold setB;simp
theorem ze0 {y:Nat}(h:y≠i):setB M i y=M y:=by unfold setB;rw[decide_eq_false h,Bool.or_false]
theorem zdq {y:Nat}(h:M y=true):setB M i y=true:=by unfold setB;rw[h];rfl
theorem zlt {y:Nat}(h:setB M i y=true):M y=true∨y=i:=by
 unfold setB at h;rw[Bool.or_eq_true] at h;exact h.imp id of_decide_eq_true
theorem PostF.met (h:PreF nd cl i M C)(hi:M i=true):PostF nd cl i M C M C:=
 ⟨fun _ h=>h,fun _ h=>h,hi,fun _ _=>rfl,h,fun _ h=>.inl h,fun _ h=>.inl h⟩
theorem PostF.call {x:Nat}(h:PreF nd cl i M C)(hc:cl i=some x)(hn:nd i=[]):PostF nd cl i M C (setB M i) (setB C x):=by
 refine⟨fun _ h=>zdq h,fun _ h=>zdq h,zik,fun y hy=>ze0 (by omega),fun y hy hm=>?_,fun y hy=>(zlt hy).imp id .inl,fun r hr=>(zlt hr).imp id fun e=>⟨i,.inl rfl,by rw[e];exact hc⟩⟩;by_cases e:y=i
 ·subst e
  refine⟨fun j hj=>by (rw[hn] at hj;cases hj),fun r hr=>?_⟩;rw[hc] at hr;cases hr;exact zik
 ·rw[ze0 e] at hm
  obtain⟨a,b⟩:=h y hy hm;exact⟨fun j hj=>zdq (a j hj),fun r hr=>zdq (b r hr)⟩
theorem MidF.start (h:PreF nd cl i M C):MidF nd cl i (nd i) 0 M C (setB M i) C:=by
 refine⟨fun _ h=>zdq h,fun _ h=>h,zik,fun y hy=>ze0 (by omega),fun y hy hm=>?_,fun j hj=>by (rw[List.take_zero] at hj;cases hj),fun y hy=>(zlt hy).imp id .inl,fun r hr=>.inl hr⟩;rw[ze0 (by omega)] at hm;obtain⟨a,b⟩:=h y (by omega) hm;exact⟨fun j hj=>zdq (a j hj),b⟩
theorem MidF.pre {k j:Nat}{l:List Nat}(h:MidF nd cl i l k M C M' C')(hj:j<i):PreF nd cl j M' C':=fun y hy hm=>h.cls y (by omega) hm
theorem MidF.step {k j:Nat}(h:MidF nd cl i (nd i) k M C M' C')(hj:(nd i)[k]?=some j)(hlt:∀y j,j ∈ nd y->j<y)(g:PostF nd cl j M' C' M2 C2):MidF nd cl i (nd i) (k+1) M C M2 C2:=by
 have hm:=List.mem_of_getElem? hj;have hji:=hlt _ _ hm;refine⟨fun y hy=>g.mono y (h.mono y hy),fun r hr=>g.cmono r (h.cmono r hr),g.mono i h.here,fun y hy=>(g.up y (by omega)).trans (h.up y hy),fun y hy hy2=>?_,fun x hx=>?_,fun y hy=>?_,fun r hr=>?_⟩
 ·rcases Nat.lt_or_ge j y with e|e
  ·rw[g.up y e] at hy2
   obtain⟨a,b⟩:=h.cls y hy hy2;exact⟨fun x hx=>g.mono x (a x hx),fun r hr=>g.cmono r (b r hr)⟩
  ·exact g.cls y e hy2
 ·rw[List.take_add_one,hj,List.mem_append] at hx
  rcases hx with hx|hx
  ·exact g.mono x (h.done x hx)
  ·obtain rfl:x=j:=by simpa using hx
   exact g.here
 ·rcases g.src y hy with e|e|e
  ·exact h.src y e
  ·exact .inr (.inr (e ▸ .one hm))
  ·exact .inr (.inr (.more hm e))
 ·rcases g.csrc r hr with e|⟨c,e,f⟩
  ·exact h.csrc r e
  ·exact .inr ⟨c,.inr (e.elim (fun e=>e ▸ .one hm) (fun e=>.more hm e)),f⟩
theorem MidF.over (h:MidF nd cl i (nd i) (nd i).length M C M' C')(hc:cl i=none):PostF nd cl i M C M' C':=by
 refine⟨h.mono,h.cmono,h.here,h.up,fun y hy hm=>?_,h.src,h.csrc⟩;rcases Nat.lt_or_ge y i with e|e
 ·exact h.cls y e hm
 ·obtain rfl:y=i:=by omega
  refine⟨fun j hj=>h.done j (by rw[List.take_length];exact hj),fun r hr=>by (rw[hc] at hr;cases hr)⟩
theorem PostF.root {need:Nat->List Nat}(hlt:∀y j,j ∈ ndC need cl y->j<y)(h:PostF (ndC need cl) cl i (fun _=>false) (fun _=>false) M' C')(r:Nat):C' r=true↔LcG need cl i r:=by
 rw[LcG.iff];constructor
 ·exact fun hr=>(h.csrc r hr).resolve_left (by decide)
 ·rintro⟨c,hc,hr⟩
  have hle:∀ {a b:Nat},RchG (ndC need cl) a b->b<a:=fun h=>by
   induction h with
   |one h=>exact hlt _ _ h
   |more h _ ih=>exact Nat.lt_trans ih (hlt _ _ h)
  have hci:c<=i:=hc.elim (fun e=>Nat.le_of_eq e) (fun e=>Nat.le_of_lt (hle e));have hm:M' c=true:=by
   rcases hc with rfl|hc
   ·exact h.here
   ·have key:∀ {a b:Nat},RchG (ndC need cl) a b->a<=i->M' a=true->M' b=true:=fun g=>by
     induction g with
     |one g=>exact fun ha hm=>(h.cls _ ha hm).1 _ g
     |more g _ ih=>exact fun ha hm=>ih (Nat.le_of_lt (Nat.lt_of_lt_of_le (hlt _ _ g) ha)) ((h.cls _ ha hm).1 _ g)
    exact key hc (Nat.le_refl _) h.here
  exact(h.cls c hci hm).2 r hr
end
section
open Classical in
noncomputable def lcB (rs:List PR)(ns:List PN)(r x:Nat):Bool:=decide (LcG (needW rs ns (lfp rs ns)) (clW ns) (rootF rs (r:Int)).toNat x)
noncomputable def zai (rs:List PR)(ns:List PN)(r:Nat):List Nat:=(List.range rs.length).filter (lcB rs ns r)
theorem zwx {rs:List PR}{ns:List PN}{r x:Nat}:lcB rs ns r x=true↔LcG (needW rs ns (lfp rs ns)) (clW ns) (rootF rs (r:Int)).toNat x:=by unfold lcB;exact @decide_eq_true_iff _ (Classical.propDecidable _)
theorem zgo (rs:List PR)(ns:List PN)(r:Nat):(zai rs ns r).length<=rs.length:=by
 have:=List.length_filter_le (lcB rs ns r) (List.range rs.length);rwa [List.length_range] at this
theorem zdr {rs:List PR}{ns:List PN}{r x:Nat}(h:x ∈ zai rs ns r):x<rs.length:=List.mem_range.1 (List.mem_filter.1 h).1
variable {rs:List PR} {ns:List PN}
theorem lc_lt (hok:∀n,n ∈ ns->NodeIn rs ns.length n){i x:Nat}(h:LcG (needW rs ns (lfp rs ns)) (clW ns) i x):x<rs.length:=by
 obtain⟨c,-,hc⟩:=LcG.iff.1 h;cases hn:ns[c]? with
 |none=>unfold clW at hc;rw[hn] at hc;cases hc
 |some n=>
  by_cases h2:n.op=2
  ·rw[zdz hn h2] at hc
   obtain⟨r,y,e1,e2,-⟩:=(hok n (List.mem_of_getElem? hn)).root h2;cases hc;have:=(List.getElem?_eq_some_iff.1 e2).1;omega
  ·rw[zii hn h2] at hc;cases hc
theorem zgp (hok:∀n,n ∈ ns->NodeIn rs ns.length n){r x:Nat}:x ∈ zai rs ns r↔LcG (needW rs ns (lfp rs ns)) (clW ns) (rootF rs (r:Int)).toNat x:=by
 unfold zai;rw[List.mem_filter,List.mem_range,zwx];exact⟨fun h=>h.2,fun h=>⟨lc_lt hok h,h⟩⟩
end
end Go.Proofs.YthhppmehhdlmnaaGreatDoor
