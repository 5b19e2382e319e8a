/- The names of a file as plain functions: the first index of a name, what is wrong first, the grammar of a file; and what goes over from the tokens of a file to t -/
import Derived.Deep.RegionWith
import Derived.Test.YtmopdlbpkiaoeaaGreatDoorPqGA
set_option maxRecDepth 100000
set_option maxHeartbeats 4000000
namespace Go.Proofs.YtmopdlbpkiaoeaaGreatDoor
open Bool renaming true_and->qen
open Go.Lib renaming hid->qaa
open Go.Proofs.Tryz renaming prog->qab, underlying3->qc1, underlying9->qba
open Go.WideMaps renaming keyOf_string_mk->qej
open Go.World renaming size_alloc->qbl
open List renaming getElem?_append_left->qb4, getElem?_append_right->qbg, getElem?_eq_getElem->qae, getElem?_eq_some_iff->qag, getElem?_map->qax, length_append->qad, length_map->qaw, length_singleton->qai, mem_cons_self->qap, mem_of_getElem?->qan, take_append_of_le_length->qcy, take_length->qbz
open Nat renaming le_refl->qac, not_lt_zero->qa3, sub_self->qb8, zero_le->qaj
open Option.some renaming inj->qar
variable {st:Bool}{x:ByteArray}{rs:List (List Nat × Nat × Int)}{l m:List ByteArray}{f:MF}{b i k room:Nat}{n:PN}{w w':World}
section
def fndL:List ByteArray->ByteArray->Option Nat
 | [],_=>none
 |y::l,x=>if y=x then some 0 else (fndL l x).map (· + 1)
theorem zdx {y:ByteArray}(h:y=x):fndL (y::l) x=some 0:=if_pos h
theorem zf5 {y:ByteArray}(h:y≠x):fndL (y::l) x=(fndL l x).map (· + 1):=if_neg h
theorem zcf (y x:ByteArray):∀l:List ByteArray,fndL (l++[y]) x=match fndL l x with
  |some i=>some i
  |none=>if y=x then some l.length else none
 | []=>by
  show(if y=x then some 0 else (Option.map (· + 1) none))=_;rfl
 |z::l=>by
  show fndL (z::(l++[y])) x=_;by_cases hz:z=x
  ·rw[zdx hz,zdx hz]
  ·rw[zf5 hz,zf5 hz,zcf y x l]
   cases fndL l x with
   |some i=>rfl
   |none=>
    dsimp only[Option.map];by_cases hy:y=x
    ·rw[if_pos hy,if_pos hy];rfl
    ·rw[if_neg hy,if_neg hy]
theorem zfc {x:ByteArray}:∀ {l:List ByteArray} {i:Nat},fndL l x=some i->l[i]?=some x/\∀j:Nat,j<i->l[j]?≠some x
 | [],_,h=>by cases h
 |y::l,i,h=>by
  by_cases hy:y=x
  ·rw[zdx hy] at h
   cases h;exact⟨by rw[hy];rfl,fun j hj=>absurd hj (qa3 _)⟩
  ·rw[zf5 hy] at h
   obtain⟨k,hk,rfl⟩:=Option.map_eq_some_iff.1 h;obtain⟨h1,h2⟩:=zfc hk;refine⟨h1,fun j hj=>?_⟩;cases j with
   |zero=>intro e;exact hy (qar e)
   |succ j=>exact h2 j U
theorem zn7 {x:ByteArray}:∀ {l:List ByteArray},fndL l x=none->∀j:Nat,l[j]?≠some x
 | [],_,j=>jc
 |y::l,h,j=>by
  by_cases hy:y=x
  ·rw[zdx hy] at h;cases h
  ·rw[zf5 hy] at h
   cases j with
   |zero=>intro e;exact hy (qar e)
   |succ j=>exact zn7 (Option.map_eq_none_iff.1 h) j
theorem zgu {j:Nat}(h:l[j]?=some x):∃i,fndL l x=some i/\i<=j:=by
 cases hf:fndL l x with
 |none=>exact absurd h (zn7 hf j)
 |some i=>
  refine⟨i,rfl,?_⟩;obtain⟨-,h2⟩:=zfc hf;by_cases hj:j<i
  ·exact absurd h (h2 j hj)
  ·omega
theorem zk7 {p:Nat->Bool}:∀(m i k:Nat),fbad p m i=some k->∀j,i<=j->j<k->p j=false
 |0,i,k,h=>by cases h
 |m+1,i,k,h=>by
  intro j h1 h2;cases hp:p i with
  |true=>rw[zbn hp] at h;cases h;omega
  |false=>
   rw[zbz hp] at h;by_cases hj:j=i
   ·subst hj;exact hp
   ·exact zk7 m (i+1) k h j U h2
theorem zxe {p:Nat->Bool}:∀(m i k:Nat),i<=k->k<i+m->p k=true->(∀j,i<=j->j<k->p j=false)->fbad p m i=some k
 |0,i,k,h1,h2,_,_=>U
 |m+1,i,k,h1,h2,h3,h4=>by
  by_cases hk:k=i
  ·subst hk;exact zbn h3
  ·rw[zbz (h4 i (qac _) U)]
   exact zxe m (i+1) k U U h3 fun j a b=>h4 j U b
theorem zmc {p:Nat->Bool}:∀(m i:Nat),(∀j,i<=j->j<i+m->p j=false)->fbad p m i=none
 |0,_,_=>rfl
 |m+1,i,h=>by
  rw[zbz (h i (qac _) U)];exact zmc m (i+1) fun j a b=>h j U U
def nmR (rs:List (List Nat × Nat × Int)):List ByteArray:=rs.map fun r=>strOf r.1
def nmC (f:MF):List ByteArray:=f.calls.map fun c=>strOf c.1
def dupB (l:List ByteArray)(k:Nat):Bool:=match l[k]? with
 |some x=>(match fndL l x with
  |some j=>decide (j<k)
  |none=>false)
 |none=>false
def undB (l m:List ByteArray)(k:Nat):Bool:=match m[k]? with
 |some x=>(fndL l x).isNone
 |none=>false
theorem zmd {j:Nat}(h:l[k]?=some x)(hj:fndL l x=some j):dupB l k=decide (j<k):=by
 unfold dupB;rw[h];dsimp only;rw[hj]
theorem zjm (h:m[k]?=some x):undB l m k=(fndL l x).isNone:=by
 unfold undB;rw[h]
def idxO (o:Option Nat):Int:=match o with
 |some i=>(i:Int)
 |none=>-1
def zam (rs:List (List Nat × Nat × Int)):List PR:=rs.map fun r=>⟨strOf r.1,r.2.2⟩
def gNode (l m:List ByteArray)(n:PN):PN:=if n.op=2 then ⟨n.op,n.kids,idxO (fndL l (m.getD n.rule.toNat ByteArray.empty)),n.s0,n.s1,n.s2,n.s3⟩ else n
def zan (l m:List ByteArray)(ns:List PN):List PN:=ns.map (gNode l m)
def cnt2 (ns:List PN):Nat:=ns.countP fun n=>decide (n.op=2)
def COk (f:MF):Prop:=cnt2 f.nodes=f.calls.length/\∀i n,f.nodes[i]?=some n->n.op=2->n.rule=(cnt2 (f.nodes.take i):Int)
theorem zjn (ns:List PN)(n:PN):cnt2 (ns++[n])=cnt2 ns+if n.op=2 then 1 else 0:=by
 unfold cnt2;rw[List.countP_append,List.countP_singleton];by_cases h:n.op=2
 ·rw[if_pos h,if_pos (decide_eq_true h)]
 ·rw[if_neg h,if_neg (by rw[decide_eq_false h];decide)]
theorem zjo {ns:List PN}(h:ns[i]?=some n):cnt2 (ns.take (i+1))=cnt2 (ns.take i)+if n.op=2 then 1 else 0:=by
 rw[za3 ns i n h,zjn]
theorem z40 (ns:List PN)(i:Nat):cnt2 (ns.take i)<=cnt2 ns:=by
 unfold cnt2;exact(List.take_sublist i ns).countP_le
theorem zme (ns:List PN):∀(i c:Nat),i<=ns.length->c<cnt2 (ns.take i)->∃j n,j<i/\ns[j]?=some n/\n.op=2/\cnt2 (ns.take j)=c
 |0,c,_,h=>by
  rw[List.take_zero] at h;exact absurd h (qa3 _)
 |i+1,c,hi,h=>by
  obtain⟨n,hn⟩:∃n,ns[i]?=some n:=⟨_,qae U⟩;rw[zjo hn] at h;by_cases hc:c<cnt2 (ns.take i)
  ·obtain⟨j,m,h1,h2⟩:=zme ns i c U hc
   exact⟨j,m,U,h2⟩
  ·by_cases h2:n.op=2
   ·rw[if_pos h2] at h
    exact⟨i,n,Nat.lt_succ_self _,hn,h2,U⟩
   ·rw[if_neg h2] at h
    omega
theorem COk.nil:COk ⟨[],[]⟩:=⟨rfl,fun i n h=>by simp at h⟩
theorem COk.add (h:COk f)(hn:n.op≠2):COk (addN f n):=by
 refine⟨?_,fun i m hm h2=>?_⟩
 ·show cnt2 (f.nodes++[n])=f.calls.length
  rw[zjn,if_neg hn,h.1];rfl
 ·have hm:(f.nodes++[n])[i]?=some m:=hm
  show m.rule=(cnt2 ((f.nodes++[n]).take i):Int);by_cases hi:i<f.nodes.length
  ·rw[qb4 hi] at hm
   rw[qcy U];exact h.2 i m hm h2
  ·have hl:=(qag.1 hm).1
   rw[qad,qai] at hl;have e:i=f.nodes.length:=U
   subst e;rw[qbg (qac _),qb8] at hm;have hm:some n=some m:=hm;obtain rfl:=qar hm;exact absurd h2 hn
theorem COk.call (h:COk f)(t:Tok):COk (callF f t):=by
 have h2:(callN f.calls.length).op=2:=rfl;refine⟨?_,fun i m hm h2'=>?_⟩
 ·show cnt2 (f.nodes++[callN f.calls.length])=(f.calls++[(t.text,t.at_)]).length
  rw[zjn,if_pos h2,h.1,qad,qai]
 ·have hm:(f.nodes++[callN f.calls.length])[i]?=some m:=hm
  show m.rule=(cnt2 ((f.nodes++[callN f.calls.length]).take i):Int);by_cases hi:i<f.nodes.length
  ·rw[qb4 hi] at hm
   rw[qcy U];exact h.2 i m hm h2'
  ·have hl:=(qag.1 hm).1
   rw[qad,qai] at hl;have e:i=f.nodes.length:=U
   subst e;rw[qbg (qac _),qb8] at hm;have hm:some (callN f.calls.length)=some m:=hm;obtain rfl:=qar hm;rw[qcy (qac _),qbz,h.1];rfl
theorem COk.rule (h:COk f)(hn:f.nodes[i]?=some n)(h2:n.op=2):∃c:Nat,n.rule=(c:Int)/\c<f.calls.length:=by
 refine⟨_,h.2 i n hn h2,?_⟩;have a:=zjo hn;rw[if_pos h2] at a;have b:=z40 f.nodes (i+1);have c:=h.1;omega
def badN (l m:List ByteArray)(ns:List PN)(i:Nat):Bool:=match ns[i]? with
 |some n=>decide (n.op=2)&&undB l m n.rule.toNat
 |none=>false
theorem zmf {ns:List PN}(h:ns[i]?=some n):badN l m ns i=(decide (n.op=2)&&undB l m n.rule.toNat):=by
 unfold badN;rw[h]
theorem zn8 (hm:m.length=f.calls.length)(h:COk f):fbad (undB l m) m.length 0=match fbad (badN l m f.nodes) f.nodes.length 0 with
  |some i=>some (cnt2 (f.nodes.take i))
  |none=>none:=by
 have rul:∀i n,f.nodes[i]?=some n->n.op=2->n.rule.toNat=cnt2 (f.nodes.take i):=fun i n hn h2=>by rw[h.2 i n hn h2];rfl
 cases hb:fbad (badN l m f.nodes) f.nodes.length 0 with
 |some i=>
  obtain⟨-,hi,hp⟩:=zfu _ _ _ hb;obtain⟨n,hn⟩:∃n,f.nodes[i]?=some n:=⟨_,qae U⟩;rw[zmf hn] at hp;rw[Bool.and_eq_true] at hp;have h2:n.op=2:=of_decide_eq_true hp.1;have hu:=hp.2;rw[rul i n hn h2] at hu;obtain⟨c,hc,hcl⟩:=h.rule hn h2;have e:c=cnt2 (f.nodes.take i):=by have:=rul i n hn h2;rw[hc] at this;exact this
  dsimp only;refine zxe _ _ _ (qaj _) U hu fun j _ hj=>?_
  obtain⟨a,q,h3,h4,h5,h6⟩:=zme f.nodes i j U hj;have:=zk7 _ _ _ hb a (qaj _) h3;rw[zmf h4,decide_eq_true h5,qen,rul a q h4 h5,h6] at this;exact this
 |none=>
  dsimp only;refine zmc _ _ fun j _ hj=>?_
  obtain⟨a,q,h3,h4,h5,h6⟩:=zme f.nodes f.nodes.length j (qac _) (by rw[qbz,h.1];omega);have:=zdp _ _ hb a (qaj _) U;rw[zmf h4,decide_eq_true h5,qen,rul a q h4 h5,h6] at this;exact this
structure Stp (K:Nat) (T:Tok->Prop) (Q:MF->Prop):Prop where
 add:∀f n,Q f->n.op≠2->n.kids.length<=K->Q (addN f n)
 call:∀f t,Q f->T t->t.kind=1->Q (callF f t)
 txt:∀t,T t->t.text.length<=K
 pos:1<=K
variable {K:Nat} {T:Tok->Prop} {Q:MF->Prop}
def TkA (K:Nat)(T:Tok->Prop)(ts:List Tok):Prop:=ts.length<K/\∀t ∈ ts,T t
def PoA (K:Nat)(T:Tok->Prop)(Q:MF->Prop)(o:PO):Prop:=match o with
 |.ok ts f=>TkA K T ts/\Q f
 |.bad _ _=>True
def Inv (K:Nat)(T:Tok->Prop)(Q:MF->Prop)(F:List Tok->MF->PO):Prop:=∀ts f,TkA K T ts->Q f->PoA K T Q (F ts f)
theorem TkA.tail {ts:List Tok}(h:TkA K T ts):TkA K T ts.tail:=⟨Nat.lt_of_le_of_lt (by rw[List.length_tail];exact Nat.sub_le _ _) h.1,fun t ht=>h.2 t (List.mem_of_mem_tail ht)⟩
theorem Stp.join (hs:Stp K T Q)(h:Q f){op:Int}(ho:op≠2){ks:List Int}(hk:ks.length<=K):Q (joinN f op ks):=by
 unfold joinN;split
 ·exact hs.add _ _ h (show(0:Int)≠2 by decide) (qaj _)
 ·exact h
 ·exact hs.add _ _ h ho hk
theorem Stp.litF (hs:Stp K T Q):∀(l:List Nat) (f:MF) (ks:List Int),Q f->Q (litF f l ks).1
 | [],_,_,h=>h
 |_::r,_,_,h=>Stp.litF hs r _ _ (hs.add _ _ h (show(1:Int)≠2 by decide) (qaj _))
theorem Stp.lit (hs:Stp K T Q)(h:Q f){t:List Nat}(ht:t.length<=K):Q (litN f t):=hs.join (hs.litF t f [] h) ja (by rw[(zls t f []).2.1];simpa using ht)
theorem PoA.acc (st:Bool){ts:List Tok}(h:TkA K T ts)(k:Q f):PoA K T Q (acc st ts f):=by
 unfold Go.Proofs.YtmopdlbpkiaoeaaGreatDoor.acc;split
 ·trivial
 ·exact⟨h,k⟩
theorem PoA.bind {o:PO}{k:List Tok->MF->PO}(h:PoA K T Q o)(hk:∀a g,TkA K T a->Q g->PoA K T Q (k a g)):PoA K T Q (o.bind k):=by
 cases o with
 |ok a g=>exact hk a g h.1 h.2
 |bad a d=>trivial
theorem Inv.clos (st:Bool):Inv K T Q (closL st):=by
 intro ts f h k;unfold closL;split
 ·exact PoA.acc _ h.tail k
 ·trivial
theorem Inv.prim (hs:Stp K T Q){rec:List Tok->MF->PO}(h:Inv K T Q rec):Inv K T Q (primL st room rec):=by
 intro ts f ht hf;cases ts with
 |nil=>trivial
 |cons t tl=>
  have ht':TkA K T tl:=ht.tail;have h0:=ht.2 t (qap ..);unfold primL;dsimp only;split
  ·rename_i h1
   split
   ·trivial
   ·exact PoA.acc _ ht' (hs.call _ _ hf h0 h1)
  ·split
   ·split
    ·trivial
    ·refine(PoA.acc _ ht' hf).bind fun a b ha hb=>?_
     refine(h a b ha hb).bind fun c e hc he=>Inv.clos st c e hc he
   ·split
    ·exact PoA.acc _ ht' (hs.lit hf (hs.txt t h0))
    ·split
     ·exact PoA.acc _ ht' (hs.add _ _ hf (show(1:Int)≠2 by decide) (qaj _))
     ·split
      ·exact PoA.acc _ ht' (hs.add _ _ hf (show(1:Int)≠2 by decide) (qaj _))
      ·trivial
theorem Inv.sufK (hs:Stp K T Q)(st:Bool):Inv K T Q (sufK st):=by
 intro ts f h k;unfold Go.Proofs.YtmopdlbpkiaoeaaGreatDoor.sufK;split
 ·exact PoA.acc _ h.tail (hs.add _ _ k (zq7 _) hs.pos)
 ·exact⟨h,k⟩
theorem Inv.suf (hs:Stp K T Q){rec:List Tok->MF->PO}(h:Inv K T Q rec):Inv K T Q (sufL st room rec):=by
 intro ts f ht hf;unfold sufL;exact(Inv.prim hs h ts f ht hf).bind fun a g ha hg=>Inv.sufK hs st a g ha hg
theorem Inv.pre (hs:Stp K T Q){rec:List Tok->MF->PO}(h:Inv K T Q rec):Inv K T Q (preL st room rec):=by
 intro ts f ht hf;unfold preL;split
 ·refine(PoA.acc _ ht.tail hf).bind fun a b ha hb=>?_
  exact(Inv.suf hs h a b ha hb).bind fun c e hc he=>⟨hc,hs.add _ _ he (zq8 _) hs.pos⟩
 ·exact Inv.suf hs h ts f ht hf
theorem Inv.parts (hs:Stp K T Q){top:Bool}{pre:List Tok->MF->PO}(h:Inv K T Q pre):∀(n:Nat) (ts:List Tok) (f:MF) (ks:List Int),ks.length+n<=K->TkA K T ts->Q f->PoA K T Q (zb8 top pre n ts f ks)
 |0,_,_,_,_,_,_=>trivial
 |n+1,ts,f,ks,hk,ht,hf=>by
  cases hb:begB top ts
  ·rw[za7 hb]
   exact⟨ht,hs.join hf ja U⟩
  ·rw[zbw hb]
   exact(h ts f ht hf).bind fun a g ha hg=>Inv.parts hs h n a g _ (by rw[qad,qai];omega) ha hg
theorem Inv.seq (hs:Stp K T Q){top:Bool}{pre:List Tok->MF->PO}(h:Inv K T Q pre):Inv K T Q (seqL top pre):=fun ts f ht hf=>Inv.parts hs h _ ts f [] (by have:=ht.1;simp;omega) ht hf
theorem Inv.alts (hs:Stp K T Q){st:Bool}{sq:List Tok->MF->PO}(h:Inv K T Q sq):∀(n:Nat) (ts:List Tok) (f:MF) (ks:List Int),ks.length+n<=K->TkA K T ts->Q f->PoA K T Q (altsL st sq n ts f ks)
 |0,_,_,_,_,_,_=>trivial
 |n+1,ts,f,ks,hk,ht,hf=>by
  rw[zch];refine(h ts f ht hf).bind fun a g ha hg=>?_
  split
  ·exact(PoA.acc _ ha.tail hg).bind fun b k hb hk'=>Inv.alts hs h n b k _ (by rw[qad,qai];omega) hb hk'
  ·exact⟨ha,hs.join hg ja (by rw[qad,qai];omega)⟩
theorem Inv.none:Inv K T Q fun a _=>.bad a false:=fun _ _ _ _=>True.intro
theorem Inv.altsF (hs:Stp K T Q){sq:List Tok->MF->PO}(h:Inv K T Q sq):Inv K T Q fun ts f=>altsL st sq (ts.length+1) ts f []:=fun ts f ht hf=>Inv.alts hs h _ ts f [] (by have:=ht.1;simp;omega) ht hf
theorem Inv.expr (hs:Stp K T Q)(st:Bool):∀(r:Nat) (top:Bool),Inv K T Q (exprL st r top)
 |0,_=>Inv.altsF hs (Inv.seq hs (Inv.pre hs Inv.none))
 |r+1,_=>Inv.altsF hs (Inv.seq hs (Inv.pre hs (Inv.expr hs st r false)))
theorem Inv.defL {F:List Tok->MF->PO}(h:Inv K T Q F):Inv K T Q (defL st F):=by
 intro ts f ht hf;unfold Go.Proofs.YtmopdlbpkiaoeaaGreatDoor.defL;split
 ·refine(PoA.acc _ ht.tail hf).bind fun a g ha hg=>?_
  split
  ·exact(PoA.acc _ ha.tail hg).bind fun b k hb hk=>h b k hb hk
  ·trivial
 ·trivial
def RuA (T:Tok->Prop)(rs:List (List Nat × Nat × Int)):Prop:=∀r ∈ rs,∃t,T t/\t.kind=1/\r.1=t.text/\r.2.1=t.at_
theorem zn9 {st:Bool}{F:List Tok->MF->PO}(h:Inv K T Q F):∀(n:Nat) (ts:List Tok) (f g:MF) (rs rs':List (List Nat × Nat × Int)),TkA K T ts->Q f->RuA T rs->defsL st F n ts f rs=.ok rs' g->RuA T rs'/\Q g
 |0,_,_,_,_,_,_,_,_,e=>by cases e
 |n+1,ts,f,g,rs,rs',ht,hf,hr,e=>by
  unfold defsL at e;have hd:=Inv.defL (st:=st) h ts f ht hf;cases ho:defL st F ts f with
  |bad a dp=>rw[ho] at e;cases e
  |ok a k=>
   rw[ho] at e hd;have h1:=zq9 ho;have hr':RuA T (rs++[(txt ts,pos ts,lastI k)]):=fun r hm=>by
    rcases List.mem_append.1 hm with hm|hm
    ·exact hr r hm
    ·obtain rfl:=List.mem_singleton.1 hm
     cases ts with
     |nil=>cases h1
     |cons t tl=>exact⟨t,ht.2 t (qap ..),h1,rfl,rfl⟩
   dsimp only at e;split at e
   ·cases e
    exact⟨hr',hd.2⟩
   ·exact zn9 h n a k g _ _ hd.1 hd.2 hr' e
theorem z0t (hs:Stp K T Q)(h0:Q ⟨[],[]⟩){l:List Nat}(hT:TkA K T (strm l 0))(h:zaz l=.ok rs f):RuA T rs/\Q f:=
 zn9 (Inv.expr hs true 200 true) _ _ _ _ _ _ hT h0 (fun r hr=>by cases hr) h
end
def dupO (rs:List (List Nat × Nat × Int)):Option (List Nat × Nat):=(fbad (dupB (nmR rs)) rs.length 0).bind fun k=>rs[k]?.map fun x=>(x.1,x.2.1)
def undO (l:List ByteArray)(f:MF):Option (List Nat × Nat):=(fbad (undB l (nmC f)) f.calls.length 0).bind fun k=>f.calls[k]?
theorem zmg {x:List Nat × Nat × Int}(h:fbad (dupB (nmR rs)) rs.length 0=some k)(hx:rs[k]?=some x):dupO rs=some (x.1,x.2.1):=by
 unfold dupO;rw[h,Option.bind_some,hx];rfl
theorem zjp (h:fbad (dupB (nmR rs)) rs.length 0=none):dupO rs=none:=by
 unfold dupO;rw[h];rfl
theorem zr5 {x:List Nat × Nat}(h:fbad (undB l (nmC f)) f.calls.length 0=some k)(hx:f.calls[k]?=some x):undO l f=some x:=by
 unfold undO;rw[h,Option.bind_some,hx]
theorem zoc (h:fbad (undB l (nmC f)) f.calls.length 0=none):undO l f=none:=by
 unfold undO;rw[h];rfl
section
open Go.RowKit Go.Maps
theorem z41 (w:World):(zeroValue 3).run qab w=.ok (.int .i64 0) w:=jb
def FirAt (w:World)(b n:Nat)(l:List ByteArray):Prop:=∃D:DataW Unit,w.ownsMap qab 9 (plainElem qab 3) b n D/\Maps.IsMap D /\
 ∀s:ByteArray,Maps.has D (.string s.data.toList)=(fndL l s).isSome/\∀i,fndL l s=some i->∀z,D.atKey (.string s.data.toList) z=.lit (.int .i64 (i:Int))
theorem FirAt.made (w:World):FirAt (w.alloc (.map #[] 0)) w.heap.size 0 []:=
 ⟨.map [],World.ownsMap_made _ _ _ _,Maps.isMap_empty,fun _=>⟨rfl,fun i h=>by cases h⟩⟩
theorem FirAt.below {n:Nat}(h:FirAt w b n l)(hb:Below w.heap.size w w'):FirAt w' b n l:=by
 obtain⟨D,h1,h2,h3⟩:=h;obtain⟨es,clock,h4,h5⟩:=h1;exact⟨D,⟨es,clock,by rw[hb.block b (Array.getElem?_eq_some_iff.1 h4).1];exact h4,h5⟩,h2,h3⟩
theorem FirAt.look {n:Nat}(h:FirAt w b n l)(s:ByteArray)(hs:s.size<=maxLen):(Instr.lookup 147 (.map (some b)) (.string s) true).run qab w=.ok (.tuple #[.int .i64 (((fndL l s).getD 0:Nat):Int),.bool (fndL l s).isSome]) w:=by
 obtain⟨D,h1,h2,h3⟩:=h;obtain⟨v,ps,hrun,hv⟩:=h1.look_ok zl9 Tryz.underlying147 (z41 w) (plainElem_int (H:=Unit) qc1 (a:=0) ja) (qej qba hs);obtain⟨x,rfl,hx,-⟩:=plainElem_int_inv qc1 hv;have h4:=congrArg Prod.fst hx;obtain⟨h5,h6⟩:=h3 s;rw[hrun,h5];cases hf:fndL l s with
 |some i=>
  have h7:=(h6 i hf (.lit (.int .i64 0))).symm.trans h4;injection h7 with h8;injection h8 with _ h9;rw[<-h9];rfl
 |none=>
  rw[hf] at h5;have h7:=(Maps.atKey_of_not_has h5 (.lit (.int .i64 0))).symm.trans h4;injection h7 with h8;injection h8 with _ h9;rw[<-h9];rfl
theorem FirAt.put {D:DataW Unit}{n:Nat}(s:ByteArray)(h1:w.ownsMap qab 9 (plainElem qab 3) b n (D.put (.string s.data.toList) (.lit (.int .i64 (l.length:Int)))))(h2:Maps.IsMap D)
  (h3:∀s:ByteArray,Maps.has D (.string s.data.toList)=(fndL l s).isSome/\∀i,fndL l s=some i->∀z,D.atKey (.string s.data.toList) z=.lit (.int .i64 (i:Int)))
  (hn:fndL l s=none):FirAt w b n (l++[s]):=by
 refine⟨_,h1,h2.put _ _,fun x=>?_⟩;rw[zcf];by_cases e:s=x
 ·subst e
  rw[hn];dsimp only;rw[if_pos rfl];refine⟨Maps.has_put_same h2 (show WideAt.IsKeyLit (.string _) from trivial) _,fun i hi z=>?_⟩;cases hi;exact Maps.atKey_put_same h2 (show WideAt.IsKeyLit (.string _) from trivial) _ _
 ·have hne:(Lit.string x.data.toList)≠.string s.data.toList:=by
   intro he;injection he with he;exact e (ByteArray.ext (Array.ext' he)).symm
  rw[Maps.has_put_other hne,(h3 x).1];cases hf:fndL l x with
  |some i=>
   refine⟨rfl,fun j hj z=>?_⟩;cases hj;rw[Maps.atKey_put_other hne];exact(h3 x).2 i hf z
  |none=>
   dsimp only;rw[if_neg e];exact⟨rfl,fun j hj=>by cases hj⟩
theorem FirAt.old {n:Nat}{s:ByteArray}(h:FirAt w b n l)(hf:fndL l s=some i):FirAt w b (n+1) (l++[s]):=by
 obtain⟨D,h1,h2,h3⟩:=h;refine⟨D,h1.mono (Nat.le_succ _),h2,fun x=>?_⟩;have e:fndL (l++[s]) x=fndL l x:=by
  rw[zcf];cases hx:fndL l x with
  |some j=>rfl
  |none=>
   dsimp only;refine if_neg fun e=>?_
   rw[<-e,hf] at hx;cases hx
 rw[e];exact h3 x
def FinAt (w:World)(b:Nat)(l:List ByteArray):Prop:=∃m n,Bl w b 147 #[.map (some m)]/\FirAt w m n l
theorem FinAt.below (h:FinAt w b l)(hb:Below w.heap.size w w'):FinAt w' b l:=by
 obtain⟨m,n,h1,h2⟩:=h;exact⟨m,n,h1.below hb,h2.below hb⟩
def StrsAt (w:World)(v:Value)(l:List ByteArray):Prop:=CellsAt w v l.length (l.map Value.string)
def finF (b:Nat):Value:=.func (.func 89) #[] #[.pointer (some ⟨b,0,none⟩)]
theorem zim (x:ByteArray)(b:Nat)(l:List ByteArray)(w:World)(h:FinAt w b l)(hs:x.size<=maxLen) :
  Calls qab 89 #[.string x,.pointer (some ⟨b,0,none⟩)] w fun e w'=>e=.returned (.int .i64 (idxO (fndL l x)))/\w'=w:=by
 obtain⟨m,n,hB,hF⟩:=h;have c0:=hB.cell (o:=0) (u:=.map (some m)) rfl;have hl:=hF.look x hs;clear hB hF;cases hf:fndL l x with
 |some i=>
  rw[hf] at hl;have hl:(Instr.lookup 147 (.map (some m)) (.string x) true).run qab w=.ok (.tuple #[.int .i64 (i:Int),.bool true]) w:=hl;clear hf;go_enter Tryz.func89,Tryz.ntmps89;go_wp2;go_ret;exact⟨rfl,rfl⟩
 |none=>
  rw[hf] at hl;have hl:(Instr.lookup 147 (.map (some m)) (.string x) true).run qab w=.ok (.tuple #[.int .i64 0,.bool false]) w:=hl;clear hf;go_enter Tryz.func89,Tryz.ntmps89;go_wp2;go_ret;exact⟨rfl,rfl⟩
theorem zcu (h:l[k]?=some x):l.take (k+1)=l.take k++[x]:=za3 l k x h
theorem zdf (v:Value)(l:List ByteArray)(w:World)(hv:StrsAt w v l)(hn:l.length<=100000000)(hsz:∀x,x ∈ l->x.size<=2000000) :
  Calls qab 56 #[v] w fun e w'=>∃b,e=.returned (finF b)/\FinAt w' b l/\w.heap.size<=b/\Below w.heap.size w w':=by
 obtain⟨a,ca,rfl,-,ha⟩:=hv;have HM:=qaa hsz;have HB0:=qaa (zbo w (.map #[] 0) (.cells #[.map (some w.heap.size)] 147));have HS0:Hid (FirAt ((w.alloc (.map #[] 0)).alloc (.cells #[.map (some w.heap.size)] 147)) w.heap.size 0 (l.take 0)):=qaa ((FirAt.made w).below (zaa _ _));have HL0:Hid (Bl ((w.alloc (.map #[] 0)).alloc (.cells #[.map (some w.heap.size)] 147)) (w.heap.size+1) 147 #[.map (some w.heap.size)]):=qaa (by
  have:=Bl.new (w.alloc (.map #[] 0)) 147 #[.map (some w.heap.size)];rw[qbl] at this;exact this)
 have hmm:=@run_makeMap qab;have HA:=qaa ha;clear hsz ha;go_enter Tryz.func56,Tryz.ntmps56;go_wp2
 go_loopw [11] (fun c wr=>∃k:Nat,k<=l.length/\c=.int .i64 k/\Below w.heap.size w wr/\FirAt wr w.heap.size k (l.take k)/\Bl wr (w.heap.size+1) 147 #[.map (some w.heap.size)]) (fun c _=>l.length-(intOf c).toNat)
 case atStart=>exact⟨0,qaj _,rfl,HB0.out,HS0.out,HL0.out⟩
 case round=>
  obtain⟨k,hk,rfl,hb,hF,hL⟩:=hrel;have c0:=hL.cell (o:=0) (u:=.map (some w.heap.size)) rfl;have HB:=qaa hb;have HF:=qaa hF;have HL:=qaa hL;have hbs:=hb.size;have hll:=hL.lt;clear hb hF hL;by_cases hlt:k<l.length
  ·obtain⟨x,hx⟩:∃x,l[k]?=some x:=⟨_,qae hlt⟩
   rcases HA.out with hz|⟨ab,ao,rfl,hca⟩
   ·rw[hz] at hlt;exact absurd hlt (qa3 _)
   have e0:wr.cell? ⟨ab,ao+k,none⟩=some (.string x):=by
    have h1:=hca k (.string x) (by rw[qax,hx];rfl);rw[(bcell HB.out).1 _ _ (zai h1)];exact h1
   have e3:=zai e0;have k1:(k:Int)<(l.length:Int):=U
   have hxs:=HM.out x (qan hx);have hlk:=HF.out.look x (by unfold maxLen;omega);have HX:=qaa (zcu hx);clear hca hx;cases hf:fndL (l.take k) x with
   |some i=>
    rw[hf] at hlk;have hlk:(Instr.lookup 147 (.map (some w.heap.size)) (.string x) true).run qab wr=.ok (.tuple #[.int .i64 (i:Int),.bool true]) wr:=hlk;have HR:=qaa (HF.out.old hf);clear hf;go_wp2;go_roundw
    case rel=>exact⟨k+1,hlt,by go_num,HB.out,by rw[HX.out];exact HR.out,HL.out⟩
    case measure=>simp[intOf];omega
   |none=>
    rw[hf] at hlk;have hlk:(Instr.lookup 147 (.map (some w.heap.size)) (.string x) true).run qab wr=.ok (.tuple #[.int .i64 0,.bool false]) wr:=hlk;have HN:=qaa hf;obtain⟨D,hown,hmap,hat⟩:=HF.out;have hkey:=qej (P:=qab) qba (s:=x) (by unfold maxLen;omega);have HAT:=qaa hat;have HKEY:=qaa hkey;have HMAP:=qaa hmap;have hwf:(Lit.int .i64 (k:Int)).wf=true:=WalkArith.wf_i64 U;have HWF:=qaa hwf;have hlen:(l.take k).length=k:=by rw[List.length_take];omega
    have HLEN:=qaa hlen;clear hf hat hkey hmap hwf hlen
    go_wp2_with (at_mapUpdate;refine wpList_mapUpdate_own _ rfl _ _ _ 147 rfl 9 3 zl9 Tryz.underlying147 _ w.heap.size k D rfl hown (by unfold maxLen;omega) _ _ _ rfl rfl HKEY.out _ [] (plainElem_int qc1 HWF.out) ?_;intro w1 hown1 hgrow1)
    go_roundw
    case rel=>exact⟨k+1,hlt,by go_num,HB.out.grown hgrow1 hbs (fun j e=>by injection e with e;omega),by rw[HX.out];exact FirAt.put x (by rw[HLEN.out];exact hown1) HMAP.out HAT.out HN.out,by unfold Bl;rw[hgrow1.block _ hll jc];exact HL.out⟩
    case measure=>simp[intOf];omega
  ·obtain rfl:k=l.length:=U
   have k1:¬(l.length:Int)<(l.length:Int):=U
   have HR:Hid (FinAt wr (w.heap.size+1) l):=qaa ⟨_,_,HL.out,by have:=HF.out;rw[qbz] at this;exact this⟩;go_wp2;go_ret;exact⟨_,rfl,HR.out,Nat.le_succ _,HB.out⟩
end
section
open Go.RowKit
theorem zgv:(qab.info? 9).map (fun i=>(i.zero,i.size,i.bytes))=some (some (.string ⟨#[]⟩),1,16):=jb
def strV (l:List ByteArray):List Value:=l.map Value.string
theorem zoa (h:l[k]?=some x):strV (l.take (k+1))=strV (l.take k)++[.string x]:=by
 unfold strV;rw[za3 l k x h,List.map_append];rfl
theorem zgw {x:List Nat × Nat × Int}(h:rs[k]?=some x):(nmR rs)[k]?=some (strOf x.1):=by
 unfold nmR;rw[qax,h];rfl
theorem zgx {x:List Nat × Nat}(h:f.calls[k]?=some x):(nmC f)[k]?=some (strOf x.1):=by
 unfold nmC;rw[qax,h];rfl
theorem zdv (rs:List (List Nat × Nat × Int)):(nmR rs).length=rs.length:=qaw _
theorem zcv (f:MF):(nmC f).length=f.calls.length:=qaw _
theorem zr4 (w:World)(o:Obj)(v:Value)(t:TypeId):∀j u,[v][j]?=some u->((w.alloc o).alloc (.cells #[v] t)).cell? ((⟨w.heap.size+1,0,none⟩:Addr).add j)=some u:=by
 have h:=zat (w.alloc o) v t;rw[qbl] at h;exact h
theorem zin (x:ByteArray)(b j:Nat)(l:List ByteArray)(w:World)(h:FinAt w b l)(hs:x.size<=maxLen)(hj:fndL l x=some j) :
  Calls qab 89 #[.string x,.pointer (some ⟨b,0,none⟩)] w fun e w'=>e=.returned (.int .i64 (j:Int))/\w'=w:=by
 have h1:=zim x b l w h hs;rw[hj] at h1;exact h1
theorem zxf (x:ByteArray)(b:Nat)(l:List ByteArray)(w:World)(h:FinAt w b l)(hs:x.size<=maxLen)(hj:fndL l x=none) :
  Calls qab 89 #[.string x,.pointer (some ⟨b,0,none⟩)] w fun e w'=>e=.returned (.int .i64 (-1))/\w'=w:=by
 have h1:=zim x b l w h hs;rw[hj] at h1;exact h1
def yalo (l:List ByteArray)(w:World)(e:Ending)(w':World):Prop:=∃v,e=.returned v/\w'.ownsRow w.heap.size 9 1 v l.length (strV l)/\Below w.heap.size w w'
theorem StrsAt.of_own {base:Nat}{v:Value}(h:w.ownsRow base 9 1 v l.length (strV l)):StrsAt w v l:=CellsAt.of_own h
theorem zdg (rv nv cv:Value)(rs:List (List Nat × Nat × Int))(f:MF)(w:World)(h:FileIn w rv nv cv rs f)(hr:rs.length<=100000000) :
  Calls qab 57 #[.agg #[rv,nv,cv]] w (yalo (nmR rs) w):=by
 obtain⟨-,⟨a1,c1,rfl,-,ha1⟩,⟨-,a2,c2,rfl,-⟩,a3,c3,rfl,-,-⟩:=h;have HA1:=qaa ha1;have HB0:=qaa (zaa w);clear ha1;obtain⟨ii,hii,hz0,hz1,hz2⟩:=info_parts zgv;have HL:=qaa (zdv rs);go_enter Tryz.func57,Tryz.ntmps57;go_wp2
 go_loopw [9,3] (fun c v wr=>∃k:Nat,k<=rs.length/\c=.int .i64 k/\Below w.heap.size w wr/\wr.ownsRow w.heap.size 9 1 v k (strV ((nmR rs).take k))) (fun c _ _=>rs.length-(intOf c).toNat)
 case atStart=>exact⟨0,qaj _,rfl,HB0.out _,World.ownsRow_nil _ _ _ _⟩
 case round=>
  obtain⟨k,hk,rfl,hb,ho⟩:=hrel;obtain⟨va,vc,rfl⟩:=zag ho;have hbs:=hb.size;have HB:=qaa hb;have HO:=qaa ho;clear hb ho;by_cases hlt:k<rs.length
  ·obtain⟨x,hx⟩:∃x,rs[k]?=some x:=⟨_,qae hlt⟩
   rcases HA1.out with hz|⟨ab,ao,rfl,hca⟩
   ·rw[hz] at hlt;exact absurd hlt (qa3 _)
   obtain⟨e0,e1,e2,e3⟩:=zdt hca hx HB.out;have k1:(k:Int)<(rs.length:Int):=U
   have HX:=qaa (zoa (zgw hx));clear hca hx
   go_wp2_with (at_builtin;refine wpList_append_own _ rfl _ _ 108 rfl w.heap.size 9 ii _ 1 16 Tryz.underlying108 hii hz0 hz1 hz2 rfl ja _ k _ rfl (zab HO.out (zbo wr _ _)) ⟨_,0,none⟩ 1 1 [.string (strOf x.1)] rfl rfl (zr4 _ _ _ _) (by simp[Value.oneCell']) (by unfold maxLen;omega) U (by simp;omega) ?_;intro v5 w5 hown' hgrow _;have HO5:=qaa hown';have HB5:=qaa (Below.grown (HB.out.trans ((zbo wr _ _).mono hbs)) hgrow (by simp;omega) (fun g e=>(HO.out.lt g e).1)))
   go_roundw
   case rel=>exact⟨k+1,hlt,by go_num,HB5.out,by rw[HX.out];exact HO5.out⟩
   case measure=>simp[intOf];omega
  ·obtain rfl:k=rs.length:=U
   have k1:¬(rs.length:Int)<(rs.length:Int):=U
   go_wp2;go_ret;exact⟨.slice va rs.length vc,rfl,by
    have:=HO.out;rw[List.take_of_length_le (Nat.le_of_eq HL.out)] at this;rw[HL.out];exact this,HB.out⟩
end
section
open Go.RowKit
def WrongIs (o:Option (List Nat × Nat))(c:Int)(w:World)(e:Ending)(w':World):Prop:=match o with
 |none=>e=.returned (.tuple #[.string ⟨#[]⟩,.nilIface])/\Below w.heap.size w w'
 |some x=>e=.returned (.tuple #[.string (strOf x.1),.iface 160 (.agg #[.int .i64 c,.int .i64 (x.2:Int)])])/\Below w.heap.size w w'
theorem WrongIs.nil {o:Option (List Nat × Nat)}{c:Int}(h:o=none)(hb:Below w.heap.size w w'):WrongIs o c w (.returned (.tuple #[.string ⟨#[]⟩,.nilIface])) w':=by subst h;exact⟨rfl,hb⟩
theorem WrongIs.hit {o:Option (List Nat × Nat)}{c:Int}{x:List Nat × Nat}(h:o=some x)(hb:Below w.heap.size w w'):WrongIs o c w (.returned (.tuple #[.string (strOf x.1),.iface 160 (.agg #[.int .i64 c,.int .i64 (x.2:Int)])])) w':=by subst h;exact⟨rfl,hb⟩
theorem zqc (rv nv cv:Value)(rs:List (List Nat × Nat × Int))(f:MF)(b:Nat)(w:World)(h:FileIn w rv nv cv rs f)(hr:rs.length<=100000000)(hnm:∀r,r ∈ rs->r.1.length<=2000000)(hF:FinAt w b (nmR rs)) :
  Calls qab 59 #[.agg #[rv,nv,cv],finF b] w (WrongIs (dupO rs) 2 w):=by
 obtain⟨-,⟨a1,c1,rfl,-,ha1⟩,⟨-,a2,c2,rfl,-⟩,a3,c3,rfl,-,-⟩:=h;have HA1:=qaa ha1;have HM:=qaa hnm;have HB0:=qaa (zaa w);have HFI:=qaa hF;clear ha1 hnm hF;unfold finF;go_enter Tryz.func59,Tryz.ntmps59;go_wp2
 go_loopw [11] (fun c wr=>∃k:Nat,k<=rs.length/\c=.int .i64 k/\Below w.heap.size w wr/\fbad (dupB (nmR rs)) rs.length 0=fbad (dupB (nmR rs)) (rs.length-k) k) (fun c _=>rs.length-(intOf c).toNat)
 case atStart=>exact⟨0,qaj _,rfl,HB0.out _,rfl⟩
 case round=>
  obtain⟨k,hk,rfl,hb,hf⟩:=hrel;have hbs:=hb.size;have HB:=qaa hb;have HF:=qaa hf;clear hb hf;by_cases hlt:k<rs.length
  ·obtain⟨x,hx⟩:∃x,rs[k]?=some x:=⟨_,qae hlt⟩
   rcases HA1.out with hz|⟨ab,ao,rfl,hca⟩
   ·rw[hz] at hlt;exact absurd hlt (qa3 _)
   obtain⟨e0,e1,e2,e3⟩:=zdt hca hx HB.out;have k1:(k:Int)<(rs.length:Int):=U
   have hsub:rs.length-k=(rs.length-(k+1))+1:=U
   rw[hsub] at HF;have hxs:(strOf x.1).size<=2000000:=by rw[zb0];exact HM.out x (qan hx)
   obtain⟨j,hj,hjk⟩:=zgu (zgw hx);have hd:=zmd (zgw hx) hj;have HD:=qaa hd;have HFN:=qaa (fun(W:World) (hW:Below wr.heap.size wr W)=>zin (strOf x.1) b j (nmR rs) W ((HFI.out.below HB.out).below hW) (by unfold maxLen;omega) hj);have HCL:=qaa (fun W=>ze1 (strOf x.1) W hxs);have HX:=qaa hx;clear hsub hca hx hxs hj hd;by_cases hjl:j<k
   ·have HR:=qaa (zmg (HF.out.trans (zbn (HD.out.trans (decide_eq_true hjl)))) HX.out)
    have k2:(j:Int)<(k:Int):=U
    clear HF HD
    go_upto_region 5 with(go_at_call 89;(with_reducible refine(HFN.out _ (zaa wr _)).mono ?_);rintro e w2 ⟨rfl,rfl⟩)
    have HW:=qaa (Bl.new wr 123 #[.string (strOf x.1),.int .i64 (x.2.1:Int),.int .i64 x.2.2]);have HB1:=qaa (HB.out.trans ((zaa wr (.cells #[.string (strOf x.1),.int .i64 (x.2.1:Int),.int .i64 x.2.2] 123)).mono hbs));obtain⟨W1,hW1⟩:∃W1,wr.alloc (.cells #[.string (strOf x.1),.int .i64 (x.2.1:Int),.int .i64 x.2.2] 123)=W1:=⟨_,rfl⟩;rw[hW1] at HW HB1;rw[hW1];obtain⟨R,hR⟩:∃R,wr.heap.size=R:=⟨_,rfl⟩;rw[hR] at HW;rw[hR];clear hW1 hR HFN e0 e1 e2 e3 hbs HB;have f0:=HW.out.cell (o:=0) (u:=.string (strOf x.1)) rfl;have f1:=HW.out.cell (o:=1) (u:=.int .i64 (x.2.1:Int)) rfl;have fl:=HW.out.lt
    go_region_with (first
     |(go_at_call 90;(refine(HCL.out _).mono ?_);rintro e w3 ⟨rfl,hb⟩;have hb3:Below W1.heap.size W1 w3:=Below.trans (by repeat (first|exact Below.refl _ _|refine Below.drew ?_)) (hb.mono jc);have HW3:=qaa (HW.out.below hb3);have HB3:=qaa (HB1.out.trans (hb3.mono HB1.out.size));clear f0 f1 fl hb hb3;have g1:=HW3.out.cell (o:=1) (u:=.int .i64 (x.2.1:Int)) rfl;have gl:=HW3.out.lt)
     |(go_at_call 73;(refine(zes _ _ _).mono ?_);rintro e w4 ⟨rfl,rfl⟩))
    all_goals
     go_wp2
     go_ret2
     exact WrongIs.hit HR.out HB3.out
   ·have HR:=qaa (HF.out.trans (zbz (HD.out.trans (decide_eq_false hjl))))
    have k2:¬(j:Int)<(k:Int):=U
    have HB1:=qaa (HB.out.trans ((zaa wr (.cells #[.string (strOf x.1),.int .i64 (x.2.1:Int),.int .i64 x.2.2] 123)).mono hbs));clear HF HD
    go_wp2_with (go_at_call 89;(with_reducible refine(HFN.out _ (zaa wr _)).mono ?_);rintro e w2 ⟨rfl,rfl⟩)
    go_roundw
    case rel=>exact⟨k+1,hlt,by go_num,HB1.out,HR.out⟩
    case measure=>simp[intOf];omega
  ·obtain rfl:k=rs.length:=U
   have k1:¬(rs.length:Int)<(rs.length:Int):=U
   have HR:Hid (dupO rs=none):=qaa (zjp (by rw[HF.out,qb8];rfl));go_wp2
   go_ret2
   exact WrongIs.nil HR.out HB.out
end
section
open Go.RowKit
theorem zxg (rv nv cv:Value)(rs:List (List Nat × Nat × Int))(f:MF)(l:List ByteArray)(b:Nat)(w:World)(h:FileIn w rv nv cv rs f)(hr:f.calls.length<=100000000)(hnm:∀r,r ∈ f.calls->r.1.length<=2000000)(hF:FinAt w b l) :
  Calls qab 60 #[.agg #[rv,nv,cv],finF b] w (WrongIs (undO l f) 3 w):=by
 obtain⟨-,⟨a1,c1,rfl,-,-⟩,⟨-,a2,c2,rfl,-⟩,a3,c3,rfl,-,ha1⟩:=h;have HA1:=qaa ha1;have HM:=qaa hnm;have HB0:=qaa (zaa w);have HFI:=qaa hF;clear ha1 hnm hF;unfold finF;go_enter Tryz.func60,Tryz.ntmps60;go_wp2
 go_loopw [11] (fun c wr=>∃k:Nat,k<=f.calls.length/\c=.int .i64 k/\Below w.heap.size w wr/\fbad (undB l (nmC f)) f.calls.length 0=fbad (undB l (nmC f)) (f.calls.length-k) k) (fun c _=>f.calls.length-(intOf c).toNat)
 case atStart=>exact⟨0,qaj _,rfl,HB0.out _,rfl⟩
 case round=>
  obtain⟨k,hk,rfl,hb,hf⟩:=hrel;have hbs:=hb.size;have HB:=qaa hb;have HF:=qaa hf;clear hb hf;by_cases hlt:k<f.calls.length
  ·obtain⟨x,hx⟩:∃x,f.calls[k]?=some x:=⟨_,qae hlt⟩
   rcases HA1.out with hz|⟨ab,ao,rfl,hca⟩
   ·rw[hz] at hlt;exact absurd hlt (qa3 _)
   obtain⟨e0,e1,e3⟩:=zcy hca hx HB.out;have k1:(k:Int)<(f.calls.length:Int):=U
   have hsub:f.calls.length-k=(f.calls.length-(k+1))+1:=U
   rw[hsub] at HF;have hxs:(strOf x.1).size<=2000000:=by rw[zb0];exact HM.out x (qan hx)
   have hd:=zjm (l:=l) (zgx hx);have HD:=qaa hd;have HCL:=qaa (fun W=>ze1 (strOf x.1) W hxs);have HX:=qaa hx;have HXS:=qaa hxs;clear hsub hca hx hxs hd;cases hf:fndL l (strOf x.1) with
   |none=>
    rw[hf] at HD;have HR:=qaa (zr5 (HF.out.trans (zbn HD.out)) HX.out);have HFN:=qaa (fun(W:World) (hW:Below wr.heap.size wr W)=>zxf (strOf x.1) b l W ((HFI.out.below HB.out).below hW) (by have:=HXS.out;unfold maxLen;omega) hf);clear HF HD hf
    go_upto_region 5 with(go_at_call 89;(with_reducible refine(HFN.out _ (zaa wr _)).mono ?_);rintro e w2 ⟨rfl,rfl⟩)
    have HW:=qaa (Bl.new wr 66 #[.string (strOf x.1),.int .i64 (x.2:Int)]);have HB1:=qaa (HB.out.trans ((zaa wr (.cells #[.string (strOf x.1),.int .i64 (x.2:Int)] 66)).mono hbs));obtain⟨W1,hW1⟩:∃W1,wr.alloc (.cells #[.string (strOf x.1),.int .i64 (x.2:Int)] 66)=W1:=⟨_,rfl⟩;rw[hW1] at HW HB1;rw[hW1];obtain⟨R,hR⟩:∃R,wr.heap.size=R:=⟨_,rfl⟩;rw[hR] at HW;rw[hR];clear hW1 hR HFN e0 e1 e3 hbs HB;have f0:=HW.out.cell (o:=0) (u:=.string (strOf x.1)) rfl;have f1:=HW.out.cell (o:=1) (u:=.int .i64 (x.2:Int)) rfl;have fl:=HW.out.lt
    go_region_with (first
     |(go_at_call 90;(refine(HCL.out _).mono ?_);rintro e w3 ⟨rfl,hb⟩;have hb3:Below W1.heap.size W1 w3:=Below.trans (by repeat (first|exact Below.refl _ _|refine Below.drew ?_)) (hb.mono jc);have HW3:=qaa (HW.out.below hb3);have HB3:=qaa (HB1.out.trans (hb3.mono HB1.out.size));clear f0 f1 fl hb hb3;have g1:=HW3.out.cell (o:=1) (u:=.int .i64 (x.2:Int)) rfl;have gl:=HW3.out.lt)
     |(go_at_call 73;(refine(zes _ _ _).mono ?_);rintro e w4 ⟨rfl,rfl⟩))
    all_goals
     go_wp2
     go_ret2
     exact WrongIs.hit HR.out HB3.out
   |some j=>
    rw[hf] at HD;have HR:=qaa (HF.out.trans (zbz HD.out));have HFN:=qaa (fun(W:World) (hW:Below wr.heap.size wr W)=>zin (strOf x.1) b j l W ((HFI.out.below HB.out).below hW) (by have:=HXS.out;unfold maxLen;omega) hf);have k2:¬(j:Int)<0:=U
    have HB1:=qaa (HB.out.trans ((zaa wr (.cells #[.string (strOf x.1),.int .i64 (x.2:Int)] 66)).mono hbs));clear HF HD hf
    go_wp2_with (go_at_call 89;(with_reducible refine(HFN.out _ (zaa wr _)).mono ?_);rintro e w2 ⟨rfl,rfl⟩)
    go_roundw
    case rel=>exact⟨k+1,hlt,by go_num,HB1.out,HR.out⟩
    case measure=>simp[intOf];omega
  ·obtain rfl:k=f.calls.length:=U
   have k1:¬(f.calls.length:Int)<(f.calls.length:Int):=U
   have HR:Hid (undO l f=none):=qaa (zoc (by rw[HF.out,qb8];rfl));go_wp2
   go_ret2
   exact WrongIs.nil HR.out HB.out
end
