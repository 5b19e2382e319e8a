/- The names of a file as plain functions: the first index of a name, what is wrong first, the grammar of a file; and what goes over from the tokens of a file to t -/
import Derived.Deep.RegionWith
import Derived.Test.YthhppmehhdlmnaaGreatDoorPzA
import Derived.Test.YthhppmehhdlmnaaGreatDoorPzD
import Derived.Test.YthhppmehhdlmnaaGreatDoorPzGA
import Derived.Test.YthhppmehhdlmnaaGreatDoorPzC
import Derived.Test.YthhppmehhdlmnaaGreatDoorPzSynFIn
set_option maxRecDepth 100000
set_option maxHeartbeats 4000000
namespace Go.Proofs.YthhppmehhdlmnaaGreatDoor
section
def fndL:List ByteArray->ByteArray->Option Nat
 | [],_=>none
 |y::l,x=>if y=x then some 0 else (fndL l x).map (· + 1)
theorem zho {y x:ByteArray}{l:List ByteArray}(h:y=x):fndL (y::l) x=some 0:=if_pos h
theorem zl1 {y x:ByteArray}{l:List ByteArray}(h:y≠x):fndL (y::l) x=(fndL l x).map (· + 1):=if_neg h
theorem zin (y x:ByteArray):∀l:List ByteArray,fndL (l++[y]) x=match fndL l x with
  |some i=>some i
  |none=>if y=x then some l.length else none
 | []=>by
  show(if y=x then some 0 else (Option.map (· + 1) none))=_;rfl
 |z::l=>by
  show fndL (z::(l++[y])) x=_;by_cases hz:z=x
  ·rw[zho hz,zho hz]
  ·rw[zl1 hz,zl1 hz,zin y x l]
   cases fndL l x with
   |some i=>rfl
   |none=>
    dsimp only[Option.map];by_cases hy:y=x
    ·rw[if_pos hy,if_pos hy];rfl
    ·rw[if_neg hy,if_neg hy]
theorem znl {x:ByteArray}:∀ {l:List ByteArray} {i:Nat},fndL l x=some i->l[i]?=some x/\∀j:Nat,j<i->l[j]?≠some x
 | [],_,h=>by cases h
 |y::l,i,h=>by
  by_cases hy:y=x
  ·rw[zho hy] at h
   cases h;exact⟨by rw[hy];rfl,fun j hj=>absurd hj (Nat.not_lt_zero _)⟩
  ·rw[zl1 hy] at h
   obtain⟨k,hk,rfl⟩:=Option.map_eq_some_iff.1 h;obtain⟨h1,h2⟩:=znl hk;refine⟨h1,fun j hj=>?_⟩;cases j with
   |zero=>intro e;exact hy (Option.some.inj e)
   |succ j=>exact h2 j (by omega)
theorem znm {x:ByteArray}:∀ {l:List ByteArray},fndL l x=none->∀j:Nat,l[j]?≠some x
 | [],_,j=>by simp
 |y::l,h,j=>by
  by_cases hy:y=x
  ·rw[zho hy] at h;cases h
  ·rw[zl1 hy] at h
   cases j with
   |zero=>intro e;exact hy (Option.some.inj e)
   |succ j=>exact znm (Option.map_eq_none_iff.1 h) j
theorem z1v {x:ByteArray}{l:List ByteArray}{j:Nat}(h:l[j]?=some x):∃i,fndL l x=some i/\i<=j:=by
 cases hf:fndL l x with
 |none=>exact absurd h (znm hf j)
 |some i=>
  refine⟨i,rfl,?_⟩;obtain⟨-,h2⟩:=znl hf;by_cases hj:j<i
  ·exact absurd h (h2 j hj)
  ·omega
def nmR (rs:List (List Nat × Nat × Int)):List ByteArray:=rs.map fun r=>strOf r.1
def nmC (f:MF):List ByteArray:=f.calls.map fun c=>strOf c.1
def dupB (l:List ByteArray)(k:Nat):Bool:=match l[k]? with
 |some x=>(match fndL l x with
  |some j=>decide (j<k)
  |none=>false)
 |none=>false
def undB (l m:List ByteArray)(k:Nat):Bool:=match m[k]? with
 |some x=>(fndL l x).isNone
 |none=>false
theorem z1w {l:List ByteArray}{k j:Nat}{x:ByteArray}(h:l[k]?=some x)(hj:fndL l x=some j):dupB l k=decide (j<k):=by
 unfold dupB;rw[h];dsimp only;rw[hj]
theorem z6c {l m:List ByteArray}{k:Nat}{x:ByteArray}(h:m[k]?=some x):undB l m k=(fndL l x).isNone:=by
 unfold undB;rw[h]
def idxO (o:Option Nat):Int:=match o with
 |some i=>(i:Int)
 |none=>-1
def zbh (rs:List (List Nat × Nat × Int)):List PR:=rs.map fun r=>⟨strOf r.1,r.2.2⟩
def gNode (l m:List ByteArray)(n:PN):PN:=if n.op=2 then ⟨n.op,n.kids,idxO (fndL l (m.getD n.rule.toNat ByteArray.empty)),n.s0,n.s1,n.s2,n.s3⟩ else n
def zbg (l m:List ByteArray)(ns:List PN):List PN:=ns.map (gNode l m)
def cnt2 (ns:List PN):Nat:=ns.countP fun n=>decide (n.op=2)
def COk (f:MF):Prop:=cnt2 f.nodes=f.calls.length/\∀i n,f.nodes[i]?=some n->n.op=2->n.rule=(cnt2 (f.nodes.take i):Int)
theorem zio (ns:List PN)(n:PN):cnt2 (ns++[n])=cnt2 ns+if n.op=2 then 1 else 0:=by
 unfold cnt2;rw[List.countP_append,List.countP_singleton];by_cases h:n.op=2
 ·rw[if_pos h,if_pos (decide_eq_true h)]
 ·rw[if_neg h,if_neg (by rw[decide_eq_false h];decide)]
theorem zxs {ns:List PN}{i:Nat}{n:PN}(h:ns[i]?=some n):cnt2 (ns.take (i+1))=cnt2 (ns.take i)+if n.op=2 then 1 else 0:=by
 rw[zap ns i n h,zio]
theorem z6d (ns:List PN)(i:Nat):cnt2 (ns.take i)<=cnt2 ns:=by
 unfold cnt2;exact(List.take_sublist i ns).countP_le
theorem COk.nil:COk ⟨[],[]⟩:=⟨rfl,fun i n h=>by simp at h⟩
theorem COk.add {f:MF}(h:COk f){n:PN}(hn:n.op≠2):COk (addNY f n):=by
 refine⟨?_,fun i m hm h2=>?_⟩
 ·show cnt2 (f.nodes++[n])=f.calls.length
  rw[zio,if_neg hn,h.1];rfl
 ·have hm:(f.nodes++[n])[i]?=some m:=hm
  show m.rule=(cnt2 ((f.nodes++[n]).take i):Int);by_cases hi:i<f.nodes.length
  ·rw[List.getElem?_append_left hi] at hm
   rw[List.take_append_of_le_length (by omega)];exact h.2 i m hm h2
  ·have hl:=(List.getElem?_eq_some_iff.1 hm).1
   rw[List.length_append,List.length_singleton] at hl;have e:i=f.nodes.length:=by omega
   subst e;rw[List.getElem?_append_right (Nat.le_refl _),Nat.sub_self] at hm;have hm:some n=some m:=hm;obtain rfl:=Option.some.inj hm;exact absurd h2 hn
theorem COk.call {f:MF}(h:COk f)(t:Tok):COk (callF f t):=by
 have h2:(callN f.calls.length).op=2:=rfl;refine⟨?_,fun i m hm h2'=>?_⟩
 ·show cnt2 (f.nodes++[callN f.calls.length])=(f.calls++[(t.text,t.at_)]).length
  rw[zio,if_pos h2,h.1,List.length_append,List.length_singleton]
 ·have hm:(f.nodes++[callN f.calls.length])[i]?=some m:=hm
  show m.rule=(cnt2 ((f.nodes++[callN f.calls.length]).take i):Int);by_cases hi:i<f.nodes.length
  ·rw[List.getElem?_append_left hi] at hm
   rw[List.take_append_of_le_length (by omega)];exact h.2 i m hm h2'
  ·have hl:=(List.getElem?_eq_some_iff.1 hm).1
   rw[List.length_append,List.length_singleton] at hl;have e:i=f.nodes.length:=by omega
   subst e;rw[List.getElem?_append_right (Nat.le_refl _),Nat.sub_self] at hm;have hm:some (callN f.calls.length)=some m:=hm;obtain rfl:=Option.some.inj hm;rw[List.take_append_of_le_length (Nat.le_refl _),List.take_length,h.1];rfl
theorem COk.rule {f:MF}(h:COk f){i:Nat}{n:PN}(hn:f.nodes[i]?=some n)(h2:n.op=2):∃c:Nat,n.rule=(c:Int)/\c<f.calls.length:=by
 refine⟨_,h.2 i n hn h2,?_⟩;have a:=zxs hn;rw[if_pos h2] at a;have b:=z6d f.nodes (i+1);have c:=h.1;omega
structure Stp (K:Nat) (T:Tok->Prop) (Q:MF->Prop):Prop where
 add:∀f n,Q f->n.op≠2->n.kids.length<=K->Q (addNY f n)
 call:∀f t,Q f->T t->t.kind=1->Q (callF f t)
 txt:∀t,T t->t.text.length<=K
 pos:1<=K
variable {K:Nat} {T:Tok->Prop} {Q:MF->Prop}
def TkA (K:Nat)(T:Tok->Prop)(ts:List Tok):Prop:=ts.length<K/\∀t ∈ ts,T t
def PoA (K:Nat)(T:Tok->Prop)(Q:MF->Prop)(o:PO):Prop:=match o with
 |.ok ts f=>TkA K T ts/\Q f
 |.bad _ _=>True
def Inv (K:Nat)(T:Tok->Prop)(Q:MF->Prop)(F:List Tok->MF->PO):Prop:=∀ts f,TkA K T ts->Q f->PoA K T Q (F ts f)
theorem TkA.tail {ts:List Tok}(h:TkA K T ts):TkA K T ts.tail:=⟨Nat.lt_of_le_of_lt (by rw[List.length_tail];exact Nat.sub_le _ _) h.1,fun t ht=>h.2 t (List.mem_of_mem_tail ht)⟩
theorem Stp.join (hs:Stp K T Q){f:MF}(h:Q f){op:Int}(ho:op≠2){ks:List Int}(hk:ks.length<=K):Q (joinN f op ks):=by
 unfold joinN;split
 ·exact hs.add _ _ h (show(0:Int)≠2 by decide) (Nat.zero_le _)
 ·exact h
 ·exact hs.add _ _ h ho hk
theorem Stp.litF (hs:Stp K T Q):∀(l:List Nat) (f:MF) (ks:List Int),Q f->Q (litF f l ks).1
 | [],_,_,h=>h
 |_::r,_,_,h=>Stp.litF hs r _ _ (hs.add _ _ h (show(1:Int)≠2 by decide) (Nat.zero_le _))
theorem Stp.lit (hs:Stp K T Q){f:MF}(h:Q f){t:List Nat}(ht:t.length<=K):Q (litN f t):=hs.join (hs.litF t f [] h) (by decide) (by rw[(zly t f []).2.1];simpa using ht)
theorem PoA.acc (st:Bool){ts:List Tok}{f:MF}(h:TkA K T ts)(k:Q f):PoA K T Q (acc st ts f):=by
 unfold Go.Proofs.YthhppmehhdlmnaaGreatDoor.acc;split
 ·trivial
 ·exact⟨h,k⟩
theorem PoA.bind {o:PO}{k:List Tok->MF->PO}(h:PoA K T Q o)(hk:∀a g,TkA K T a->Q g->PoA K T Q (k a g)):PoA K T Q (o.bind k):=by
 cases o with
 |ok a g=>exact hk a g h.1 h.2
 |bad a d=>trivial
theorem Inv.clos (st:Bool):Inv K T Q (closL st):=by
 intro ts f h k;unfold closL;split
 ·exact PoA.acc _ h.tail k
 ·trivial
theorem Inv.prim (hs:Stp K T Q){st:Bool}{room:Nat}{rec:List Tok->MF->PO}(h:Inv K T Q rec):Inv K T Q (primL st room rec):=by
 intro ts f ht hf;cases ts with
 |nil=>trivial
 |cons t tl=>
  have ht':TkA K T tl:=ht.tail;have h0:=ht.2 t (List.mem_cons_self ..);unfold primL;dsimp only;split
  ·rename_i h1
   split
   ·trivial
   ·exact PoA.acc _ ht' (hs.call _ _ hf h0 h1)
  ·split
   ·split
    ·trivial
    ·refine(PoA.acc _ ht' hf).bind fun a b ha hb=>?_
     refine(h a b ha hb).bind fun c e hc he=>Inv.clos st c e hc he
   ·split
    ·exact PoA.acc _ ht' (hs.lit hf (hs.txt t h0))
    ·split
     ·exact PoA.acc _ ht' (hs.add _ _ hf (show(1:Int)≠2 by decide) (Nat.zero_le _))
     ·split
      ·exact PoA.acc _ ht' (hs.add _ _ hf (show(1:Int)≠2 by decide) (Nat.zero_le _))
      ·trivial
theorem Inv.sufK (hs:Stp K T Q)(st:Bool):Inv K T Q (sufK st):=by
 intro ts f h k;unfold Go.Proofs.YthhppmehhdlmnaaGreatDoor.sufK;split
 ·exact PoA.acc _ h.tail (hs.add _ _ k (zrv _) hs.pos)
 ·exact⟨h,k⟩
theorem Inv.suf (hs:Stp K T Q){st:Bool}{room:Nat}{rec:List Tok->MF->PO}(h:Inv K T Q rec):Inv K T Q (sufL st room rec):=by
 intro ts f ht hf;unfold sufL;exact(Inv.prim hs h ts f ht hf).bind fun a g ha hg=>Inv.sufK hs st a g ha hg
theorem Inv.pre (hs:Stp K T Q){st:Bool}{room:Nat}{rec:List Tok->MF->PO}(h:Inv K T Q rec):Inv K T Q (preL st room rec):=by
 intro ts f ht hf;unfold preL;split
 ·refine(PoA.acc _ ht.tail hf).bind fun a b ha hb=>?_
  exact(Inv.suf hs h a b ha hb).bind fun c e hc he=>⟨hc,hs.add _ _ he (zrw _) hs.pos⟩
 ·exact Inv.suf hs h ts f ht hf
theorem Inv.parts (hs:Stp K T Q){top:Bool}{pre:List Tok->MF->PO}(h:Inv K T Q pre):∀(n:Nat) (ts:List Tok) (f:MF) (ks:List Int),ks.length+n<=K->TkA K T ts->Q f->PoA K T Q (zb8 top pre n ts f ks)
 |0,_,_,_,_,_,_=>trivial
 |n+1,ts,f,ks,hk,ht,hf=>by
  cases hb:begBY top ts
  ·rw[za0 hb]
   exact⟨ht,hs.join hf (by decide) (by omega)⟩
  ·rw[zbw hb]
   exact(h ts f ht hf).bind fun a g ha hg=>Inv.parts hs h n a g _ (by rw[List.length_append,List.length_singleton];omega) ha hg
theorem Inv.seq (hs:Stp K T Q){top:Bool}{pre:List Tok->MF->PO}(h:Inv K T Q pre):Inv K T Q (seqL top pre):=fun ts f ht hf=>Inv.parts hs h _ ts f [] (by have:=ht.1;simp;omega) ht hf
theorem Inv.alts (hs:Stp K T Q){st:Bool}{sq:List Tok->MF->PO}(h:Inv K T Q sq):∀(n:Nat) (ts:List Tok) (f:MF) (ks:List Int),ks.length+n<=K->TkA K T ts->Q f->PoA K T Q (altsL st sq n ts f ks)
 |0,_,_,_,_,_,_=>trivial
 |n+1,ts,f,ks,hk,ht,hf=>by
  rw[zcq];refine(h ts f ht hf).bind fun a g ha hg=>?_
  split
  ·exact(PoA.acc _ ha.tail hg).bind fun b k hb hk'=>Inv.alts hs h n b k _ (by rw[List.length_append,List.length_singleton];omega) hb hk'
  ·exact⟨ha,hs.join hg (by decide) (by rw[List.length_append,List.length_singleton];omega)⟩
theorem Inv.none:Inv K T Q fun a _=>.bad a false:=fun _ _ _ _=>True.intro
theorem Inv.altsF (hs:Stp K T Q){st:Bool}{sq:List Tok->MF->PO}(h:Inv K T Q sq):Inv K T Q fun ts f=>altsL st sq (ts.length+1) ts f []:=fun ts f ht hf=>Inv.alts hs h _ ts f [] (by have:=ht.1;simp;omega) ht hf
theorem Inv.expr (hs:Stp K T Q)(st:Bool):∀(r:Nat) (top:Bool),Inv K T Q (exprL st r top)
 |0,_=>Inv.altsF hs (Inv.seq hs (Inv.pre hs Inv.none))
 |r+1,_=>Inv.altsF hs (Inv.seq hs (Inv.pre hs (Inv.expr hs st r false)))
theorem Inv.defL {st:Bool}{F:List Tok->MF->PO}(h:Inv K T Q F):Inv K T Q (defL st F):=by
 intro ts f ht hf;unfold Go.Proofs.YthhppmehhdlmnaaGreatDoor.defL;split
 ·refine(PoA.acc _ ht.tail hf).bind fun a g ha hg=>?_
  split
  ·exact(PoA.acc _ ha.tail hg).bind fun b k hb hk=>h b k hb hk
  ·trivial
 ·trivial
def RuA (T:Tok->Prop)(rs:List (List Nat × Nat × Int)):Prop:=∀r ∈ rs,∃t,T t/\t.kind=1/\r.1=t.text/\r.2.1=t.at_
theorem znn {st:Bool}{F:List Tok->MF->PO}(h:Inv K T Q F):∀(n:Nat) (ts:List Tok) (f g:MF) (rs rs':List (List Nat × Nat × Int)),TkA K T ts->Q f->RuA T rs->defsL st F n ts f rs=.ok rs' g->RuA T rs'/\Q g
 |0,_,_,_,_,_,_,_,_,e=>by cases e
 |n+1,ts,f,g,rs,rs',ht,hf,hr,e=>by
  unfold defsL at e;have hd:=Inv.defL (st:=st) h ts f ht hf;cases ho:defL st F ts f with
  |bad a dp=>rw[ho] at e;cases e
  |ok a k=>
   rw[ho] at e hd;have h1:=z1u ho;have hr':RuA T (rs++[(txt ts,pos ts,lastI k)]):=fun r hm=>by
    rcases List.mem_append.1 hm with hm|hm
    ·exact hr r hm
    ·obtain rfl:=List.mem_singleton.1 hm
     cases ts with
     |nil=>cases h1
     |cons t tl=>exact⟨t,ht.2 t (List.mem_cons_self ..),h1,rfl,rfl⟩
   dsimp only at e;split at e
   ·cases e
    exact⟨hr',hd.2⟩
   ·exact znn h n a k g _ _ hd.1 hd.2 hr' e
theorem z1x (hs:Stp K T Q)(h0:Q ⟨[],[]⟩){l:List Nat}{rs:List (List Nat × Nat × Int)}{f:MF}(hT:TkA K T (strm l 0))(h:zfb l=.ok rs f):RuA T rs/\Q f:=
 znn (Inv.expr hs true 200 true) _ _ _ _ _ _ hT h0 (fun r hr=>by cases hr) h
end
def dupO (rs:List (List Nat × Nat × Int)):Option (List Nat × Nat):=(fbad (dupB (nmR rs)) rs.length 0).bind fun k=>rs[k]?.map fun x=>(x.1,x.2.1)
def undO (l:List ByteArray)(f:MF):Option (List Nat × Nat):=(fbad (undB l (nmC f)) f.calls.length 0).bind fun k=>f.calls[k]?
theorem z1y {rs:List (List Nat × Nat × Int)}{k:Nat}{x:List Nat × Nat × Int}(h:fbad (dupB (nmR rs)) rs.length 0=some k)(hx:rs[k]?=some x):dupO rs=some (x.1,x.2.1):=by
 unfold dupO;rw[h,Option.bind_some,hx];rfl
theorem zxt {rs:List (List Nat × Nat × Int)}(h:fbad (dupB (nmR rs)) rs.length 0=none):dupO rs=none:=by
 unfold dupO;rw[h];rfl
theorem z1z {l:List ByteArray}{f:MF}{k:Nat}{x:List Nat × Nat}(h:fbad (undB l (nmC f)) f.calls.length 0=some k)(hx:f.calls[k]?=some x):undO l f=some x:=by
 unfold undO;rw[h,Option.bind_some,hx]
theorem zxu {l:List ByteArray}{f:MF}(h:fbad (undB l (nmC f)) f.calls.length 0=none):undO l f=none:=by
 unfold undO;rw[h];rfl
section
open Go.RowKit Go.Maps
theorem z6e (w:World):(zeroValue 3).run Tryz.prog w=.ok (.int .i64 0) w:=by kernel_rfl
def FirAt (w:World)(b n:Nat)(l:List ByteArray):Prop:=∃D:DataW Unit,w.ownsMap Tryz.prog 9 (plainElem Tryz.prog 3) b n D/\Maps.IsMap D /\
 ∀s:ByteArray,Maps.has D (.string s.data.toList)=(fndL l s).isSome/\∀i,fndL l s=some i->∀z,D.atKey (.string s.data.toList) z=.lit (.int .i64 (i:Int))
theorem FirAt.made (w:World):FirAt (w.alloc (.map #[] 0)) w.heap.size 0 []:=
 ⟨.map [],World.ownsMap_made _ _ _ _,Maps.isMap_empty,fun _=>⟨rfl,fun i h=>by cases h⟩⟩
theorem FirAt.below {w w':World}{b n:Nat}{l:List ByteArray}(h:FirAt w b n l)(hb:Below w.heap.size w w'):FirAt w' b n l:=by
 obtain⟨D,h1,h2,h3⟩:=h;obtain⟨es,clock,h4,h5⟩:=h1;exact⟨D,⟨es,clock,by rw[hb.block b (Array.getElem?_eq_some_iff.1 h4).1];exact h4,h5⟩,h2,h3⟩
theorem FirAt.look {w:World}{b n:Nat}{l:List ByteArray}(h:FirAt w b n l)(s:ByteArray)(hs:s.size<=maxLen):(Instr.lookup 171 (.map (some b)) (.string s) true).run Tryz.prog w=.ok (.tuple #[.int .i64 (((fndL l s).getD 0:Nat):Int),.bool (fndL l s).isSome]) w:=by
 obtain⟨D,h1,h2,h3⟩:=h;obtain⟨v,ps,hrun,hv⟩:=h1.look_ok zk6 Tryz.underlying171 (z6e w) (plainElem_int (H:=Unit) Tryz.underlying3 (a:=0) (by decide)) (WideMaps.keyOf_string_mk Tryz.underlying9 hs);obtain⟨x,rfl,hx,-⟩:=plainElem_int_inv Tryz.underlying3 hv;have h4:=congrArg Prod.fst hx;obtain⟨h5,h6⟩:=h3 s;rw[hrun,h5];cases hf:fndL l s with
 |some i=>
  have h7:=(h6 i hf (.lit (.int .i64 0))).symm.trans h4;injection h7 with h8;injection h8 with _ h9;rw[<-h9];rfl
 |none=>
  rw[hf] at h5;have h7:=(Maps.atKey_of_not_has h5 (.lit (.int .i64 0))).symm.trans h4;injection h7 with h8;injection h8 with _ h9;rw[<-h9];rfl
theorem FirAt.put {w:World}{D:DataW Unit}{b n:Nat}{l:List ByteArray}(s:ByteArray)(h1:w.ownsMap Tryz.prog 9 (plainElem Tryz.prog 3) b n (D.put (.string s.data.toList) (.lit (.int .i64 (l.length:Int)))))(h2:Maps.IsMap D)
  (h3:∀s:ByteArray,Maps.has D (.string s.data.toList)=(fndL l s).isSome/\∀i,fndL l s=some i->∀z,D.atKey (.string s.data.toList) z=.lit (.int .i64 (i:Int)))
  (hn:fndL l s=none):FirAt w b n (l++[s]):=by
 refine⟨_,h1,h2.put _ _,fun x=>?_⟩;rw[zin];by_cases e:s=x
 ·subst e
  rw[hn];dsimp only;rw[if_pos rfl];refine⟨Maps.has_put_same h2 (show WideAt.IsKeyLit (.string _) from trivial) _,fun i hi z=>?_⟩;cases hi;exact Maps.atKey_put_same h2 (show WideAt.IsKeyLit (.string _) from trivial) _ _
 ·have hne:(Lit.string x.data.toList)≠.string s.data.toList:=by
   intro he;injection he with he;exact e (ByteArray.ext (Array.ext' he)).symm
  rw[Maps.has_put_other hne,(h3 x).1];cases hf:fndL l x with
  |some i=>
   refine⟨rfl,fun j hj z=>?_⟩;cases hj;rw[Maps.atKey_put_other hne];exact(h3 x).2 i hf z
  |none=>
   dsimp only;rw[if_neg e];exact⟨rfl,fun j hj=>by cases hj⟩
theorem FirAt.old {w:World}{b n:Nat}{l:List ByteArray}{s:ByteArray}(h:FirAt w b n l){i:Nat}(hf:fndL l s=some i):FirAt w b (n+1) (l++[s]):=by
 obtain⟨D,h1,h2,h3⟩:=h;refine⟨D,h1.mono (Nat.le_succ _),h2,fun x=>?_⟩;have e:fndL (l++[s]) x=fndL l x:=by
  rw[zin];cases hx:fndL l x with
  |some j=>rfl
  |none=>
   dsimp only;refine if_neg fun e=>?_
   rw[<-e,hf] at hx;cases hx
 rw[e];exact h3 x
def FinAt (w:World)(b:Nat)(l:List ByteArray):Prop:=∃m n,Bl w b 171 #[.map (some m)]/\FirAt w m n l
theorem FinAt.below {w w':World}{b:Nat}{l:List ByteArray}(h:FinAt w b l)(hb:Below w.heap.size w w'):FinAt w' b l:=by
 obtain⟨m,n,h1,h2⟩:=h;exact⟨m,n,h1.below hb,h2.below hb⟩
def StrsAt (w:World)(v:Value)(l:List ByteArray):Prop:=CellsAt w v l.length (l.map Value.string)
def finF (b:Nat):Value:=.func (.func 127) #[] #[.pointer (some ⟨b,0,none⟩)]
theorem zl2 (x:ByteArray)(b:Nat)(l:List ByteArray)(w:World)(h:FinAt w b l)(hs:x.size<=maxLen) :
  Calls Tryz.prog 127 #[.string x,.pointer (some ⟨b,0,none⟩)] w fun e w'=>e=.returned (.int .i64 (idxO (fndL l x)))/\w'=w:=by
 obtain⟨m,n,hB,hF⟩:=h;have c0:=hB.cell (o:=0) (u:=.map (some m)) rfl;have hl:=hF.look x hs;clear hB hF;cases hf:fndL l x with
 |some i=>
  rw[hf] at hl;have hl:(Instr.lookup 171 (.map (some m)) (.string x) true).run Tryz.prog w=.ok (.tuple #[.int .i64 (i:Int),.bool true]) w:=hl;clear hf;go_enter Tryz.func127,Tryz.ntmps127;go_wp2;go_ret;exact⟨rfl,rfl⟩
 |none=>
  rw[hf] at hl;have hl:(Instr.lookup 171 (.map (some m)) (.string x) true).run Tryz.prog w=.ok (.tuple #[.int .i64 0,.bool false]) w:=hl;clear hf;go_enter Tryz.func127,Tryz.ntmps127;go_wp2;go_ret;exact⟨rfl,rfl⟩
theorem zl3 {l:List ByteArray}{k:Nat}{x:ByteArray}(h:l[k]?=some x):l.take (k+1)=l.take k++[x]:=zap l k x h
theorem ztn (v:Value)(l:List ByteArray)(w:World)(hv:StrsAt w v l)(hn:l.length<=100000000)(hsz:∀x,x ∈ l->x.size<=2000000) :
  Calls Tryz.prog 89 #[v] w fun e w'=>∃b,e=.returned (finF b)/\FinAt w' b l/\w.heap.size<=b/\Below w.heap.size w w':=by
 obtain⟨a,ca,rfl,-,ha⟩:=hv;have HM:=Lib.hid hsz;have HB0:=Lib.hid (zat w (.map #[] 0) (.cells #[.map (some w.heap.size)] 171));have HS0:Hid (FirAt ((w.alloc (.map #[] 0)).alloc (.cells #[.map (some w.heap.size)] 171)) w.heap.size 0 (l.take 0)):=Lib.hid ((FirAt.made w).below (zab _ _));have HL0:Hid (Bl ((w.alloc (.map #[] 0)).alloc (.cells #[.map (some w.heap.size)] 171)) (w.heap.size+1) 171 #[.map (some w.heap.size)]):=Lib.hid (by
  have:=Bl.new (w.alloc (.map #[] 0)) 171 #[.map (some w.heap.size)];rw[World.size_alloc] at this;exact this)
 have hmm:=@run_makeMap Tryz.prog;have HA:=Lib.hid ha;clear hsz ha;go_enter Tryz.func89,Tryz.ntmps89;go_wp2
 go_loopw [11] (fun c wr=>∃k:Nat,k<=l.length/\c=.int .i64 k/\Below w.heap.size w wr/\FirAt wr w.heap.size k (l.take k)/\Bl wr (w.heap.size+1) 171 #[.map (some w.heap.size)]) (fun c _=>l.length-(intOf c).toNat)
 case atStart=>exact⟨0,Nat.zero_le _,rfl,HB0.out,HS0.out,HL0.out⟩
 case round=>
  obtain⟨k,hk,rfl,hb,hF,hL⟩:=hrel;have c0:=hL.cell (o:=0) (u:=.map (some w.heap.size)) rfl;have HB:=Lib.hid hb;have HF:=Lib.hid hF;have HL:=Lib.hid hL;have hbs:=hb.size;have hll:=hL.lt;clear hb hF hL;by_cases hlt:k<l.length
  ·obtain⟨x,hx⟩:∃x,l[k]?=some x:=⟨_,List.getElem?_eq_getElem hlt⟩
   rcases HA.out with hz|⟨ab,ao,rfl,hca⟩
   ·rw[hz] at hlt;exact absurd hlt (Nat.not_lt_zero _)
   have e0:wr.cell? ⟨ab,ao+k,none⟩=some (.string x):=by
    have h1:=hca k (.string x) (by rw[List.getElem?_map,hx];rfl);rw[(bcell HB.out).1 _ _ (zac h1)];exact h1
   have e3:=zac e0;have k1:(k:Int)<(l.length:Int):=by omega
   have hxs:=HM.out x (List.mem_of_getElem? hx);have hlk:=HF.out.look x (by unfold maxLen;omega);have HX:=Lib.hid (zl3 hx);clear hca hx;cases hf:fndL (l.take k) x with
   |some i=>
    rw[hf] at hlk;have hlk:(Instr.lookup 171 (.map (some w.heap.size)) (.string x) true).run Tryz.prog wr=.ok (.tuple #[.int .i64 (i:Int),.bool true]) wr:=hlk;have HR:=Lib.hid (HF.out.old hf);clear hf;go_wp2;go_roundw
    case rel=>exact⟨k+1,hlt,by go_num,HB.out,by rw[HX.out];exact HR.out,HL.out⟩
    case measure=>simp[intOf];omega
   |none=>
    rw[hf] at hlk;have hlk:(Instr.lookup 171 (.map (some w.heap.size)) (.string x) true).run Tryz.prog wr=.ok (.tuple #[.int .i64 0,.bool false]) wr:=hlk;have HN:=Lib.hid hf;obtain⟨D,hown,hmap,hat⟩:=HF.out;have hkey:=WideMaps.keyOf_string_mk (P:=Tryz.prog) Tryz.underlying9 (s:=x) (by unfold maxLen;omega);have HAT:=Lib.hid hat;have HKEY:=Lib.hid hkey;have HMAP:=Lib.hid hmap;have hwf:(Lit.int .i64 (k:Int)).wf=true:=WalkArith.wf_i64 (by omega);have HWF:=Lib.hid hwf;have hlen:(l.take k).length=k:=by rw[List.length_take];omega
    have HLEN:=Lib.hid hlen;clear hf hat hkey hmap hwf hlen
    go_wp2_with (at_mapUpdate;refine wpList_mapUpdate_own _ rfl _ _ _ 171 rfl 9 3 zk6 Tryz.underlying171 _ w.heap.size k D rfl hown (by unfold maxLen;omega) _ _ _ rfl rfl HKEY.out _ [] (plainElem_int Tryz.underlying3 HWF.out) ?_;intro w1 hown1 hgrow1)
    go_roundw
    case rel=>exact⟨k+1,hlt,by go_num,HB.out.grown hgrow1 hbs (fun j e=>by injection e with e;omega),by rw[HX.out];exact FirAt.put x (by rw[HLEN.out];exact hown1) HMAP.out HAT.out HN.out,by unfold Bl;rw[hgrow1.block _ hll (by simp)];exact HL.out⟩
    case measure=>simp[intOf];omega
  ·obtain rfl:k=l.length:=by omega
   have k1:¬(l.length:Int)<(l.length:Int):=by omega
   have HR:Hid (FinAt wr (w.heap.size+1) l):=Lib.hid ⟨_,_,HL.out,by have:=HF.out;rw[List.take_length] at this;exact this⟩;go_wp2;go_ret;exact⟨_,rfl,HR.out,Nat.le_succ _,HB.out⟩
end
section
open Go.RowKit
theorem z10:(Tryz.prog.info? 9).map (fun i=>(i.zero,i.size,i.bytes))=some (some (.string ⟨#[]⟩),1,16):=by kernel_rfl
def strV (l:List ByteArray):List Value:=l.map Value.string
theorem zxv {l:List ByteArray}{k:Nat}{x:ByteArray}(h:l[k]?=some x):strV (l.take (k+1))=strV (l.take k)++[.string x]:=by
 unfold strV;rw[zap l k x h,List.map_append];rfl
theorem zxw {rs:List (List Nat × Nat × Int)}{k:Nat}{x:List Nat × Nat × Int}(h:rs[k]?=some x):(nmR rs)[k]?=some (strOf x.1):=by
 unfold nmR;rw[List.getElem?_map,h];rfl
theorem z34 {f:MF}{k:Nat}{x:List Nat × Nat}(h:f.calls[k]?=some x):(nmC f)[k]?=some (strOf x.1):=by
 unfold nmC;rw[List.getElem?_map,h];rfl
theorem zxx (rs:List (List Nat × Nat × Int)):(nmR rs).length=rs.length:=List.length_map _
theorem z11 (w:World)(o:Obj)(v:Value)(t:TypeId):∀j u,[v][j]?=some u->((w.alloc o).alloc (.cells #[v] t)).cell? ((⟨w.heap.size+1,0,none⟩:Addr).add j)=some u:=by
 have h:=zaq (w.alloc o) v t;rw[World.size_alloc] at h;exact h
theorem zry (x:ByteArray)(b j:Nat)(l:List ByteArray)(w:World)(h:FinAt w b l)(hs:x.size<=maxLen)(hj:fndL l x=some j) :
  Calls Tryz.prog 127 #[.string x,.pointer (some ⟨b,0,none⟩)] w fun e w'=>e=.returned (.int .i64 (j:Int))/\w'=w:=by
 have h1:=zl2 x b l w h hs;rw[hj] at h1;exact h1
theorem z6f (x:ByteArray)(b:Nat)(l:List ByteArray)(w:World)(h:FinAt w b l)(hs:x.size<=maxLen)(hj:fndL l x=none) :
  Calls Tryz.prog 127 #[.string x,.pointer (some ⟨b,0,none⟩)] w fun e w'=>e=.returned (.int .i64 (-1))/\w'=w:=by
 have h1:=zl2 x b l w h hs;rw[hj] at h1;exact h1
def z8q (l:List ByteArray)(w:World)(e:Ending)(w':World):Prop:=∃v,e=.returned v/\w'.ownsRow w.heap.size 9 1 v l.length (strV l)/\Below w.heap.size w w'
theorem StrsAt.of_own {w:World}{base:Nat}{v:Value}{l:List ByteArray}(h:w.ownsRow base 9 1 v l.length (strV l)):StrsAt w v l:=CellsAt.of_own h
theorem StrsAt.below {w w':World}{v:Value}{l:List ByteArray}(h:StrsAt w v l)(hb:Below w.heap.size w w'):StrsAt w' v l:=CellsAt.kept h hb (Nat.le_refl _)
theorem zto (rv nv cv:Value)(rs:List (List Nat × Nat × Int))(f:MF)(w:World)(h:FileIn w rv nv cv rs f)(hr:rs.length<=100000000) :
  Calls Tryz.prog 90 #[.agg #[rv,nv,cv]] w (z8q (nmR rs) w):=by
 obtain⟨-,⟨a1,c1,rfl,-,ha1⟩,⟨-,a2,c2,rfl,-⟩,a3,c3,rfl,-,-⟩:=h;have HA1:=Lib.hid ha1;have HB0:=Lib.hid (zab w);clear ha1;obtain⟨ii,hii,hz0,hz1,hz2⟩:=info_parts z10;have HL:=Lib.hid (zxx rs);go_enter Tryz.func90,Tryz.ntmps90;go_wp2
 go_loopw [9,3] (fun c v wr=>∃k:Nat,k<=rs.length/\c=.int .i64 k/\Below w.heap.size w wr/\wr.ownsRow w.heap.size 9 1 v k (strV ((nmR rs).take k))) (fun c _ _=>rs.length-(intOf c).toNat)
 case atStart=>exact⟨0,Nat.zero_le _,rfl,HB0.out _,World.ownsRow_nil _ _ _ _⟩
 case round=>
  obtain⟨k,hk,rfl,hb,ho⟩:=hrel;obtain⟨va,vc,rfl⟩:=zad ho;have hbs:=hb.size;have HB:=Lib.hid hb;have HO:=Lib.hid ho;clear hb ho;by_cases hlt:k<rs.length
  ·obtain⟨x,hx⟩:∃x,rs[k]?=some x:=⟨_,List.getElem?_eq_getElem hlt⟩
   rcases HA1.out with hz|⟨ab,ao,rfl,hca⟩
   ·rw[hz] at hlt;exact absurd hlt (Nat.not_lt_zero _)
   obtain⟨e0,e1,e2,e3⟩:=zim hca hx HB.out;have k1:(k:Int)<(rs.length:Int):=by omega
   have HX:=Lib.hid (zxv (zxw hx));clear hca hx
   go_wp2_with (at_builtin;refine wpList_append_own _ rfl _ _ 64 rfl w.heap.size 9 ii _ 1 16 Tryz.underlying64 hii hz0 hz1 hz2 rfl (by decide) _ k _ rfl (zaa HO.out (zat wr _ _)) ⟨_,0,none⟩ 1 1 [.string (strOf x.1)] rfl rfl (z11 _ _ _ _) (by simp[Value.oneCell']) (by unfold maxLen;omega) (by omega) (by simp;omega) ?_;intro v5 w5 hown' hgrow _;have HO5:=Lib.hid hown';have HB5:=Lib.hid (Below.grown (HB.out.trans ((zat wr _ _).mono hbs)) hgrow (by simp;omega) (fun g e=>(HO.out.lt g e).1)))
   go_roundw
   case rel=>exact⟨k+1,hlt,by go_num,HB5.out,by rw[HX.out];exact HO5.out⟩
   case measure=>simp[intOf];omega
  ·obtain rfl:k=rs.length:=by omega
   have k1:¬(rs.length:Int)<(rs.length:Int):=by omega
   go_wp2;go_ret;exact⟨.slice va rs.length vc,rfl,by
    have:=HO.out;rw[List.take_of_length_le (Nat.le_of_eq HL.out)] at this;rw[HL.out];exact this,HB.out⟩
end
section
open Go.RowKit
def WrongIs (o:Option (List Nat × Nat))(c:Int)(w:World)(e:Ending)(w':World):Prop:=match o with
 |none=>e=.returned (.tuple #[.string ⟨#[]⟩,.nilIface])/\Below w.heap.size w w'
 |some x=>e=.returned (.tuple #[.string (strOf x.1),.iface 132 (.agg #[.int .i64 c,.int .i64 (x.2:Int)])])/\Below w.heap.size w w'
theorem WrongIs.nil {o:Option (List Nat × Nat)}{c:Int}{w w':World}(h:o=none)(hb:Below w.heap.size w w'):WrongIs o c w (.returned (.tuple #[.string ⟨#[]⟩,.nilIface])) w':=by subst h;exact⟨rfl,hb⟩
theorem WrongIs.hit {o:Option (List Nat × Nat)}{c:Int}{w w':World}{x:List Nat × Nat}(h:o=some x)(hb:Below w.heap.size w w'):WrongIs o c w (.returned (.tuple #[.string (strOf x.1),.iface 132 (.agg #[.int .i64 c,.int .i64 (x.2:Int)])])) w':=by subst h;exact⟨rfl,hb⟩
theorem z6g (rv nv cv:Value)(rs:List (List Nat × Nat × Int))(f:MF)(b:Nat)(w:World)(h:FileIn w rv nv cv rs f)(hr:rs.length<=100000000)(hnm:∀r,r ∈ rs->r.1.length<=2000000)(hF:FinAt w b (nmR rs)) :
  Calls Tryz.prog 91 #[.agg #[rv,nv,cv],finF b] w (WrongIs (dupO rs) 2 w):=by
 obtain⟨-,⟨a1,c1,rfl,-,ha1⟩,⟨-,a2,c2,rfl,-⟩,a3,c3,rfl,-,-⟩:=h;have HA1:=Lib.hid ha1;have HM:=Lib.hid hnm;have HB0:=Lib.hid (zab w);have HFI:=Lib.hid hF;clear ha1 hnm hF;unfold finF;go_enter Tryz.func91,Tryz.ntmps91;go_wp2
 go_loopw [11] (fun c wr=>∃k:Nat,k<=rs.length/\c=.int .i64 k/\Below w.heap.size w wr/\fbad (dupB (nmR rs)) rs.length 0=fbad (dupB (nmR rs)) (rs.length-k) k) (fun c _=>rs.length-(intOf c).toNat)
 case atStart=>exact⟨0,Nat.zero_le _,rfl,HB0.out _,rfl⟩
 case round=>
  obtain⟨k,hk,rfl,hb,hf⟩:=hrel;have hbs:=hb.size;have HB:=Lib.hid hb;have HF:=Lib.hid hf;clear hb hf;by_cases hlt:k<rs.length
  ·obtain⟨x,hx⟩:∃x,rs[k]?=some x:=⟨_,List.getElem?_eq_getElem hlt⟩
   rcases HA1.out with hz|⟨ab,ao,rfl,hca⟩
   ·rw[hz] at hlt;exact absurd hlt (Nat.not_lt_zero _)
   obtain⟨e0,e1,e2,e3⟩:=zim hca hx HB.out;have k1:(k:Int)<(rs.length:Int):=by omega
   have hsub:rs.length-k=(rs.length-(k+1))+1:=by omega
   rw[hsub] at HF;have hxs:(strOf x.1).size<=2000000:=by rw[zb1];exact HM.out x (List.mem_of_getElem? hx)
   obtain⟨j,hj,hjk⟩:=z1v (zxw hx);have hd:=z1w (zxw hx) hj;have HD:=Lib.hid hd;have HFN:=Lib.hid (fun(W:World) (hW:Below wr.heap.size wr W)=>zry (strOf x.1) b j (nmR rs) W ((HFI.out.below HB.out).below hW) (by unfold maxLen;omega) hj);have HCL:=Lib.hid (fun W=>zed (strOf x.1) W hxs);have HX:=Lib.hid hx;clear hsub hca hx hxs hj hd;by_cases hjl:j<k
   ·have HR:=Lib.hid (z1y (HF.out.trans (zb3 (HD.out.trans (decide_eq_true hjl)))) HX.out)
    have k2:(j:Int)<(k:Int):=by omega
    clear HF HD
    go_upto_region 5 with(go_at_call 127;(with_reducible refine(HFN.out _ (zab wr _)).mono ?_);rintro e w2 ⟨rfl,rfl⟩)
    have HW:=Lib.hid (Bl.new wr 173 #[.string (strOf x.1),.int .i64 (x.2.1:Int),.int .i64 x.2.2]);have HB1:=Lib.hid (HB.out.trans ((zab wr (.cells #[.string (strOf x.1),.int .i64 (x.2.1:Int),.int .i64 x.2.2] 173)).mono hbs));obtain⟨W1,hW1⟩:∃W1,wr.alloc (.cells #[.string (strOf x.1),.int .i64 (x.2.1:Int),.int .i64 x.2.2] 173)=W1:=⟨_,rfl⟩;rw[hW1] at HW HB1;rw[hW1];obtain⟨R,hR⟩:∃R,wr.heap.size=R:=⟨_,rfl⟩;rw[hR] at HW;rw[hR];clear hW1 hR HFN e0 e1 e2 e3 hbs HB;have f0:=HW.out.cell (o:=0) (u:=.string (strOf x.1)) rfl;have f1:=HW.out.cell (o:=1) (u:=.int .i64 (x.2.1:Int)) rfl;have fl:=HW.out.lt
    go_region_with (first
     |(go_at_call 85;(refine(HCL.out _).mono ?_);rintro e w3 ⟨rfl,hb⟩;have hb3:Below W1.heap.size W1 w3:=Below.trans (by repeat (first|exact Below.refl _ _|refine Below.drew ?_)) (hb.mono (by simp));have HW3:=Lib.hid (HW.out.below hb3);have HB3:=Lib.hid (HB1.out.trans (hb3.mono HB1.out.size));clear f0 f1 fl hb hb3;have g1:=HW3.out.cell (o:=1) (u:=.int .i64 (x.2.1:Int)) rfl;have gl:=HW3.out.lt)
     |(go_at_call 53;(refine(zc6 _ _ _).mono ?_);rintro e w4 ⟨rfl,rfl⟩))
    all_goals
     go_wp2
     go_ret2
     exact WrongIs.hit HR.out HB3.out
   ·have HR:=Lib.hid (HF.out.trans (zdu (HD.out.trans (decide_eq_false hjl))))
    have k2:¬(j:Int)<(k:Int):=by omega
    have HB1:=Lib.hid (HB.out.trans ((zab wr (.cells #[.string (strOf x.1),.int .i64 (x.2.1:Int),.int .i64 x.2.2] 173)).mono hbs));clear HF HD
    go_wp2_with (go_at_call 127;(with_reducible refine(HFN.out _ (zab wr _)).mono ?_);rintro e w2 ⟨rfl,rfl⟩)
    go_roundw
    case rel=>exact⟨k+1,hlt,by go_num,HB1.out,HR.out⟩
    case measure=>simp[intOf];omega
  ·obtain rfl:k=rs.length:=by omega
   have k1:¬(rs.length:Int)<(rs.length:Int):=by omega
   have HR:Hid (dupO rs=none):=Lib.hid (zxt (by rw[HF.out,Nat.sub_self];rfl));go_wp2
   go_ret2
   exact WrongIs.nil HR.out HB.out
end
section
open Go.RowKit
end
section
open Go.RowKit
theorem z6h (rv nv cv:Value)(rs:List (List Nat × Nat × Int))(f:MF)(l:List ByteArray)(b:Nat)(w:World)(h:FileIn w rv nv cv rs f)(hr:f.calls.length<=100000000)(hnm:∀r,r ∈ f.calls->r.1.length<=2000000)(hF:FinAt w b l) :
  Calls Tryz.prog 92 #[.agg #[rv,nv,cv],finF b] w (WrongIs (undO l f) 3 w):=by
 obtain⟨-,⟨a1,c1,rfl,-,-⟩,⟨-,a2,c2,rfl,-⟩,a3,c3,rfl,-,ha1⟩:=h;have HA1:=Lib.hid ha1;have HM:=Lib.hid hnm;have HB0:=Lib.hid (zab w);have HFI:=Lib.hid hF;clear ha1 hnm hF;unfold finF;go_enter Tryz.func92,Tryz.ntmps92;go_wp2
 go_loopw [11] (fun c wr=>∃k:Nat,k<=f.calls.length/\c=.int .i64 k/\Below w.heap.size w wr/\fbad (undB l (nmC f)) f.calls.length 0=fbad (undB l (nmC f)) (f.calls.length-k) k) (fun c _=>f.calls.length-(intOf c).toNat)
 case atStart=>exact⟨0,Nat.zero_le _,rfl,HB0.out _,rfl⟩
 case round=>
  obtain⟨k,hk,rfl,hb,hf⟩:=hrel;have hbs:=hb.size;have HB:=Lib.hid hb;have HF:=Lib.hid hf;clear hb hf;by_cases hlt:k<f.calls.length
  ·obtain⟨x,hx⟩:∃x,f.calls[k]?=some x:=⟨_,List.getElem?_eq_getElem hlt⟩
   rcases HA1.out with hz|⟨ab,ao,rfl,hca⟩
   ·rw[hz] at hlt;exact absurd hlt (Nat.not_lt_zero _)
   obtain⟨e0,e1,e3⟩:=zj7 hca hx HB.out;have k1:(k:Int)<(f.calls.length:Int):=by omega
   have hsub:f.calls.length-k=(f.calls.length-(k+1))+1:=by omega
   rw[hsub] at HF;have hxs:(strOf x.1).size<=2000000:=by rw[zb1];exact HM.out x (List.mem_of_getElem? hx)
   have hd:=z6c (l:=l) (z34 hx);have HD:=Lib.hid hd;have HCL:=Lib.hid (fun W=>zed (strOf x.1) W hxs);have HX:=Lib.hid hx;have HXS:=Lib.hid hxs;clear hsub hca hx hxs hd;cases hf:fndL l (strOf x.1) with
   |none=>
    rw[hf] at HD;have HR:=Lib.hid (z1z (HF.out.trans (zb3 HD.out)) HX.out);have HFN:=Lib.hid (fun(W:World) (hW:Below wr.heap.size wr W)=>z6f (strOf x.1) b l W ((HFI.out.below HB.out).below hW) (by have:=HXS.out;unfold maxLen;omega) hf);clear HF HD hf
    go_upto_region 5 with(go_at_call 127;(with_reducible refine(HFN.out _ (zab wr _)).mono ?_);rintro e w2 ⟨rfl,rfl⟩)
    have HW:=Lib.hid (Bl.new wr 175 #[.string (strOf x.1),.int .i64 (x.2:Int)]);have HB1:=Lib.hid (HB.out.trans ((zab wr (.cells #[.string (strOf x.1),.int .i64 (x.2:Int)] 175)).mono hbs));obtain⟨W1,hW1⟩:∃W1,wr.alloc (.cells #[.string (strOf x.1),.int .i64 (x.2:Int)] 175)=W1:=⟨_,rfl⟩;rw[hW1] at HW HB1;rw[hW1];obtain⟨R,hR⟩:∃R,wr.heap.size=R:=⟨_,rfl⟩;rw[hR] at HW;rw[hR];clear hW1 hR HFN e0 e1 e3 hbs HB;have f0:=HW.out.cell (o:=0) (u:=.string (strOf x.1)) rfl;have f1:=HW.out.cell (o:=1) (u:=.int .i64 (x.2:Int)) rfl;have fl:=HW.out.lt
    go_region_with (first
     |(go_at_call 85;(refine(HCL.out _).mono ?_);rintro e w3 ⟨rfl,hb⟩;have hb3:Below W1.heap.size W1 w3:=Below.trans (by repeat (first|exact Below.refl _ _|refine Below.drew ?_)) (hb.mono (by simp));have HW3:=Lib.hid (HW.out.below hb3);have HB3:=Lib.hid (HB1.out.trans (hb3.mono HB1.out.size));clear f0 f1 fl hb hb3;have g1:=HW3.out.cell (o:=1) (u:=.int .i64 (x.2:Int)) rfl;have gl:=HW3.out.lt)
     |(go_at_call 53;(refine(zc6 _ _ _).mono ?_);rintro e w4 ⟨rfl,rfl⟩))
    all_goals
     go_wp2
     go_ret2
     exact WrongIs.hit HR.out HB3.out
   |some j=>
    rw[hf] at HD;have HR:=Lib.hid (HF.out.trans (zdu HD.out));have HFN:=Lib.hid (fun(W:World) (hW:Below wr.heap.size wr W)=>zry (strOf x.1) b j l W ((HFI.out.below HB.out).below hW) (by have:=HXS.out;unfold maxLen;omega) hf);have k2:¬(j:Int)<0:=by omega
    have HB1:=Lib.hid (HB.out.trans ((zab wr (.cells #[.string (strOf x.1),.int .i64 (x.2:Int)] 175)).mono hbs));clear HF HD hf
    go_wp2_with (go_at_call 127;(with_reducible refine(HFN.out _ (zab wr _)).mono ?_);rintro e w2 ⟨rfl,rfl⟩)
    go_roundw
    case rel=>exact⟨k+1,hlt,by go_num,HB1.out,HR.out⟩
    case measure=>simp[intOf];omega
  ·obtain rfl:k=f.calls.length:=by omega
   have k1:¬(f.calls.length:Int)<(f.calls.length:Int):=by omega
   have HR:Hid (undO l f=none):=Lib.hid (zxu (by rw[HF.out,Nat.sub_self];rfl));go_wp2
   go_ret2
   exact WrongIs.nil HR.out HB.out
end
end Go.Proofs.YthhppmehhdlmnaaGreatDoor
