/- The tokens of a grammar's canonical text, as a plain function; that the parser reads them as this grammar. No walk. The parser reads the tokens of a grammar's c -/
import Derived.Test.YtmopdlbpkiaoeaaGreatDoorPqRA
namespace Go.Proofs.YtmopdlbpkiaoeaaGreatDoor
open Bool renaming and_false->qdv, or_false->qc2
open Go.Proofs.YtmopdlbpkiaoeaaGreatDoor.PO renaming bind_ok->qb6
open Int renaming toNat_natCast->qa8, toNat_of_nonneg->qbe
open List renaming any_append->qdm, append_assoc->qao, append_nil->qa6, cons_append->qbt, drop_drop->qb1, drop_left->qe1, filter_append->qfc, flatMap_cons->qat, flatMap_nil->qbu, foldl_cons->qc5, getElem?_eq_getElem->qae, getElem?_eq_none->qcx, getElem?_eq_some_iff->qag, getElem?_map->qax, getElem?_of_mem->qc4, length_append->qad, length_cons->qah, length_drop->qa2, length_eq_one_iff->qet, length_eq_zero_iff->qbm, length_map->qaw, length_nil->qbq, length_range->qdp, length_singleton->qai, map_append->qa5, map_congr_left->qb9, map_cons->qb2, map_eq_append_iff->qde, map_eq_cons_iff->qbf, map_eq_nil_iff->qbx, map_map->qc0, mem_append->qau, mem_cons->qbk, mem_cons_of_mem->qa9, mem_cons_self->qap, mem_map->qcz, mem_of_getElem?->qan, mem_singleton->qam, nil_append->qbi, sum_cons->qep, take_append_drop->qdk, take_length->qbz
open Nat renaming add_assoc->qds, add_zero->qc9, le_refl->qac, le_trans->qal, lt_or_ge->qcr, lt_succ_self->qas, not_lt_zero->qa3, zero_le->qaj
open Option renaming map_eq_some_iff->qa1, map_some->qfz
open Option.some renaming inj->qar
variable {q top:Bool}{k op:Int}{a b s:List Nat}{ns:List PN}{rs:List PR}{rest ts:List Tok}{f:MF}{i j r:Nat}{n:PN}{e:Tok}
abbrev Shp:Type:=Nat × List Nat × List (Nat × Nat)
def shp (t:Tok):Shp:=(t.kind,t.text,t.rs)
def sg (k:Nat):Shp:=(k,[],[])
def ClsTok (t:Shp)(n:PN):Prop:=(∃rs,t=(13,[],rs)/\clsN (inRs rs)=n)∨(∃b,t=(12,[b],[])/\clsN (fun i=>decide (i=b))=n)∨(t=(11,[],[])/\clsN (fun _=>true)=n)
def par {α:Type}(o c:α)(b:Bool)(l:List α):List α:=if b then o::(l++[c]) else l
def parT (b:Bool)(l:List Shp):List Shp:=par (sg 9) (sg 10) b l
def joinT {α:Type}(sep:List α):List (List α)->List α
 | []=>[]
 | [x]=>x
 |x::y::r=>x++(sep++joinT sep (y::r))
theorem yab3 {α:Type}(sep x:List α):joinT sep [x]=x:=rfl
theorem z9g {α:Type}(sep x y:List α)(r:List (List α)):joinT sep (x::y::r)=x++(sep++joinT sep (y::r)):=rfl
def opAt (ns:List PN)(k:Int):Int:=match ns[k.toNat]? with
 |some n=>n.op
 |none=>0
def parB (op:Int)(pl:Nat):Bool:=if op=3∨op=4 then decide (1<=pl) else if op=8∨op=9 then decide (2<=pl) else if 5<=op/\op<=7 then decide (3<=pl) else false
def sufT (op:Int):Nat:=if op=7 then 6 else if op=5 then 7 else 8
def preT (op:Int):Nat:=if op=8 then 4 else 5
section
variable (ns:List PN) (nm:Int->List Nat) (ct:PN->Shp)
def inT (n:PN)(rec:Nat->Int->List Shp):List Shp:=
 if n.op=0 then [(12,[],[])]
 else if n.op=1 then [ct n]
 else if n.op=2 then [(1,nm n.rule,[])]
 else if n.op=3 then n.kids.flatMap (rec 1)
 else if n.op=4 then joinT [sg 3] (n.kids.map fun k=>parT (decide (opAt ns k=4)) (rec 0 k))
 else if n.op=8∨n.op=9 then sg (preT n.op)::n.kids.flatMap (rec 2)
 else n.kids.flatMap (rec 3)++[sg (sufT n.op)]
def tkFu:Nat->Nat->Int->List Shp
 |0,_,_=>[]
 |f+1,pl,i=>match ns[i.toNat]? with
  |some n=>parT (parB n.op pl) (inT ns nm ct n (tkFu f))
  |none=>[]
def tk (pl:Nat)(i:Int):List Shp:=tkFu ns nm ct (i.toNat+1) pl i
end
theorem z9d {α β:Type}{f g:α->List β}:∀ {l:List α},(∀x,x ∈ l->f x=g x)->l.flatMap f=l.flatMap g
 | [],_=>rfl
 |x::l,h=>by
  rw[qat,qat,h x qap,z9d fun y hy=>h y (qa9 _ hy)]
section
variable {ns:List PN} {nm:Int->List Nat} {ct:PN->Shp}
theorem yadq {f g:Nat->Int->List Shp}(h:∀pl k,k ∈ n.kids->f pl k=g pl k):inT ns nm ct n f=inT ns nm ct n g:=by
 unfold inT;rw[z9d fun k hk=>h 1 k hk,z9d fun k hk=>h 2 k hk,z9d fun k hk=>h 3 k hk,qb9 fun k hk=>by rw[h 0 k hk]]
theorem yadr (hk:zdo ns):∀(f g pl:Nat) (i:Int),i<f->i<g->0<=i->tkFu ns nm ct f pl i=tkFu ns nm ct g pl i
 |0,_,_,i,h,_,h0=>U
 |_+1,0,_,i,_,h,h0=>U
 |f+1,g+1,pl,i,hf,hg,h0=>by
  unfold tkFu;cases hn:ns[i.toNat]? with
  |none=>rfl
  |some n=>
   dsimp only;rw[yadq fun pl k hm=>?_];have:=hk _ n hn k hm;exact yadr hk f g pl k U U this.1
theorem tk_eq (hk:zdo ns){i:Nat}(hn:ns[i]?=some n)(pl:Nat):tk ns nm ct pl (i:Int)=parT (parB n.op pl) (inT ns nm ct n (tk ns nm ct)):=by
 unfold tk;rw[qa8];show(match ns[(i:Int).toNat]? with|some n=>parT (parB n.op pl) (inT ns nm ct n (tkFu ns nm ct i))|none=>[])=_;rw[qa8,hn];dsimp only;rw[yadq fun pl k hm=>?_];have:=hk _ n hn k hm;exact yadr hk _ _ pl k U U this.1
end
theorem z9h {R:Nat}(h:madeB n R=true):(n.op=0/\n=mkN 0 [])∨(n.op=1/\n.kids=[]/\n.rule=0)∨(n.op=2/\n.kids=[]/\0<=n.rule/\n.rule<R/\n=⟨2,[],n.rule,0,0,0,0⟩) ∨
  ((n.op=3∨n.op=4)/\2<=n.kids.length/\n=mkN n.op n.kids)∨((5<=n.op/\n.op<=9)/\∃k,n.kids=[k]/\n=mkN n.op [k]):=by
 obtain⟨op,kids,rule,s0,s1,s2,s3⟩:=n;unfold madeB at h;dsimp only at h ⊢;simp only[Bool.and_eq_true,decide_eq_true_eq,Bool.or_eq_true,beq_iff_eq] at h;obtain⟨⟨⟨⟨h0,h9⟩,hk⟩,hr⟩,hs⟩:=h;rcases(by omega:op=0∨op=1∨op=2∨(op=3∨op=4)∨(5<=op/\op<=9)) with rfl|rfl|rfl|h3|h5
 ·rw[if_pos U] at hk
  rw[if_neg U] at hr;have hk:=qbm.1 (by simpa using hk);have hr:rule=0:=by simpa using hr
  obtain hs|⟨⟨⟨a,b⟩,c⟩,d⟩:=hs
  ·cases hs
  ·subst hk hr a b c d
   exact .inl ⟨rfl,rfl⟩
 ·rw[if_pos U] at hk
  rw[if_neg U] at hr;exact .inr (.inl ⟨rfl,qbm.1 (by simpa using hk),by simpa using hr⟩)
 ·rw[if_pos U] at hk
  rw[if_pos rfl] at hr;have hk:=qbm.1 (by simpa using hk);have hr2:0<=rule/\rule<R:=by simpa using hr
  clear hr;obtain hs|⟨⟨⟨a,b⟩,c⟩,d⟩:=hs
  ·cases hs
  ·subst hk a b c d
   exact .inr (.inr (.inl ⟨rfl,rfl,hr2.1,hr2.2,rfl⟩))
 ·rw[if_neg U,if_pos U] at hk
  rw[if_neg U] at hr;have hk2:2<=kids.length:=by simpa using hk
  clear hk;have hr:rule=0:=by simpa using hr
  obtain hs|⟨⟨⟨a,b⟩,c⟩,d⟩:=hs
  ·omega
  ·subst hr a b c d
   exact .inr (.inr (.inr (.inl ⟨h3,hk2,rfl⟩)))
 ·rw[if_neg U,if_neg U] at hk
  rw[if_neg U] at hr;have hk:kids.length=1:=by simpa using hk
  have hr:rule=0:=by simpa using hr
  obtain⟨k,rfl⟩:=qet.1 hk;obtain hs|⟨⟨⟨a,b⟩,c⟩,d⟩:=hs
  ·omega
  ·subst hr a b c d
   exact .inr (.inr (.inr (.inr ⟨h5,k,rfl,rfl⟩)))
structure GVal (ns:List PN) (ct:PN->Shp):Prop where
 ex:AllEx ns
 made:∀(i:Nat) (n:PN),ns[i]?=some n->∃R,madeB n R=true
 cls:∀(i:Nat) (n:PN),ns[i]?=some n->n.op=1->ClsTok (ct n) n
def BegK (k:Nat):Prop:=k=1∨k=4∨k=5∨k=9∨k=11∨k=12∨k=13
def BegT (l:List Shp):Prop:=∃s t,l=s::t/\BegK s.1
def NoA (l:List Shp):Prop:=∀s,s ∈ l->s.1≠2/\s.1≠99
theorem NoA.app {a b:List Shp}(ha:NoA a)(hb:NoA b):NoA (a++b):=fun s hs=>(qau.1 hs).elim (ha s) (hb s)
theorem NoA.cons {x:Shp}{a:List Shp}(hx:x.1≠2/\x.1≠99)(ha:NoA a):NoA (x::a):=fun s hs=>by
 rcases qbk.1 hs with rfl|h
 ·exact hx
 ·exact ha s h
theorem NoA.nil:NoA []:=fun s hs=>by cases hs
theorem NoA.par {b:Bool}{l:List Shp}(h:NoA l):NoA (parT b l):=by
 unfold parT Go.Proofs.YtmopdlbpkiaoeaaGreatDoor.par;cases b
 ·exact h
 ·exact NoA.cons ja (h.app (NoA.cons ja NoA.nil))
theorem NoA.flat {f:Int->List Shp}:∀ {l:List Int},(∀k,k ∈ l->NoA (f k))->NoA (l.flatMap f)
 | [],_=>NoA.nil
 |k::l,h=>by
  rw[qat];exact(h k qap).app (NoA.flat fun x hx=>h x (qa9 _ hx))
theorem NoA.join {sep:List Shp}(hs:NoA sep):∀ {l:List (List Shp)},(∀x,x ∈ l->NoA x)->NoA (joinT sep l)
 | [],_=>NoA.nil
 | [x],h=>h x qap
 |x::_::_,h=>(h x qap).app (hs.app (NoA.join hs fun z hz=>h z (qa9 _ hz)))
theorem BegT.app {a b:List Shp}(h:BegT a):BegT (a++b):=by
 obtain⟨s,t,rfl,hs⟩:=h;exact⟨s,t++b,rfl,hs⟩
theorem BegT.par {b:Bool}{l:List Shp}(h:BegT l):BegT (parT b l):=by
 unfold parT Go.Proofs.YtmopdlbpkiaoeaaGreatDoor.par;cases b
 ·exact h
 ·exact⟨_,_,rfl,.inr (.inr (.inr (.inl rfl)))⟩
theorem yafa:preT op=4∨preT op=5:=by
 unfold preT;split
 ·exact .inl rfl
 ·exact .inr rfl
theorem yakk (h:5<=op/\op<=7):6<=sufT op/\sufT op<=8/\sufOp (sufT op)=op:=by
 unfold sufT sufOp;rcases(by omega:op=5∨op=6∨op=7) with rfl|rfl|rfl<;>decide
theorem yakl (h:op=8∨op=9):preOp (preT op)=op:=by
 unfold preT preOp;rcases h with rfl|rfl<;>decide
theorem yakm (op:Int):6<=sufT op/\sufT op<=8:=by
 unfold sufT;split
 ·decide
 ·split<;>decide
section
variable {ns:List PN} {nm:Int->List Nat} {ct:PN->Shp}
theorem GVal.kb (h:GVal ns ct):zdo ns:=h.ex.kids
theorem ClsTok.facts {t:Shp}(h:ClsTok t n):BegK t.1/\t.1≠2/\t.1≠99:=by
 unfold BegK;rcases h with⟨rs,rfl,-⟩|⟨b,rfl,-⟩|⟨rfl,-⟩
 ·exact⟨.inr (.inr (.inr (.inr (.inr (.inr rfl))))),(by decide:(13:Nat)≠2),(by decide:(13:Nat)≠99)⟩
 ·exact⟨.inr (.inr (.inr (.inr (.inr (.inl rfl))))),(by decide:(12:Nat)≠2),(by decide:(12:Nat)≠99)⟩
 ·exact⟨.inr (.inr (.inr (.inr (.inl rfl)))),(by decide:(11:Nat)≠2),(by decide:(11:Nat)≠99)⟩
theorem yaad (hv:GVal ns ct):∀(m i pl:Nat),i<m->i<ns.length->BegT (tk ns nm ct pl (i:Int))/\NoA (tk ns nm ct pl (i:Int))
 |0,_,_,h,_=>absurd h (qa3 _)
 |m+1,i,pl,hi,hl=>by
  obtain⟨n,hn⟩:∃n,ns[i]?=some n:=⟨_,qae hl⟩;rw[tk_eq hv.kb hn];have hkid:∀(pl:Nat) (k:Int),k ∈ n.kids->BegT (tk ns nm ct pl k)/\NoA (tk ns nm ct pl k):=fun pl k hk=>by
   have hb:=hv.kb i n hn k hk;have h:=yaad hv m k.toNat pl U U;rwa [qbe hb.1] at h
  have hin:BegT (inT ns nm ct n (tk ns nm ct))/\NoA (inT ns nm ct n (tk ns nm ct)):=by
   obtain⟨R,hR⟩:=hv.made i n hn;unfold inT;rcases z9h hR with⟨h0,-⟩|⟨h0,-⟩|⟨h0,-⟩|⟨h0,h2,-⟩|⟨h0,k,hk,-⟩
   ·rw[if_pos h0]
    exact⟨⟨_,_,rfl,by unfold BegK;omega⟩,NoA.cons ja NoA.nil⟩
   ·rw[if_neg U,if_pos h0]
    have h:=(hv.cls i n hn h0).facts;exact⟨⟨_,_,rfl,h.1⟩,NoA.cons h.2 NoA.nil⟩
   ·rw[if_neg U,if_neg U,if_pos h0]
    exact⟨⟨_,_,rfl,by unfold BegK;omega⟩,NoA.cons (by show(1:Nat)≠2/\(1:Nat)≠99;decide) NoA.nil⟩
   ·rw[if_neg U,if_neg U,if_neg U]
    obtain⟨a,b,r,hks⟩:∃a b r,n.kids=a::b::r:=by
     match hq:n.kids,h2 with
     |a::b::r,_=>exact⟨a,b,r,rfl⟩
    by_cases h3:n.op=3
    ·rw[if_pos h3]
     refine⟨?_,NoA.flat fun k hk=>(hkid 1 k hk).2⟩;rw[hks,qat];exact(hkid 1 a (by rw[hks];exact qap)).1.app
    ·rw[if_neg h3,if_pos U]
     refine⟨?_,NoA.join (NoA.cons ja NoA.nil) fun x hx=>?_⟩
     ·rw[hks,qb2,qb2,z9g]
      exact(hkid 0 a (by rw[hks];exact qap)).1.par.app
     ·obtain⟨k,hk,rfl⟩:=qcz.1 hx
      exact(hkid 0 k hk).2.par
   ·rw[if_neg U,if_neg U,if_neg U,if_neg U,if_neg U]
    have hm:k ∈ n.kids:=by rw[hk];exact qap
    by_cases h8:n.op=8∨n.op=9
    ·rw[if_pos h8]
     have h4:=yafa (op:=n.op);exact⟨⟨_,_,rfl,(show BegK (preT n.op) from by unfold BegK;omega)⟩,NoA.cons (by show preT n.op≠2/\preT n.op≠99;omega) (NoA.flat fun k hk=>(hkid 2 k hk).2)⟩
    ·rw[if_neg h8]
     have h6:=yakm n.op;refine⟨?_,(NoA.flat fun k hk=>(hkid 3 k hk).2).app (NoA.cons (by show sufT n.op≠2/\sufT n.op≠99;omega) NoA.nil)⟩;rw[hk,qat];exact((hkid 3 k hm).1.app).app
  exact⟨hin.1.par,hin.2.par⟩
end
section
variable {ns:List PN} {nm:Int->List Nat} {ct:PN->Shp}
def pnAt (ns:List PN)(k:Nat):PN:=match ns[k]? with
 |some n=>if n.op=2 then callN (cnt2 (ns.take k)) else n
 |none=>mkN 0 []
def pnL (ns:List PN)(j:Nat):List PN:=(List.range j).map (pnAt ns)
def cnL (ns:List PN)(nm:Int->List Nat)(j:Nat):List (List Nat):=((ns.take j).filter fun n=>decide (n.op=2)).map fun n=>nm n.rule
def Stj (ns:List PN)(nm:Int->List Nat)(j:Nat)(f:MF):Prop:=f.nodes=pnL ns j/\f.calls.map (·.1)=cnL ns nm j
theorem take_one {α:Type}{l:List α}{x:α}(h:l[j]?=some x):l.take (j+1)=l.take j++[x]:=by
 rw[List.take_add_one,h];rfl
theorem Stj.len (h:Stj ns nm j f):f.nodes.length=j:=by
 rw[h.1];unfold pnL;rw[qaw,qdp]
theorem Stj.last {j:Nat}(h:Stj ns nm j f):lastI f=(j:Int)-1:=by
 unfold lastI;rw[h.len]
theorem Stj.calls (h:Stj ns nm j f):f.calls.length=cnt2 (ns.take j):=by
 have h2:=congrArg List.length h.2;unfold cnL at h2;rw[qaw,qaw,<-List.countP_eq_length_filter] at h2;exact h2
theorem yafb:pnL ns (j+1)=pnL ns j++[pnAt ns j]:=by
 unfold pnL;rw[List.range_succ,qa5];rfl
theorem Stj.add (h:Stj ns nm j f)(hn:ns[j]?=some n)(h2:n.op≠2):Stj ns nm (j+1) (addN f n):=by
 refine⟨?_,?_⟩
 ·show f.nodes++[n]=_
  rw[h.1,yafb];unfold pnAt;rw[hn];dsimp only;rw[if_neg h2]
 ·show f.calls.map _=_
  rw[h.2];unfold cnL;rw[take_one hn,qfc];simp[h2]
theorem Stj.call {t:Tok}(h:Stj ns nm j f)(hn:ns[j]?=some n)(h2:n.op=2)(ht:t.text=nm n.rule):Stj ns nm (j+1) (callF f t):=by
 refine⟨?_,?_⟩
 ·show f.nodes++[callN f.calls.length]=_
  rw[h.1,yafb,h.calls];unfold pnAt;rw[hn];dsimp only;rw[if_pos h2]
 ·show(f.calls++[(t.text,t.at_)]).map _=_
  rw[qa5,h.2];unfold cnL;rw[take_one hn,qfc,qa5];simp[h2,ht]
def OkJ (ns:List PN)(nm:Int->List Nat)(o:PO)(rest:List Tok)(j:Nat):Prop:=∃g,o=.ok rest g/\Stj ns nm j g
def F3 (rest:List Tok):Prop:=kd rest≠2/\kd rest≠99
def F2 (rest:List Tok):Prop:=F3 rest/\¬(6<=kd rest/\kd rest<=8)
def F0 (top:Bool)(rest:List Tok):Prop:=F2 rest/\begB top rest=false
theorem yajv {rec:List Tok->MF->PO}(h:OkJ ns nm (primL true r rec ts f) rest j)(hr:F2 rest):OkJ ns nm (sufL true r rec ts f) rest j:=by
 obtain⟨g,e,hs⟩:=h;refine⟨g,?_,hs⟩;unfold sufL;rw[e];exact zlq hr.2
theorem yajw {rec:List Tok->MF->PO}(h:OkJ ns nm (sufL true r rec ts f) rest j)(hk:¬(kd ts=4∨kd ts=5)):OkJ ns nm (preL true r rec ts f) rest j:=by
 obtain⟨g,e,hs⟩:=h;refine⟨g,?_,hs⟩;unfold preL;rw[if_neg hk,e]
theorem yajx {pre:List Tok->MF->PO}(h:OkJ ns nm (pre ts f) rest j)(hb:begB top ts=true)(hr:begB top rest=false):OkJ ns nm (seqL top pre ts f) rest j:=by
 obtain⟨g,e,hs⟩:=h;refine⟨g,?_,hs⟩;unfold seqL;cases ts with
 |nil=>cases top<;>cases hb
 |cons t l=>
  rw[zbw hb,e];show zb8 top pre (l.length+1) rest g _=_;rw[za7 hr];rfl
theorem yag7 (h:OkJ ns nm (seqL top (preL true r (inL true r)) ts f) rest j)(hr:kd rest≠3):OkJ ns nm (exprL true r top ts f) rest j:=by
 obtain⟨g,e,hs⟩:=h;refine⟨g,?_,hs⟩;rw[zgi,zch,e];show(if kd rest=3 then _ else _)=_;rw[if_neg hr];rfl
theorem yafc {t9 t10:Tok}(h9:t9.kind=9)(h10:t10.kind=10)(h:OkJ ns nm (exprL true r false (ts++t10::rest) f) (t10::rest) j):OkJ ns nm (primL true (r+1) (inL true (r+1)) (t9::(ts++t10::rest)) f) rest j:=by
 obtain⟨g,e,hs⟩:=h;refine⟨g,?_,hs⟩;unfold primL;dsimp only;rw[if_neg U,if_pos h9,if_neg U,za5,qb6];show((exprL true r false (ts++t10::rest) f).bind _)=_;rw[e,qb6];unfold closL;rw[if_pos (show kd (t10::rest)=10 from h10),za5];rfl
def KC (ns:List PN):Int->List Int->Int->Prop
 |a,[],b=>a=b
 |a,k::ks,b=>exL ns k=a/\0<=k/\k<ns.length/\KC ns k ks b
theorem KC.snoc:∀ {ks:List Int} {a x:Int},KC ns a ks (exL ns x)->0<=x->x<ns.length->KC ns a (ks++[x]) x
 | [],_,_,h,h0,h1=>⟨h.symm,h0,h1,rfl⟩
 |_::_,_,_,h,h0,h1=>⟨h.1,h.2.1,h.2.2.1,h.2.2.2.snoc h0 h1⟩
theorem yafd:∀(l:List Int) (b:Int),b<ns.length->zbi (exL ns) l b ≠ -2->KC ns (zbi (exL ns) l b) l.reverse b
 | [],_,_,_=>rfl
 |x::l,b,hb,h=>by
  obtain⟨rfl,h1,h2⟩:=zdn h;have h3:=zj5 ns x h1;rw[h2] at h ⊢;rw[List.reverse_cons];exact(yafd l _ U h).snoc U hb
theorem kc_of {i:Nat}(hx:AllEx ns)(hn:ns[i]?=some n):KC ns (exL ns i) n.kids ((i:Int)-1):=by
 have hl:=(qag.1 hn).1;have h0:=hx i U U;have he:=zqo ns i U;rw[qa8,zdm hn] at he;rw[he] at h0 ⊢;have h:=yafd (ns:=ns) _ _ U h0;rwa [List.reverse_reverse] at h
theorem KC.one {a b:Int}(h:KC ns a [k] b):k=b/\exL ns k=a:=⟨h.2.2.2,h.1⟩
theorem yabh {ds:List Nat}:∀(ks:List Int) (m:Nat),m<=ks.foldl (fun m k=>max m (ds.getD k.toNat 0)) m
 | [],m=>qac m
 |k::ks,m=>by
  rw[qc5];exact qal (Nat.le_max_left _ _) (yabh ks _)
theorem yaa5 {ds:List Nat}:∀(ks:List Int) (m:Nat) (k:Int),k ∈ ks->ds.getD k.toNat 0<=ks.foldl (fun m k=>max m (ds.getD k.toNat 0)) m
 | [],_,_,h=>by cases h
 |x::ks,m,k,h=>by
  rw[qc5];rcases qbk.1 h with rfl|h
  ·exact qal (Nat.le_max_right _ _) (yabh ks _)
  ·exact yaa5 ks _ k h
theorem yag8 (hk:zdo ns)(hn:ns[i]?=some n)(hm:k ∈ n.kids):dpL ns k.toNat+1<=dpL ns i:=by
 rw[zqs hk hn];have:=yaa5 (ds:=depsL ns) n.kids 0 k hm;unfold maxK;exact Nat.succ_le_succ this
theorem yajy (hk:zdo ns)(hn:ns[i]?=some n):1<=dpL ns i:=by
 rw[zqs hk hn];exact Nat.le_add_left _ _
theorem yaej {l:List Shp}(hb:BegT l)(ha:NoA l)(h:ts.map shp=l)(hr:kd rest≠2)(top:Bool):begB top (ts++rest)=true:=by
 obtain⟨s,t,rfl,hs⟩:=hb;obtain⟨u,us,rfl,rfl,hus⟩:=qbf.1 h;have hs:BegK u.kind:=hs;unfold begB;show(if u.kind=1 then !(top&&kd (us++rest) == 2) else decide (u.kind=4∨u.kind=5∨u.kind=9∨u.kind=11∨u.kind=12∨u.kind=13))=true;have h2:kd (us++rest)≠2:=by
  cases us with
  |nil=>exact hr
  |cons v vs=>exact(ha (shp v) (by rw[<-hus];exact qa9 _ qap)).1
 unfold BegK at hs;by_cases h1:u.kind=1
 ·rw[if_pos h1]
  simp[h2]
 ·rw[if_neg h1]
  exact decide_eq_true U
theorem yalp {l:List Shp}(hb:BegT l)(h:ts.map shp=l):BegK (kd (ts++rest)):=by
 obtain⟨s,t,rfl,hs⟩:=hb;obtain⟨u,us,rfl,rfl,hus⟩:=qbf.1 h;exact hs
theorem F2.beg {l:List Shp}(hb:BegT l)(h:ts.map shp=l):F2 (ts++rest):=by
 have:=yalp (rest:=rest) hb h;unfold BegK at this;exact⟨⟨U,U⟩,U⟩
end
section
variable {ns:List PN} {nm:Int->List Nat} {ct:PN->Shp}
def runL (r:Nat)(top:Bool):Nat->List Tok->MF->PO
 |0=>seqL top (preL true r (inL true r))
 |1=>preL true r (inL true r)
 |2=>sufL true r (inL true r)
 |_=>primL true r (inL true r)
def FolL (top:Bool):Nat->List Tok->Prop
 |0,rest=>F0 top rest
 |1,rest=>F2 rest
 |2,rest=>F2 rest
 |_,rest=>F3 rest
theorem yads {l:List Shp}(hb:BegT l)(ha:NoA l)(h:ts.map shp=l):∀(a b:Nat),b<=a->a<=3->(2<=a->b<=1->¬(kd (ts++rest)=4∨kd (ts++rest)=5))->FolL top b rest->OkJ ns nm (runL r top a (ts++rest) f) rest j->OkJ ns nm (runL r top b (ts++rest) f) rest j:=by
 have h32:F2 rest->OkJ ns nm (runL r top 3 (ts++rest) f) rest j->OkJ ns nm (runL r top 2 (ts++rest) f) rest j:=fun hf h=>yajv h hf
 have h21:¬(kd (ts++rest)=4∨kd (ts++rest)=5)->OkJ ns nm (runL r top 2 (ts++rest) f) rest j->OkJ ns nm (runL r top 1 (ts++rest) f) rest j:=fun hf h=>yajw h hf
 have h10:F0 top rest->OkJ ns nm (runL r top 1 (ts++rest) f) rest j->OkJ ns nm (runL r top 0 (ts++rest) f) rest j:=fun hf h1=>yajx h1 (yaej hb ha h hf.1.1.1 top) hf.2
 intro a b hba ha3 hp hf ho;rcases(by omega:a=b∨(a=3/\b=2)∨(a=3/\b=1)∨(a=3/\b=0)∨(a=2/\b=1)∨(a=2/\b=0)∨(a=1/\b=0)) with rfl|⟨rfl,rfl⟩|⟨rfl,rfl⟩|⟨rfl,rfl⟩|⟨rfl,rfl⟩|⟨rfl,rfl⟩|⟨rfl,rfl⟩
 ·exact ho
 ·exact h32 hf ho
 ·exact h21 (hp U U) (h32 hf ho)
 ·exact h10 hf (h21 (hp U U) (h32 hf.1 ho))
 ·exact h21 (hp U U) ho
 ·exact h10 hf (h21 (hp U U) ho)
 ·exact h10 hf ho
def lvl (op:Int):Nat:=if op=3∨op=4 then 0 else if op=8∨op=9 then 1 else if 5<=op/\op<=7 then 2 else 3
theorem yact (op:Int):lvl op<=3:=by
 unfold lvl;split
 ·decide
 ·split
  ·decide
  ·split<;>decide
theorem yaae (op:Int){pl:Nat}(h:pl<=3):parB op pl=decide (lvl op<pl):=by
 unfold parB lvl;split
 ·exact decide_eq_decide.2 ⟨fun h=>h,fun h=>h⟩
 ·split
  ·exact decide_eq_decide.2 ⟨fun h=>h,fun h=>h⟩
  ·split
   ·exact decide_eq_decide.2 ⟨fun h=>h,fun h=>h⟩
   ·exact(decide_eq_false U).symm
theorem yabq (hv:GVal ns ct):∀(m i pl:Nat),i<m->i<ns.length->2<=pl->pl<=3->∃s t,tk ns nm ct pl (i:Int)=s::t/\s.1≠4/\s.1≠5
 |0,_,_,h,_,_,_=>absurd h (qa3 _)
 |m+1,i,pl,hi,hl,h2,h3=>by
  obtain⟨n,hn⟩:∃n,ns[i]?=some n:=⟨_,qae hl⟩;rw[tk_eq hv.kb hn];cases hp:parB n.op pl with
  |true=>exact⟨sg 9,_,rfl,ja,ja⟩
  |false=>
   show ∃s t,inT ns nm ct n (tk ns nm ct)=s::t/\_;obtain⟨R,hR⟩:=hv.made i n hn;have hop:¬(n.op=3∨n.op=4)/\¬(n.op=8∨n.op=9):=by
    rw[yaae _ h3] at hp;have hp:=of_decide_eq_false hp;unfold lvl at hp;constructor
    ·intro h
     rw[if_pos h] at hp;omega
    ·intro h
     rw[if_neg U,if_pos h] at hp;omega
   unfold inT;rcases z9h hR with⟨h0,-⟩|⟨h0,-⟩|⟨h0,-⟩|⟨h0,-,-⟩|⟨h0,k,hk,-⟩
   ·rw[if_pos h0]
    exact⟨_,_,rfl,ja,ja⟩
   ·rw[if_neg U,if_pos h0]
    refine⟨_,_,rfl,?_⟩;rcases hv.cls i n hn h0 with⟨rs,e,-⟩|⟨b,e,-⟩|⟨e,-⟩<;>rw[e]
    ·exact⟨(by decide:(13:Nat)≠4),(by decide:(13:Nat)≠5)⟩
    ·exact⟨(by decide:(12:Nat)≠4),(by decide:(12:Nat)≠5)⟩
    ·exact⟨(by decide:(11:Nat)≠4),(by decide:(11:Nat)≠5)⟩
   ·rw[if_neg U,if_neg U,if_pos h0]
    exact⟨_,_,rfl,(by decide:(1:Nat)≠4),(by decide:(1:Nat)≠5)⟩
   ·exact absurd h0 hop.1
   ·rw[if_neg U,if_neg U,if_neg U,if_neg U,if_neg U,if_neg hop.2]
    have hb:=hv.kb i n hn k (by rw[hk];exact qap);have h:=yabq hv m k.toNat 3 U U U U;rw[qbe hb.1] at h;obtain⟨s,t,e,h4⟩:=h;rw[hk,qat,e];exact⟨s,_,rfl,h4⟩
theorem yac9 {l:List Shp}(h:∃s t,l=s::t/\s.1≠4/\s.1≠5)(hs:ts.map shp=l):¬(kd (ts++rest)=4∨kd (ts++rest)=5):=by
 obtain⟨s,t,rfl,h4,h5⟩:=h;obtain⟨u,us,rfl,rfl,-⟩:=qbf.1 hs;exact fun e=>e.elim h4 h5
def POk (ns:List PN)(nm:Int->List Nat)(ct:PN->Shp)(i:Nat):Prop:=
 (∀(r:Nat) (top:Bool) (pl:Nat) (ts rest:List Tok) (f:MF),1<=pl->pl<=3->dpL ns i+(if parB (opAt ns i) pl then 1 else 0)<=r+1->ts.map shp=tk ns nm ct pl i->FolL top pl rest->Stj ns nm (exL ns i+1).toNat f->OkJ ns nm (runL r top pl (ts++rest) f) rest (i+1)) /\
 (∀(r:Nat) (top:Bool) (ts rest:List Tok) (f:MF),dpL ns i<=r+1->ts.map shp=tk ns nm ct 0 i->F0 top rest->kd rest≠3->Stj ns nm (exL ns i+1).toNat f->OkJ ns nm (exprL true r top (ts++rest) f) rest (i+1)) /\
 (∀(r:Nat) (top:Bool) (ts rest:List Tok) (f:MF),opAt ns i≠4->dpL ns i<=r+1->ts.map shp=tk ns nm ct 0 i->F0 top rest->Stj ns nm (exL ns i+1).toNat f->OkJ ns nm (runL r top 0 (ts++rest) f) rest (i+1))
theorem yag9 {i:Nat}(hn:ns[i]?=some n):opAt ns (i:Int)=n.op:=by
 unfold opAt;rw[qa8,hn]
theorem yafe (hv:GVal ns ct){r:Nat}{top:Bool}:∀(ks:List Int) (a b:Int) (m:Nat) (done:List Int) (ts rest:List Tok) (f:MF),KC ns a ks b->(∀k,k ∈ ks->POk ns nm ct k.toNat/\dpL ns k.toNat<=r)->ks.length<=m->ts.map shp=ks.flatMap (tk ns nm ct 1)->F0 top rest->Stj ns nm (a+1).toNat f ->
  ∃g,zb8 top (preL true r (inL true r)) (m+1) (ts++rest) f done=.ok rest (joinN g 3 (done++ks))/\Stj ns nm (b+1).toNat g
 | [],a,b,m,done,ts,rest,f,hc,_,_,hs,hF,hS=>by
  obtain rfl:=qbx.1 hs;obtain rfl:a=b:=hc;exact⟨f,by rw[qbi,qa6];exact za7 hF.2,hS⟩
 |k::ks,a,b,m,done,ts,rest,f,⟨h1,h2,h3,hc⟩,hk,hm,hs,hF,hS=>by
  rw[qat] at hs;obtain⟨t1,t2,rfl,e1,e2⟩:=qde.1 hs;obtain⟨m,rfl⟩:∃x,m=x+1:=⟨m-1,by rw[qah] at hm;omega⟩;have hkk:=hk k qap;have hf:=yaad (nm:=nm) hv (k.toNat+1) k.toNat 1 (qas _) U;rw[qbe h2] at hf;have hF2:F2 (t2++rest):=by
   cases ks with
   |nil=>rw[qbx.1 e2];exact hF.1
   |cons x xs=>
    have hx:=yaad (nm:=nm) hv (x.toNat+1) x.toNat 1 (qas _) (by have:=hc.2.2.1;have:=hc.2.1;omega);rw[qbe hc.2.1] at hx;rw[qat] at e2;exact F2.beg hx.1.app e2
  rw[qao,zbw (yaej hf.1 hf.2 e1 hF2.1.1 top)];obtain⟨g,eg,hg⟩:=hkk.1.1 r top 1 t1 (t2++rest) f (qac _) U (by have:=hkk.2;split<;>omega) (by rw[qbe h2];exact e1) hF2 (by rw[qbe h2,h1];exact hS);have eg:preL true r (inL true r) (t1++(t2++rest)) f=.ok (t2++rest) g:=eg;rw[eg,qb6,hg.last,show((k.toNat+1:Nat):Int)-1=k by omega];obtain⟨g2,e3,h4⟩:=yafe hv ks k b m (done++[k]) t2 rest g hc (fun x hx=>hk x (qa9 _ hx)) (by rw[qah] at hm;omega) e2 hF (by rw[show(k+1).toNat=k.toNat+1 by omega];exact hg);exact⟨g2,by rw[e3,qao];rfl,h4⟩
theorem yaha (hv:GVal ns ct)(h2:0<=k)(h3:k<ns.length)(hk:POk ns nm ct k.toNat)(hd:dpL ns k.toNat<=r)(hs:ts.map shp=parT (decide (opAt ns k=4)) (tk ns nm ct 0 k))(hF:F0 top rest)(hS:Stj ns nm (exL ns k+1).toNat f) :
  OkJ ns nm (seqL top (preL true r (inL true r)) (ts++rest) f) rest (k.toNat+1):=by
 have hkn:=qbe h2;have hf:=yaad (nm:=nm) hv (k.toNat+1) k.toNat 0 (qas _) U;rw[hkn] at hf;obtain⟨n,hn⟩:∃n,ns[k.toNat]?=some n:=⟨_,qae U⟩;have hp:=yajy hv.kb hn;by_cases h4:opAt ns k=4
 ·rw[decide_eq_true h4] at hs
  obtain⟨t9,u,rfl,e9,e2⟩:=qbf.1 hs;obtain⟨u1,u2,rfl,e3,e4⟩:=qde.1 e2;obtain⟨t10,v,rfl,e10,e5⟩:=qbf.1 e4;obtain rfl:=qbx.1 e5;obtain⟨r,rfl⟩:∃x,r=x+1:=⟨r-1,U⟩;have k9:t9.kind=9:=congrArg (·.1) e9;have k10:t10.kind=10:=congrArg (·.1) e10;have hin:=hk.2.1 r false u1 (t10::rest) f U (by rw[hkn];exact e3) ⟨⟨⟨by show t10.kind≠2;omega,by show t10.kind≠99;omega⟩,by show ¬(6<=t10.kind/\t10.kind<=8);omega⟩,zlr (.inr (.inr (.inr (.inl k10))))⟩ (by show t10.kind≠3;omega) (by rw[hkn];exact hS);have hpr:=yafc (rest:=rest) k9 k10 hin;have e:(t9::(u1++[t10]))++rest=t9::(u1++t10::rest):=jc
  have hq:=yads (r:=r+1) (top:=top) (rest:=rest) (ts:=t9::(u1++[t10])) (f:=f) (j:=k.toNat+1) (ns:=ns) (nm:=nm) (hf.1.par (b:=true)) (hf.2.par (b:=true)) hs 3 0 U U (fun _ _=>by show ¬(t9.kind=4∨t9.kind=5);omega) hF (by rw[e];exact hpr);exact hq
 ·rw[decide_eq_false h4] at hs
  exact hk.2.2 r top ts rest f (by rw[hkn];exact h4) U (by rw[hkn];exact hs) hF (by rw[hkn];exact hS)
theorem yaff (hv:GVal ns ct){r:Nat}{top:Bool}:∀(ks:List Int) (a b:Int) (m:Nat) (done:List Int) (ts rest:List Tok) (f:MF),ks≠[]->KC ns a ks b->(∀k,k ∈ ks->POk ns nm ct k.toNat/\dpL ns k.toNat<=r)->ks.length<=m->ts.map shp=joinT [sg 3] (ks.map fun k=>parT (decide (opAt ns k=4)) (tk ns nm ct 0 k))->F0 top rest->kd rest≠3->Stj ns nm (a+1).toNat f ->
  ∃g,altsL true (seqL top (preL true r (inL true r))) m (ts++rest) f done=.ok rest (joinN g 4 (done++ks))/\Stj ns nm (b+1).toNat g
 | [],_,_,_,_,_,_,_,h,_,_,_,_,_,_,_=>absurd rfl h
 | [k],a,b,m,done,ts,rest,f,_,⟨h1,h2,h3,hc⟩,hk,hm,hs,hF,h3',hS=>by
  obtain rfl:k=b:=hc;obtain⟨m,rfl⟩:∃x,m=x+1:=⟨m-1,by rw[qah] at hm;omega⟩;have hkk:=hk k qap;obtain⟨g,eg,hg⟩:=yaha hv h2 h3 hkk.1 hkk.2 hs hF (by rw[h1];exact hS);refine⟨g,?_,by rw[show(k+1).toNat=k.toNat+1 by omega];exact hg⟩;rw[zch,eg,qb6,if_neg h3',hg.last,show((k.toNat+1:Nat):Int)-1=k by omega]
 |k::x::ks,a,b,m,done,ts,rest,f,_,⟨h1,h2,h3,hc⟩,hk,hm,hs,hF,h3',hS=>by
  obtain⟨m,rfl⟩:∃x,m=x+1:=⟨m-1,by rw[qah] at hm;omega⟩;have hkk:=hk k qap;rw[qb2,qb2,z9g] at hs;obtain⟨t1,t2,rfl,e1,e2⟩:=qde.1 hs;obtain⟨t3,t4,rfl,e3,e4⟩:=qbf.1 (show t2.map shp=sg 3::joinT [sg 3] _ from e2);have k3:t3.kind=3:=congrArg (·.1) e3;obtain⟨g,eg,hg⟩:=yaha (top:=top) hv h2 h3 hkk.1 hkk.2 (rest:=t3::(t4++rest)) (f:=f) e1 ⟨⟨⟨by show t3.kind≠2;omega,by show t3.kind≠99;omega⟩,by show ¬(6<=t3.kind/\t3.kind<=8);omega⟩,zlr (.inr (.inr (.inl k3)))⟩ (by rw[h1];exact hS);obtain⟨g2,e5,h5⟩:=yaff hv (x::ks) k b m (done++[k]) t4 rest g jc hc (fun y hy=>hk y (qa9 _ hy)) (by rw[qah] at hm;omega) e4 hF h3' (by rw[show(k+1).toNat=k.toNat+1 by omega];exact hg);refine⟨g2,?_,h5⟩;rw[show(t1++t3::t4)++rest=t1++t3::(t4++rest) by simp,zch,eg,qb6,if_pos (show kd (t3::(t4++rest))=3 from k3),za5,qb6,hg.last,show((k.toNat+1:Nat):Int)-1=k by omega];show altsL true _ m (t4++rest) g (done++[k])=_;rw[e5,qao];rfl
theorem yab4 {f:Int->List Shp}:∀ {l:List Int},(∀k,k ∈ l->BegT (f k))->l.length<=(l.flatMap f).length
 | [],_=>qac _
 |k::l,h=>by
  obtain⟨s,t,e,-⟩:=h k qap;have:=yab4 fun x hx=>h x (qa9 _ hx)
  rw[qat,qad,e,qah,qah];omega
theorem yab5 {sep:List Shp}:∀ {l:List (List Shp)},(∀x,x ∈ l->BegT x)->l.length<=(joinT sep l).length
 | [],_=>qac _
 | [x],h=>by
  obtain⟨s,t,rfl,-⟩:=h x qap;show 1<=_;rw[yab3,qah];omega
 |x::y::r,h=>by
  obtain⟨s,t,rfl,-⟩:=h x qap;have:=yab5 (sep:=sep) (l:=y::r) fun z hz=>h z (qa9 _ hz)
  rw[z9g,qad,qad];simp only[qah] at this ⊢;omega
theorem yai0 (hv:GVal ns ct)(hn:ns[i]?=some n)(hi:∀k,k ∈ n.kids->POk ns nm ct k.toNat)(top:Bool)(hd:dpL ns i<=r+1)(hs:ts.map shp=inT ns nm ct n (tk ns nm ct))(hS:Stj ns nm (exL ns i+1).toNat f) :
  (n.op≠4->FolL top (lvl n.op) rest->OkJ ns nm (runL r top (lvl n.op) (ts++rest) f) rest (i+1))/\(n.op=4->F0 top rest->kd rest≠3->OkJ ns nm (exprL true r top (ts++rest) f) rest (i+1)):=by
 obtain⟨R,hR⟩:=hv.made i n hn;have hil:=(qag.1 hn).1;have hkc:=kc_of hv.ex hn;have hall:∀k,k ∈ n.kids->POk ns nm ct k.toNat/\dpL ns k.toNat<=r:=fun k hk=>⟨hi k hk,by have:=yag8 hv.kb hn hk;omega⟩
 have hj:((i:Int)-1+1).toNat=i:=U
 have hbeg:∀(pl:Nat) (k:Int),k ∈ n.kids->BegT (tk ns nm ct pl k):=fun pl k hk=>by
  have hb:=hv.kb i n hn k hk;have h:=(yaad (nm:=nm) hv (k.toNat+1) k.toNat pl (qas _) U).1;rwa [qbe hb.1] at h
 unfold inT at hs;rcases z9h hR with⟨h0,hm⟩|⟨h0,h1,-⟩|⟨h0,h1,-⟩|⟨h0,h2,hm⟩|⟨h0,k,hk,hm⟩
 ·have hex:(exL ns i+1).toNat=i:=by rw[hm] at hkc;have:exL ns i=(i:Int)-1:=hkc;omega
  rw[hex] at hS;rw[if_pos h0] at hs;obtain⟨t,v,rfl,e1,e2⟩:=qbf.1 hs;obtain rfl:=qbx.1 e2;have k1:t.kind=12:=congrArg (·.1) e1;have k2:t.text=[]:=congrArg (·.2.1) e1;have hl:lvl n.op=3:=by rw[h0];rfl
  rw[hl];refine⟨fun _ _=>⟨addN f n,?_,hS.add hn U⟩,fun h=>U⟩;show primL true r _ (t::rest) f=_;unfold primL;dsimp only;rw[if_neg U,if_neg U,if_pos k1,za5,k2,hm];rfl
 ·have hex:(exL ns i+1).toNat=i:=by rw[h1] at hkc;have:exL ns i=(i:Int)-1:=hkc;omega
  rw[hex] at hS;rw[if_neg U,if_pos h0] at hs;obtain⟨t,v,rfl,e1,e2⟩:=qbf.1 hs;obtain rfl:=qbx.1 e2;have hl:lvl n.op=3:=by rw[h0];rfl
  rw[hl];refine⟨fun _ _=>⟨addN f n,?_,hS.add hn U⟩,fun h=>U⟩;show primL true r _ (t::rest) f=_;unfold primL;dsimp only;rcases hv.cls i n hn h0 with⟨rs,e,hc⟩|⟨b,e,hc⟩|⟨e,hc⟩
  ·rw[e] at e1
   have k1:t.kind=13:=congrArg (·.1) e1;have k2:t.rs=rs:=congrArg (·.2.2) e1;rw[if_neg U,if_neg U,if_neg U,if_pos k1,za5,k2,hc]
  ·rw[e] at e1
   have k1:t.kind=12:=congrArg (·.1) e1;have k2:t.text=[b]:=congrArg (·.2.1) e1;rw[if_neg U,if_neg U,if_pos k1,za5,k2];show PO.ok rest (addN f (clsN fun i=>decide (i=b)))=_;rw[hc]
  ·rw[e] at e1
   have k1:t.kind=11:=congrArg (·.1) e1;rw[if_neg U,if_neg U,if_neg U,if_neg U,if_pos k1,za5,hc]
 ·have hex:(exL ns i+1).toNat=i:=by rw[h1] at hkc;have:exL ns i=(i:Int)-1:=hkc;omega
  rw[hex] at hS;rw[if_neg U,if_neg U,if_pos h0] at hs;obtain⟨t,v,rfl,e1,e2⟩:=qbf.1 hs;obtain rfl:=qbx.1 e2;have k1:t.kind=1:=congrArg (·.1) e1;have k2:t.text=nm n.rule:=congrArg (·.2.1) e1;have hl:lvl n.op=3:=by rw[h0];rfl
  rw[hl];refine⟨fun _ hF=>⟨callF f t,?_,hS.call hn h0 k2⟩,fun h=>U⟩;have hF:F3 rest:=hF;show primL true r _ (t::rest) f=_;unfold primL;dsimp only;rw[if_pos k1,if_neg (by intro h;exact h.2.elim hF.1 hF.2),za5]
 ·rw[if_neg U,if_neg U,if_neg U] at hs
  by_cases h3:n.op=3
  ·rw[if_pos h3] at hs
   have hl:lvl n.op=0:=by rw[h3];rfl
   rw[hl];refine⟨fun _ hF=>?_,fun h=>U⟩;have hlen:=congrArg List.length hs;rw[qaw] at hlen;have hge:=yab4 (f:=tk ns nm ct 1) (l:=n.kids) fun k hk=>hbeg 1 k hk
   obtain⟨g,eg,hg⟩:=yafe (top:=top) hv n.kids _ _ (ts++rest).length [] ts rest f hkc hall (by rw[qad];omega) hs hF hS;rw[hj] at hg;refine⟨addN g n,?_,hg.add hn U⟩;show zb8 top _ ((ts++rest).length+1) (ts++rest) f []=_;rw[eg,qbi]
   match hq:n.kids,h2 with
   |a::b::q,_=>
    show PO.ok rest (addN g (mkN 3 (a::b::q)))=_;rw[<-hq,<-h3,<-hm]
  ·have h4:n.op=4:=U
   rw[if_neg h3,if_pos h4] at hs;refine⟨fun h=>absurd h4 h,fun _ hF h3'=>?_⟩;have hlen:=congrArg List.length hs;rw[qaw] at hlen;have hge:=yab5 (sep:=[sg 3]) (l:=n.kids.map fun k=>parT (decide (opAt ns k=4)) (tk ns nm ct 0 k)) fun x hx=>by
    obtain⟨k,hk,rfl⟩:=qcz.1 hx;exact(hbeg 0 k hk).par
   rw[qaw] at hge;obtain⟨g,eg,hg⟩:=yaff (top:=top) hv n.kids _ _ ((ts++rest).length+1) [] ts rest f (by intro e;rw[e] at h2;exact absurd h2 ja) hkc hall (by rw[qad];omega) hs hF h3' hS;rw[hj] at hg;refine⟨addN g n,?_,hg.add hn U⟩;rw[zgi,eg,qbi]
   match hq:n.kids,h2 with
   |a::b::q,_=>
    show PO.ok rest (addN g (mkN 4 (a::b::q)))=_;rw[<-hq,<-h4,<-hm]
 ·rw[if_neg U,if_neg U,if_neg U,if_neg U,if_neg U] at hs
  rw[hk] at hkc hs;obtain⟨hk1,hk2⟩:=hkc.one;have hmk:k ∈ n.kids:=by rw[hk];exact qap
  have hkk:=hall k hmk;have hkn:((k.toNat:Nat):Int)=k:=qbe (hv.kb i n hn k hmk).1;have hki:k.toNat+1=i:=U
  rw[qat,qbu,qa6] at hs;have hS2:Stj ns nm (exL ns (k.toNat:Int)+1).toNat f:=by rw[hkn,hk2];exact hS
  by_cases h8:n.op=8∨n.op=9
  ·rw[if_pos h8] at hs
   obtain⟨t,ts,rfl,e1,e2⟩:=qbf.1 hs;have k1:t.kind=preT n.op:=congrArg (·.1) e1;have hl:lvl n.op=1:=by unfold lvl;rw[if_neg U,if_pos h8]
   rw[hl];refine⟨fun _ hF=>?_,fun h=>U⟩;obtain⟨g,eg,hg⟩:=hkk.1.1 r top 2 ts rest f U U (by have:=yag8 hv.kb hn hmk;split<;>omega) (by rw[hkn];exact e2) hF hS2;have eg:sufL true r (inL true r) (ts++rest) f=.ok rest g:=eg;rw[hki] at hg;refine⟨addN g n,?_,hg.add hn U⟩;have h4:=yafa (op:=n.op);show preL true r (inL true r) (t::(ts++rest)) f=_;unfold preL;rw[if_pos (show kd (t::(ts++rest))=4∨kd (t::(ts++rest))=5 from by show t.kind=4∨t.kind=5;omega),za5,qb6];show((sufL true r (inL true r) (ts++rest) f).bind _)=_;rw[eg,qb6,hg.last];show PO.ok rest (addN g (mkN (preOp t.kind) [_]))=_;rw[k1,yakl h8,show(i:Int)-1=k by omega,<-hm]
  ·rw[if_neg h8] at hs
   rw[qat,qbu,qa6] at hs;obtain⟨t1,t2,rfl,e1,e2⟩:=qde.1 hs;obtain⟨t,v,rfl,e3,e4⟩:=qbf.1 e2;obtain rfl:=qbx.1 e4;have k1:t.kind=sufT n.op:=congrArg (·.1) e3;have h6:=yakk (op:=n.op) U;have hl:lvl n.op=2:=by unfold lvl;rw[if_neg U,if_neg h8,if_pos U]
   rw[hl];refine⟨fun _ hF=>?_,fun h=>U⟩;obtain⟨g,eg,hg⟩:=hkk.1.1 r top 3 t1 (t::rest) f U U (by have:=yag8 hv.kb hn hmk;split<;>omega) (by rw[hkn];exact e1) ⟨by show t.kind≠2;omega,by show t.kind≠99;omega⟩ hS2;have eg:primL true r (inL true r) (t1++t::rest) f=.ok (t::rest) g:=eg;rw[hki] at hg;refine⟨addN g n,?_,hg.add hn U⟩;show sufL true r (inL true r) ((t1++[t])++rest) f=_;rw[show(t1++[t])++rest=t1++t::rest by simp];unfold sufL;rw[eg,qb6];unfold sufK;rw[if_pos (show 6<=kd (t::rest)/\kd (t::rest)<=8 from by show 6<=t.kind/\t.kind<=8;omega),za5,hg.last];show PO.ok rest (addN g (mkN (sufOp t.kind) [_]))=_;rw[k1,h6.2.2,show(i:Int)-1=k by omega,<-hm]
theorem yaa9 (hv:GVal ns ct):∀(m i:Nat),i<m->i<ns.length->POk ns nm ct i
 |0,_,h,_=>absurd h (qa3 _)
 |m+1,i,hi,hl=>by
  obtain⟨n,hn⟩:∃n,ns[i]?=some n:=⟨_,qae hl⟩;have hop:=yag9 hn;have hkid:∀k,k ∈ n.kids->POk ns nm ct k.toNat:=fun k hk=>by
   have hb:=hv.kb i n hn k hk;exact yaa9 hv m k.toNat U U
  have own:=fun(r:Nat) (top:Bool) hd (ts rest:List Tok) (f:MF) hs hS=>yai0 (nm:=nm) hv hn hkid (r:=r) top hd (ts:=ts) (rest:=rest) (f:=f) hs hS
  have hfa:=fun pl=>yaad (nm:=nm) hv (i+1) i pl (qas _) hl
  have heq:=fun pl=>tk_eq (nm:=nm) (ct:=ct) hv.kb hn pl
  have hp0:parB n.op 0=false:=by rw[yaae _ (qaj _)];exact decide_eq_false U
  have h0:tk ns nm ct 0 (i:Int)=inT ns nm ct n (tk ns nm ct):=by rw[heq 0,hp0];rfl
  have hexpr:∀(r:Nat) (top:Bool) (ts rest:List Tok) (f:MF),dpL ns i<=r+1->ts.map shp=tk ns nm ct 0 i->F0 top rest->kd rest≠3->Stj ns nm (exL ns i+1).toNat f->OkJ ns nm (exprL true r top (ts++rest) f) rest (i+1)/\(n.op≠4->OkJ ns nm (runL r top 0 (ts++rest) f) rest (i+1)):=fun r top ts rest f hd hs hF h3 hS=>by
   obtain⟨o1,o2⟩:=own r top hd ts rest f (by rw[<-h0];exact hs) hS;by_cases h4:n.op=4
   ·exact⟨o2 h4 hF h3,fun h=>absurd h4 h⟩
   ·have hF':FolL top (lvl n.op) rest:=by
     have:=yact n.op;rcases(by omega:lvl n.op=0∨lvl n.op=1∨lvl n.op=2∨lvl n.op=3) with e|e|e|e<;>rw[e]
     ·exact hF
     ·exact hF.1
     ·exact hF.1
     ·exact hF.1.1
    have h1:=yads (r:=r) (top:=top) (hfa 0).1 (hfa 0).2 hs (lvl n.op) 0 (qaj _) (yact _) (fun h2 _=>by
     have hp2:parB n.op 2=false:=by rw[yaae _ U];exact decide_eq_false U
     have hn2:=yabq (nm:=nm) hv (i+1) i 2 (qas _) hl U U;rw[heq 2,hp2] at hn2;exact yac9 hn2 (by rw[hs,h0];rfl)) hF (o1 h4 hF')
    exact⟨yag7 h1 h3,fun _=>h1⟩
  refine⟨fun r top pl ts rest f hp1 hp3 hd hs hF hS=>?_,fun r top ts rest f hd hs hF h3 hS=>(hexpr r top ts rest f hd hs hF h3 hS).1,fun r top ts rest f h4 hd hs hF hS=>?_⟩
  ·rw[hop] at hd
   have hF3:F3 rest:=by
    rcases(by omega:pl=1∨pl=2∨pl=3) with rfl|rfl|rfl
    ·exact hF.1
    ·exact hF.1
    ·exact hF
   cases hpb:parB n.op pl with
   |true=>
    rw[hpb,if_pos rfl] at hd;have hdp:=yajy hv.kb hn;have hs':=hs;rw[heq pl,hpb] at hs';obtain⟨t9,u,rfl,e9,e2⟩:=qbf.1 hs';obtain⟨u1,u2,rfl,e3,e4⟩:=qde.1 e2;obtain⟨t10,v,rfl,e10,e5⟩:=qbf.1 e4;obtain rfl:=qbx.1 e5;obtain⟨r,rfl⟩:∃x,r=x+1:=⟨r-1,U⟩;have k9:t9.kind=9:=congrArg (·.1) e9;have k10:t10.kind=10:=congrArg (·.1) e10;have hin:=(hexpr r false u1 (t10::rest) f U (by rw[h0];exact e3) ⟨⟨⟨by show t10.kind≠2;omega,by show t10.kind≠99;omega⟩,by show ¬(6<=t10.kind/\t10.kind<=8);omega⟩,zlr (.inr (.inr (.inr (.inl k10))))⟩ (by show t10.kind≠3;omega) hS).1;have hpr:=yafc (rest:=rest) k9 k10 hin;have e:(t9::(u1++[t10]))++rest=t9::(u1++t10::rest):=jc
    exact yads (r:=r+1) (top:=top) (hfa pl).1 (hfa pl).2 hs 3 pl hp3 U (fun _ _=>by show ¬(t9.kind=4∨t9.kind=5);omega) hF (by rw[e];exact hpr)
   |false=>
    rw[hpb,if_neg ja] at hd;have hs':=hs;rw[heq pl,hpb] at hs';have hle:pl<=lvl n.op:=by
     rw[yaae _ hp3] at hpb;have:=of_decide_eq_false hpb;omega
    have h4:n.op≠4:=fun h=>by rw[h] at hle;exact absurd hle (by show ¬pl<=0;omega)
    obtain⟨o1,-⟩:=own r top hd ts rest f hs' hS;have hF':FolL top (lvl n.op) rest:=by
     have:=yact n.op;rcases(by omega:lvl n.op=1∨lvl n.op=2∨lvl n.op=3) with e|e|e<;>rw[e]
     ·obtain rfl:pl=1:=U
      exact hF
     ·rcases(by omega:pl=1∨pl=2) with rfl|rfl<;>exact hF
     ·exact hF3
    exact yads (r:=r) (top:=top) (hfa pl).1 (hfa pl).2 hs (lvl n.op) pl hle (yact _) (fun h2 _=>by
     have hp2:parB n.op 2=false:=by rw[yaae _ U];exact decide_eq_false U
     have hn2:=yabq (nm:=nm) hv (i+1) i 2 (qas _) hl U U;rw[heq 2,hp2] at hn2;exact yac9 hn2 hs') hF (o1 h4 hF')
  ·rw[hop] at h4
   obtain⟨o1,-⟩:=own r top hd ts rest f (by rw[<-h0];exact hs) hS;have hF':FolL top (lvl n.op) rest:=by
    have:=yact n.op;rcases(by omega:lvl n.op=0∨lvl n.op=1∨lvl n.op=2∨lvl n.op=3) with e|e|e|e<;>rw[e]
    ·exact hF
    ·exact hF.1
    ·exact hF.1
    ·exact hF.1.1
   exact yads (r:=r) (top:=top) (hfa 0).1 (hfa 0).2 hs (lvl n.op) 0 (qaj _) (yact _) (fun h2 _=>by
    have hp2:parB n.op 2=false:=by rw[yaae _ U];exact decide_eq_false U
    have hn2:=yabq (nm:=nm) hv (i+1) i 2 (qas _) hl U U;rw[heq 2,hp2] at hn2;exact yac9 hn2 (by rw[hs,h0];rfl)) hF (o1 h4 hF')
end
section
variable {ns:List PN} {nm:Int->List Nat} {ct:PN->Shp}
def fileT (ns:List PN)(nm:Int->List Nat)(ct:PN->Shp)(rs:List PR):List Shp:=rs.flatMap fun r=>(1,bts r.name,[])::sg 2::tk ns nm ct 0 r.root
theorem yaaf (r:PR)(t:List PR):fileT ns nm ct (r::t)=((1,bts r.name,[])::sg 2::tk ns nm ct 0 r.root)++fileT ns nm ct t:=by
 unfold fileT;rw[qat]
theorem yaek (he:e.kind=0):∀ {t:List PR},ts.map shp=fileT ns nm ct t->F0 true (ts++[e])/\kd (ts++[e])≠3/\(t≠[]->kd (ts++[e])=1)
 | [],h=>by
  obtain rfl:=qbx.1 h;refine⟨⟨⟨⟨by show e.kind≠2;omega,by show e.kind≠99;omega⟩,by show ¬(6<=e.kind/\e.kind<=8);omega⟩,zlr (.inl he)⟩,by show e.kind≠3;omega,fun h=>absurd rfl h⟩
 |r::t,h=>by
  rw[yaaf] at h;obtain⟨a,ts,rfl,e1,e2⟩:=qbf.1 (show ts.map shp=(1,bts r.name,[])::((sg 2::tk ns nm ct 0 r.root)++fileT ns nm ct t) from h);obtain⟨b,ts,rfl,e3,e4⟩:=qbf.1 (show ts.map shp=sg 2::(tk ns nm ct 0 r.root++fileT ns nm ct t) from e2);have k1:a.kind=1:=congrArg (·.1) e1;have k2:b.kind=2:=congrArg (·.1) e3;refine⟨⟨⟨⟨by show a.kind≠2;omega,by show a.kind≠99;omega⟩,by show ¬(6<=a.kind/\a.kind<=8);omega⟩,?_⟩,by show a.kind≠3;omega,fun _=>k1⟩;unfold begB;show(if a.kind=1 then !(true&&b.kind == 2) else _)=false;rw[if_pos k1,k2];rfl
theorem yafg (hv:GVal ns ct)(hd:∀i,i<ns.length->dpL ns i<=201){e:Tok}(he:e.kind=0):∀(rs:List PR) (b:Int) (n:Nat) (ts:List Tok) (f:MF) (acc:List (List Nat × Nat × Int)),-1<=b->ordR ns rs b=true->rs≠[]->rs.length<=n->ts.map shp=fileT ns nm ct rs->Stj ns nm (b+1).toNat f ->
  ∃acc' g,defsL true (exprL true 200 true) n (ts++[e]) f acc=.ok (acc++acc') g/\acc'.map (fun r=>(r.1,r.2.2))=rs.map (fun r=>(bts r.name,r.root))/\Stj ns nm ns.length g
 | [],_,_,_,_,_,_,_,h,_,_,_=>absurd rfl h
 |r::t,b,n,ts,f,acc,hb,ho,_,hn,hs,hS=>by
  obtain⟨h1,h2,h3,h4⟩:=zuf ho;obtain⟨n,rfl⟩:∃x,n=x+1:=⟨n-1,by rw[qah] at hn;omega⟩;rw[yaaf] at hs;obtain⟨ta,ts,rfl,e1,e2⟩:=qbf.1 (show ts.map shp=(1,bts r.name,[])::((sg 2::tk ns nm ct 0 r.root)++fileT ns nm ct t) from hs);obtain⟨tb,ts,rfl,e3,e4⟩:=qbf.1 (show ts.map shp=sg 2::(tk ns nm ct 0 r.root++fileT ns nm ct t) from e2);obtain⟨t1,t2,rfl,e5,e6⟩:=qde.1 e4;have k1:ta.kind=1:=congrArg (·.1) e1;have k2:tb.kind=2:=congrArg (·.1) e3;have kx:ta.text=bts r.name:=congrArg (·.2.1) e1;have hri:((r.root.toNat:Nat):Int)=r.root:=qbe U;obtain⟨f1,f2,f3⟩:=yaek he e6;obtain⟨g,eg,hg⟩:=(yaa9 (nm:=nm) hv (r.root.toNat+1) r.root.toNat (qas _) U).2.1 200 true t1 (t2++[e]) f (by have:=hd r.root.toNat U;omega) (by rw[hri];exact e5) f1 f2 (by rw[hri,h3];exact hS);have ed:defL true (exprL true 200 true) (ta::tb::((t1++t2)++[e])) f=.ok (t2++[e]) g:=by
   unfold defL;rw[if_pos (show kd (ta::tb::((t1++t2)++[e]))=1 from k1),za5,qb6];show(if tb.kind=2 then (Go.Proofs.YtmopdlbpkiaoeaaGreatDoor.acc true ((t1++t2)++[e]) f).bind _ else _)=_;rw[if_pos k2,za5,qb6,qao,eg]
  have hl:lastI g=r.root:=by rw[hg.last];omega
  unfold defsL;rw[show(ta::tb::(t1++t2))++[e]=ta::tb::((t1++t2)++[e]) from rfl,ed];dsimp only;rw[hl];show ∃acc' g',(if kd (t2++[e])=0 then FO.ok (acc++[(ta.text,ta.at_,r.root)]) g else _)=_/\_;cases t with
  |nil=>
   obtain rfl:=qbx.1 e6;rw[if_pos (show kd ([]++[e])=0 from he)];refine⟨_,g,rfl,?_,?_⟩
   ·rw[kx];rfl
   ·have hend:r.root=(ns.length:Int)-1:=by simpa [ordR] using h4
    rw[show ns.length=r.root.toNat+1 by omega];exact hg
  |cons q t=>
   have h0:=f3 jc;rw[if_neg U];obtain⟨a2,g2,e7,h7,h8⟩:=yafg hv hd he (q::t) r.root n t2 g (acc++[(ta.text,ta.at_,r.root)]) U h4 jc (by rw[qah] at hn;omega) e6 (by rw[show(r.root+1).toNat=r.root.toNat+1 by omega];exact hg);refine⟨(ta.text,ta.at_,r.root)::a2,g2,?_,?_,h8⟩
   ·rw[show txt (ta::tb::((t1++t2)++[e]))=ta.text from rfl,show pos (ta::tb::((t1++t2)++[e]))=ta.at_ from rfl,e7,qao]
    rfl
   ·rw[qb2,h7,kx]
    rfl
end
def NoDup (rs:List PR):Prop:=∀i,i<rs.length->zbp rs i=false
theorem NoDup.find (h:NoDup rs){r:PR}(hr:rs[i]?=some r):fndL (rs.map (·.name)) r.name=some i:=by
 have hm:(rs.map (·.name))[i]?=some r.name:=by rw[qax,hr];rfl
 obtain⟨j,hj,hle⟩:=zgu hm;rw[hj];rcases qcr j i with hlt|hge
 ·have hb:=h i (qag.1 hr).1
  unfold zbp at hb;rw[hr] at hb;have h1:=(Bool.or_eq_false_iff.1 hb).1;obtain⟨hs,-⟩:=zfc hj;rw[qax] at hs;obtain⟨q,hq,e⟩:=qa1.1 hs;have hmem:q ∈ rs.take i:=qan (by rw[List.getElem?_take,if_pos hlt];exact hq);have:=List.any_eq_false.1 h1 q hmem;exact absurd (decide_eq_true e) this
 ·rw[show j=i by omega]
theorem yalq {rs':List (List Nat × Nat × Int)}(h:rs'.map (fun r=>(r.1,r.2.2))=rs.map fun r=>(bts r.name,r.root)):nmR rs'=rs.map (·.name)/\zam rs'=rs/\rs'.length=rs.length:=by
 refine⟨?_,?_,?_⟩
 ·have h2:=congrArg (List.map (fun p:List Nat × Int=>strOf p.1)) h
  rw[qc0,qc0] at h2;refine h2.trans (qb9 fun r _=>?_);exact zt7 r.name
 ·have h2:=congrArg (List.map (fun p:List Nat × Int=>(⟨strOf p.1,p.2⟩:PR))) h
  rw[qc0,qc0] at h2;refine h2.trans ?_;rw[qb9 (g:=id) fun r _=>?_,List.map_id];show PR.mk (strOf (bts r.name)) r.root=r;rw[zt7]
 ·have h2:=congrArg List.length h
  rwa [qaw,qaw] at h2
theorem yajz {nm:Int->List Nat}{k:Nat}(hn:ns[k]?=some n)(h2:n.op=2):(cnL ns nm ns.length)[cnt2 (ns.take k)]?=some (nm n.rule):=by
 unfold cnL cnt2;rw[qbz];have hk:=(qag.1 hn).1;have e:ns=ns.take k++n::ns.drop (k+1):=by
  conv=>lhs;rw[<-qdk k ns,List.drop_eq_getElem_cons hk,(qag.1 hn).2]
 have e2:ns.filter (fun n=>decide (n.op=2))=(ns.take k).filter (fun n=>decide (n.op=2))++n::(ns.drop (k+1)).filter (fun n=>decide (n.op=2)):=by
  conv=>lhs;rw[e]
  rw[qfc,List.filter_cons,if_pos (by simpa using h2)]
 rw[e2,qa5,List.countP_eq_length_filter,List.getElem?_append_right (by rw[qaw];exact qac _),qaw,Nat.sub_self];rfl
theorem yakn {nm:Int->List Nat}{c:List Nat}(h:c ∈ cnL ns nm ns.length):∃(k:Nat) (n:PN),ns[k]?=some n/\n.op=2/\c=nm n.rule:=by
 unfold cnL at h;rw[qbz] at h;obtain⟨n,hn,rfl⟩:=qcz.1 h;obtain⟨h1,h2⟩:=List.mem_filter.1 hn;obtain⟨k,hk⟩:=qc4 h1;exact⟨k,n,hk,by simpa using h2,rfl⟩
def nmOf (rs:List PR)(i:Int):List Nat:=match rs[i.toNat]? with
 |some r=>bts r.name
 |none=>[]
theorem yaf1 {ct:PN->Shp}(hk:chkL rs ns=.ok)(hc:∀(i:Nat) (n:PN),ns[i]?=some n->n.op=1->ClsTok (ct n) n){l:List Nat}(he:e.kind=0)(hs:ts.map shp=fileT ns (nmOf rs) ct rs)(hl:strm l 0=ts++[e]) :
  ∃rs' f,zaz l=.ok rs' f/\dupO rs'=none/\undO (nmR rs') f=none/\zam rs'=rs/\zan (nmR rs') (nmC f) f.nodes=ns:=by
 obtain⟨h1,h2,h3,h4,h5,h6,h7⟩:=z3k hk;have hv:GVal ns ct:=⟨zuh h6,fun i n hn=>⟨rs.length,by
  have:=h5 i (qag.1 hn).1;unfold zbv at this;rw[hn] at this;simpa using this⟩,hc⟩
 have hmade:∀(i:Nat) (n:PN),ns[i]?=some n->madeB n rs.length=true:=fun i n hn=>by
  have:=h5 i (qag.1 hn).1;unfold zbv at this;rw[hn] at this;simpa using this
 have hne:rs≠[]:=fun e=>by rw[e] at h3;exact absurd h3 ja
 have hlen:rs.length<=(ts++[e]).length+1:=by
  have hq:=congrArg List.length hs;rw[qaw] at hq;have:∀t:List PR,t.length<=(fileT ns (nmOf rs) ct t).length:=by
   intro t
   induction t with
   |nil=>exact qac _
   |cons r t ih=>
    rw[yaaf,qad,qah,qah];omega
  have:=this rs;rw[qad];omega
 obtain⟨rs',f,e1,e2,hS⟩:=yafg (nm:=nmOf rs) hv (fun i hi=>by have:=h7 i hi;omega) he rs (-1) ((ts++[e]).length+1) ts ⟨[],[]⟩ [] U h6 hne hlen hs ⟨rfl,rfl⟩;obtain⟨r1,r2,r3⟩:=yalq e2;have hnd:NoDup rs:=h4;have hfind:∀(k:Nat) (n:PN),ns[k]?=some n->n.op=2->fndL (nmR rs') (strOf (nmOf rs n.rule))=some n.rule.toNat:=fun k n hn h2=>by
  rcases z9h (hmade k n hn) with⟨h0,-⟩|⟨h0,-⟩|⟨-,-,ha,hb,-⟩|⟨h0,-⟩|⟨h0,-⟩
  ·omega
  ·omega
  ·obtain⟨r,hr⟩:∃r,rs[n.rule.toNat]?=some r:=⟨_,qae U⟩
   unfold nmOf;rw[hr,r1];dsimp only;rw[zt7];exact hnd.find hr
  ·omega
  ·omega
 have hnc:nmC f=(cnL ns (nmOf rs) ns.length).map strOf:=by
  have:=congrArg (List.map strOf) hS.2;rw[qc0] at this;exact this
 refine⟨rs',f,?_,zjp ?_,zoc ?_,r2,?_⟩
 ·unfold zaz
  rw[hl,e1];rfl
 ·refine zmc _ _ fun j _ hj=>?_
  rw[r3] at hj;obtain⟨r,hr⟩:∃r,rs[j]?=some r:=⟨_,qae U⟩;have hf:=hnd.find hr;rw[r1,zmd (by rw[qax,hr];rfl) hf];exact decide_eq_false U
 ·refine zmc _ _ fun j _ hj=>?_
  obtain⟨c,hcj⟩:∃c,(nmC f)[j]?=some c:=⟨_,qae (by unfold nmC;rw[qaw];omega)⟩;rw[zjm hcj];rw[hnc,qax] at hcj;obtain⟨x,hx,rfl⟩:=qa1.1 hcj;obtain⟨k,n,hn,h2,rfl⟩:=yakn (qan hx);rw[hfind k n hn h2];rfl
 ·unfold zan
  rw[hS.1];refine List.ext_getElem? fun k=>?_
  unfold pnL;rw[qax,qax];rcases qcr k ns.length with hlt|hge
  ·obtain⟨n,hn⟩:∃n,ns[k]?=some n:=⟨_,qae hlt⟩
   rw[List.getElem?_range hlt,hn];show some (gNode _ _ (pnAt ns k))=some n;congr 1;unfold pnAt;rw[hn];dsimp only;by_cases h2:n.op=2
   ·rw[if_pos h2]
    unfold gNode;rw[if_pos (show(callN (cnt2 (ns.take k))).op=2 from rfl)];have hg:(nmC f).getD (callN (cnt2 (ns.take k))).rule.toNat ByteArray.empty=strOf (nmOf rs n.rule):=by
     show(nmC f).getD ((cnt2 (ns.take k):Nat):Int).toNat _=_;rw[qa8,hnc,List.getD_eq_getElem?_getD,qax,yajz hn h2];rfl
    rw[hg,hfind k n hn h2];rcases z9h (hmade k n hn) with⟨h0,-⟩|⟨h0,-⟩|⟨-,-,ha,hb,hm⟩|⟨h0,-⟩|⟨h0,-⟩
    ·omega
    ·omega
    ·show PN.mk 2 [] ((n.rule.toNat:Nat):Int) 0 0 0 0=n
     rw[qbe ha,<-hm]
    ·omega
    ·omega
   ·rw[if_neg h2]
    unfold gNode;rw[if_neg h2]
  ·rw[qcx hge,qcx (by rw[qdp];exact hge)]
   rfl
inductive Seg:List Nat->Nat->List Tok->Prop
 |fin {g:List Nat} {p:Nat} (h:Spc g):Seg g p [⟨0,p+g.length,[],[]⟩]
 |tok {g b X:List Nat} {p:Nat} {t:Tok} {ts:List Tok} (h:Spc g) (hk:t.kind≠0) (ht:tokL (p+g.length) (b++X)=some (t,p+g.length+b.length)) (hr:Seg X (p+g.length+b.length) ts):Seg (g++(b++X)) p (t::ts)
theorem z1z {k n:Nat}{y:List Nat}{t:Tok}(h:tokL k y=some (t,n))(hk:t.kind≠0):skipL y=(0,true):=by
 cases y with
 |nil=>
  rw[zcp] at h;obtain⟨rfl,-⟩:=Prod.mk.inj (qar h);exact absurd rfl hk
 |cons c r=>
  by_cases hc:c=32∨c=9∨c=10∨c=13∨c=35
  ·have hb:tokL k (c::r)=none:=by
    rcases hc with rfl|rfl|rfl|rfl|rfl<;>exact zc3 ja (fun e=>absurd e.1 ja) ja ja ja
   rw[hb] at h;cases h
  ·exact zbg U U
theorem Seg.toks {x:List Nat}{p:Nat}(h:Seg x p ts):∀l:List Nat,l.drop p=x->p<=l.length->toksL l p=.ok ts:=by
 induction h with
 |fin h=>
  rename_i g p;intro l hl hp;have hs:=h [];rw[qa6,zc5] at hs;have hlen:=congrArg List.length hl;rw[qa2] at hlen;refine zcb (n:=p+g.length) ?_ rfl;unfold nextL;rw[hl,hs];show(match tokL (p+(g.length+0)) (l.drop (p+(g.length+0))) with|some x=>Except.ok x|none=>.error _)=_;rw[List.drop_eq_nil_of_le U,zcp];rfl
 |tok h hk ht hr ih=>
  rename_i g b X p t ts;intro l hl hp;have hs:=h (b++X);rw[z1z ht hk] at hs;have hlen:=congrArg List.length hl;rw[qa2,qad,qad] at hlen;have hd:l.drop (p+g.length)=b++X:=by rw[<-qb1,hl,qe1]
  have hn:nextL l p=.ok (t,p+g.length+b.length):=by
   unfold nextL;rw[hl,hs];show(match tokL (p+(g.length+0)) (l.drop (p+(g.length+0))) with|some x=>Except.ok x|none=>.error _)=_;rw[qc9,hd,ht]
  have hmv:=zd5 _ _ _ _ ht;have hb:0<b.length:=by
   rcases hmv with h2|h2
   ·exact absurd h2.1 hk
   ·omega
  rw[zdc hn hk ⟨U,U⟩,ih l (by rw[<-qb1,hd,qe1]) U];rfl
def Lx (q:Bool)(s:List Nat)(l:List Shp):Prop:=∀(g X:List Nat) (p:Nat) (ts':List Tok),Spc g->(q=true->idL false X=0)->Seg X (p+g.length+s.length) ts'->∃ts,ts.map shp=l/\Seg (g++(s++X)) p (ts++ts')
theorem Lx.weak {l:List Shp}(h:Lx q s l):Lx true s l:=fun g X p ts' hg hx hs=>h g X p ts' hg (fun _=>hx rfl) hs
theorem Lx.one {x:Shp}(hk:x.1≠0)(h:∀(k:Nat) (X:List Nat),(q=true->idL false X=0)->tokL k (s++X)=some (⟨x.1,k,x.2.1,x.2.2⟩,k+s.length)):Lx q s [x]:=fun g X p _ hg hx hs=>
 ⟨[⟨x.1,p+g.length,x.2.1,x.2.2⟩],rfl,Seg.tok hg hk (h (p+g.length) X hx) hs⟩
theorem Lx.app {r:Bool}{A B:List Shp}(ha:Lx q a A)(hb:Lx r b B)(h:q=true->∀X,idL false (b++X)=0):Lx r (a++b) (A++B):=fun g X p ts' hg hx hs=>by
 obtain⟨t2,e2,s2⟩:=hb [] X (p+g.length+a.length) ts' zul hx (by rw[qbq,qc9];rw[qad] at hs;rw[qds _ a.length];exact hs);obtain⟨t1,e1,s1⟩:=ha g (b++X) p (t2++ts') hg (fun e=>h e X) s2;refine⟨t1++t2,by rw[qa5,e1,e2],?_⟩;rw[qao,qao];exact s1
theorem Lx.gap {r:Bool}{A B:List Shp}(ha:Lx q a A)(hb:Lx r b B):Lx r (a++32::b) (A++B):=fun g X p ts' hg hx hs=>by
 obtain⟨t2,e2,s2⟩:=hb [32] X (p+g.length+a.length) ts' (zy5 (.inl rfl) zul) hx (by
  rw[qad,qah] at hs;rw[qai,show p+g.length+a.length+1+b.length=p+g.length+(a.length+(b.length+1)) by omega];exact hs)
 obtain⟨t1,e1,s1⟩:=ha g ([32]++(b++X)) p (t2++ts') hg (fun _=>zex ja) s2;refine⟨t1++t2,by rw[qa5,e1,e2],?_⟩;rw[qao,qao];exact s1
theorem Lx.cast {A B:List Shp}(h:Lx q a A)(h1:a=b)(h2:A=B):Lx q b B:=by subst h1 h2;exact h
theorem z9w {c k:Nat}(h1:letB c true=false)(h2:c≠60)(h3:signK c=some k)(hk:k≠0):Lx false [c] [sg k]:=Lx.one hk fun _ _ _=>zca h1 (fun e=>h2 e.1) h3
theorem yai1:Lx false [60,45] [sg 2]:=Lx.one ja fun _ _ _=>zbq ja ⟨rfl,rfl⟩
theorem yai2:Lx false [39,39] [(12,[],[])]:=Lx.one ja fun p X _=>by
 show tokL p (39::(39::X))=_;rw[zda (.inl rfl),zff];rfl
theorem yahb:∀(s:List Nat) (f:Bool) (X:List Nat),allF f s=true->s≠[]->idL f (s++X)=s.length+idL false X
 | [],_,_,_,h=>absurd rfl h
 |c::r,f,X,h,_=>by
  cases hl:letB c f with
  |false=>rw[zoy hl] at h;cases h
  |true=>
   rw[zfe hl] at h;rw[qbt,zbu hl,qah];cases r with
   |nil=>show idL false X+1=0+1+idL false X;omega
   |cons d t=>rw[yahb (d::t) false X h jc];omega
theorem yahc (h:nameB s=true):Lx true s [(1,s,[])]:=Lx.one (by decide:(1:Nat)≠0) fun p X hx=>by
 unfold nameB at h;obtain⟨h1,h2⟩:=Bool.and_eq_true_iff.1 h;have hne:s≠[]:=by rintro rfl;cases h1
 have hid:=yahb s true X h2 hne;rw[hx rfl,qc9] at hid
 match s,hne with
 |c::r,_=>
  have hc:letB c true=true:=by
   cases hl:letB c true with
   |false=>rw[zoy hl] at h2;cases h2
   |true=>rfl
  show tokL p (c::(r++X))=_;rw[zci hc];show some (Tok.mk 1 p (((c::r)++X).take (idL true ((c::r)++X))) [],p+idL true ((c::r)++X))=_;rw[hid,List.take_left]
theorem yalr {A B:List Shp}(ha:Lx q a A)(hb:Lx true b B):Lx true (a++([32,47,32]++b)) (A++(sg 3::B)):=
 (ha.gap ((z9w (c:=47) (k:=3) ja ja rfl ja).gap hb)).cast rfl rfl
def parX (b:Bool)(l:List Nat):List Nat:=par 40 41 b l
theorem yaj0 {b:Bool}{A:List Shp}(h:Lx true a A):Lx true (parX b a) (parT b A):=by
 cases b with
 |false=>exact h
 |true=>
  have h1:=(z9w (c:=41) (k:=10) ja ja rfl ja);have h2:=(z9w (c:=40) (k:=9) ja ja rfl ja).app (h.app h1 fun _ X=>zex ja) (fun e=>by cases e);exact(h2.cast (b:=parX true a) (B:=parT true A) rfl rfl).weak
def sufX (op:Int):Nat:=if op=7 then 63 else if op=5 then 42 else 43
def preX (op:Int):Nat:=if op=8 then 38 else 33
theorem yals (op:Int):Lx false [sufX op] [sg (sufT op)]/\∀X,idL false ([sufX op]++X)=0:=by
 unfold sufX sufT;split
 ·exact⟨z9w ja ja rfl ja,fun X=>zex ja⟩
 ·split
  ·exact⟨z9w ja ja rfl ja,fun X=>zex ja⟩
  ·exact⟨z9w ja ja rfl ja,fun X=>zex ja⟩
theorem yalt (op:Int):Lx false [preX op] [sg (preT op)]:=by
 unfold preX preT;split
 ·exact z9w ja ja rfl ja
 ·exact z9w ja ja rfl ja
section
variable (ns:List PN) (nm:Int->List Nat) (cx:PN->List Nat)
def inX (n:PN)(rec:Nat->Int->List Nat):List Nat:=
 if n.op=0 then [39,39]
 else if n.op=1 then cx n
 else if n.op=2 then nm n.rule
 else if n.op=3 then joinT [32] (n.kids.map (rec 1))
 else if n.op=4 then joinT [32,47,32] (n.kids.map fun k=>parX (decide (opAt ns k=4)) (rec 0 k))
 else if n.op=8∨n.op=9 then preX n.op::n.kids.flatMap (rec 2)
 else n.kids.flatMap (rec 3)++[sufX n.op]
def txF:Nat->Nat->Int->List Nat
 |0,_,_=>[]
 |f+1,pl,i=>match ns[i.toNat]? with
  |some n=>parX (parB n.op pl) (inX ns nm cx n (txF f))
  |none=>[]
def tx (pl:Nat)(i:Int):List Nat:=txF ns nm cx (i.toNat+1) pl i
end
section
variable {ns:List PN} {nm:Int->List Nat} {ct:PN->Shp} {cx:PN->List Nat}
theorem yadt {f g:Nat->Int->List Nat}(h:∀pl k,k ∈ n.kids->f pl k=g pl k):inX ns nm cx n f=inX ns nm cx n g:=by
 unfold inX;rw[qb9 (f:=f 1) (g:=g 1) fun k hk=>h 1 k hk,z9d fun k hk=>h 2 k hk,z9d fun k hk=>h 3 k hk,qb9 (f:=fun k=>parX (decide (opAt ns k=4)) (f 0 k)) (g:=fun k=>parX (decide (opAt ns k=4)) (g 0 k)) fun k hk=>by rw[h 0 k hk]]
theorem yafh (hk:zdo ns):∀(f g pl:Nat) (i:Int),i<f->i<g->0<=i->txF ns nm cx f pl i=txF ns nm cx g pl i
 |0,_,_,i,h,_,h0=>U
 |_+1,0,_,i,_,h,h0=>U
 |f+1,g+1,pl,i,hf,hg,h0=>by
  unfold txF;cases hn:ns[i.toNat]? with
  |none=>rfl
  |some n=>
   dsimp only;rw[yadt fun pl k hm=>?_];have:=hk _ n hn k hm;exact yafh hk f g pl k U U this.1
theorem tx_eq (hk:zdo ns){i:Nat}(hn:ns[i]?=some n)(pl:Nat):tx ns nm cx pl (i:Int)=parX (parB n.op pl) (inX ns nm cx n (tx ns nm cx)):=by
 unfold tx;rw[qa8];show(match ns[(i:Int).toNat]? with|some n=>parX (parB n.op pl) (inX ns nm cx n (txF ns nm cx i))|none=>[])=_;rw[qa8,hn];dsimp only;rw[yadt fun pl k hm=>?_];have:=hk _ n hn k hm;exact yafh hk _ _ pl k U U this.1
theorem yaj1 {f:Int->List Nat}{F:Int->List Shp}:∀ {l:List Int},l≠[]->(∀k,k ∈ l->Lx true (f k) (F k))->Lx true (joinT [32] (l.map f)) (l.flatMap F)
 | [],h,_=>absurd rfl h
 | [k],_,h=>by
  rw[qat,qbu,qa6];exact h k qap
 |k::x::r,_,h=>by
  have ih:=yaj1 (l:=x::r) jc fun y hy=>h y (qa9 _ hy)
  rw[qat];exact(h k qap).gap ih
theorem yaj2 {f:Int->List Nat}{F:Int->List Shp}:∀ {l:List Int},l≠[]->(∀k,k ∈ l->Lx true (f k) (F k))->Lx true (joinT [32,47,32] (l.map f)) (joinT [sg 3] (l.map F))
 | [],h,_=>absurd rfl h
 | [k],_,h=>h k qap
 |k::x::r,_,h=>yalr (h k qap) (yaj2 (l:=x::r) jc fun y hy=>h y (qa9 _ hy))
theorem yada (hv:GVal ns ct)(hc:∀(i:Nat) (n:PN),ns[i]?=some n->n.op=1->Lx false (cx n) [ct n])(hnm:∀(i:Nat) (n:PN),ns[i]?=some n->n.op=2->nameB (nm n.rule)=true) :
  ∀(m i pl:Nat),i<m->i<ns.length->Lx true (tx ns nm cx pl (i:Int)) (tk ns nm ct pl (i:Int))
 |0,_,_,h,_=>absurd h (qa3 _)
 |m+1,i,pl,hi,hl=>by
  obtain⟨n,hn⟩:∃n,ns[i]?=some n:=⟨_,qae hl⟩;have hkid:∀(pl:Nat) (k:Int),k ∈ n.kids->Lx true (tx ns nm cx pl k) (tk ns nm ct pl k):=fun pl k hk=>by
   have hb:=hv.kb i n hn k hk;have h:=yada hv hc hnm m k.toNat pl U U;rwa [qbe hb.1] at h
  rw[tx_eq hv.kb hn,tk_eq hv.kb hn];refine yaj0 ?_;obtain⟨R,hR⟩:=hv.made i n hn;unfold inX inT;rcases z9h hR with⟨h0,-⟩|⟨h0,-⟩|⟨h0,-⟩|⟨h0,h2,-⟩|⟨h0,k,hk,-⟩
  ·rw[if_pos h0,if_pos h0]
   exact yai2.weak
  ·rw[if_neg U,if_pos h0,if_neg U,if_pos h0]
   exact(hc i n hn h0).weak
  ·rw[if_neg U,if_neg U,if_pos h0,if_neg U,if_neg U,if_pos h0]
   exact yahc (hnm i n hn h0)
  ·have hne:n.kids≠[]:=by intro e;rw[e] at h2;exact absurd h2 ja
   by_cases h3:n.op=3
   ·rw[if_neg U,if_neg U,if_neg U,if_pos h3,if_neg U,if_neg U,if_neg U,if_pos h3]
    exact yaj1 hne fun k hk=>hkid 1 k hk
   ·have h4:n.op=4:=U
    rw[if_neg U,if_neg U,if_neg U,if_neg h3,if_pos h4,if_neg U,if_neg U,if_neg U,if_neg h3,if_pos h4];exact yaj2 hne fun k hk=>yaj0 (hkid 0 k hk)
  ·have hm:k ∈ n.kids:=by rw[hk];exact qap
   rw[hk];simp only[qat,qbu,qa6];by_cases h8:n.op=8∨n.op=9
   ·rw[if_neg U,if_neg U,if_neg U,if_neg U,if_neg U,if_pos h8,if_neg U,if_neg U,if_neg U,if_neg U,if_neg U,if_pos h8]
    exact(yalt n.op).app (hkid 2 k hm) (fun e=>by cases e)
   ·rw[if_neg U,if_neg U,if_neg U,if_neg U,if_neg U,if_neg h8,if_neg U,if_neg U,if_neg U,if_neg U,if_neg U,if_neg h8]
    have h:=yals n.op;exact((hkid 3 k hm).app h.1 fun _=>h.2).weak
def fileX (ns:List PN)(nm:Int->List Nat)(cx:PN->List Nat)(rs:List PR):List Nat:=rs.flatMap fun r=>bts r.name++([32,60,45,32]++(tx ns nm cx 0 r.root++[10]))
theorem yadu (hv:GVal ns ct)(hc:∀(i:Nat) (n:PN),ns[i]?=some n->n.op=1->Lx false (cx n) [ct n])(hnm:∀(i:Nat) (n:PN),ns[i]?=some n->n.op=2->nameB (nm n.rule)=true) :
  ∀(rs:List PR) (g:List Nat) (p:Nat),Spc g->(∀r,r ∈ rs->nameB (bts r.name)=true/\0<=r.root/\r.root<ns.length)->∃ts e,ts.map shp=fileT ns nm ct rs/\e.kind=0/\Seg (g++fileX ns nm cx rs) p (ts++[e])
 | [],g,p,hg,_=>⟨[],_,rfl,rfl,by
  show Seg (g++[]) p [_];rw[qa6];exact Seg.fin hg⟩
 |r::t,g,p,hg,h=>by
  obtain⟨h1,h2,h3⟩:=h r qap;have hn:=yada hv hc hnm (r.root.toNat+1) r.root.toNat 0 (qas _) U;rw[qbe h2] at hn;have hr:=(yahc h1).gap (yai1.gap hn);obtain⟨t2,e,e2,he,s2⟩:=yadu hv hc hnm t [10] (p+g.length+(bts r.name++32::([60,45]++32::tx ns nm cx 0 r.root)).length) (zy5 (.inr (.inr (.inl rfl))) zul) fun q hq=>h q (qa9 _ hq)
  obtain⟨t1,e1,s1⟩:=hr g _ p _ hg (fun _=>zex ja) s2;refine⟨t1++t2,e,?_,he,?_⟩
  ·rw[qa5,e1,e2,yaaf]
   rfl
  ·have ee:fileX ns nm cx (r::t)=(bts r.name++32::([60,45]++32::tx ns nm cx 0 r.root))++([10]++fileX ns nm cx t):=by
    unfold fileX;rw[qat];simp
   rw[ee,qao t1];exact s1
end
theorem yahd {ct:PN->Shp}{cx:PN->List Nat}(hk:chkL rs ns=.ok)(hc:∀(i:Nat) (n:PN),ns[i]?=some n->n.op=1->ClsTok (ct n) n/\Lx false (cx n) [ct n]) :
  ∃rs' f,zaz (fileX ns (nmOf rs) cx rs)=.ok rs' f/\dupO rs'=none/\undO (nmR rs') f=none/\zam rs'=rs/\zan (nmR rs') (nmC f) f.nodes=ns:=by
 obtain⟨h1,h2,h3,h4,h5,h6,h7⟩:=z3k hk;have hmade:∀(i:Nat) (n:PN),ns[i]?=some n->madeB n rs.length=true:=fun i n hn=>by
  have:=h5 i (qag.1 hn).1;unfold zbv at this;rw[hn] at this;simpa using this
 have hv:GVal ns ct:=⟨zuh h6,fun i n hn=>⟨rs.length,hmade i n hn⟩,fun i n hn h=>(hc i n hn h).1⟩;have hname:∀(i:Nat) (r:PR),rs[i]?=some r->nameB (bts r.name)=true:=fun i r hr=>by
  have:=h4 i (qag.1 hr).1;unfold zbp at this;rw[hr] at this;have:=(Bool.or_eq_false_iff.1 this).2;simpa using this
 have hnm:∀(i:Nat) (n:PN),ns[i]?=some n->n.op=2->nameB (nmOf rs n.rule)=true:=fun i n hn h2=>by
  rcases z9h (hmade i n hn) with⟨h0,-⟩|⟨h0,-⟩|⟨-,-,ha,hb,-⟩|⟨h0,-⟩|⟨h0,-⟩
  ·omega
  ·omega
  ·obtain⟨r,hr⟩:∃r,rs[n.rule.toNat]?=some r:=⟨_,qae U⟩
   unfold nmOf;rw[hr];exact hname _ r hr
  ·omega
  ·omega
 have hroot:∀r,r ∈ rs->0<=r.root/\r.root<ns.length:=fun r hr=>by
  have key:∀(l:List PR) (b:Int),ordR ns l b=true->∀r,r ∈ l->b<r.root/\r.root<ns.length:=by
   intro l
   induction l with
   |nil=>intro b _ r hr;cases hr
   |cons x t ih=>
    intro b ho r hr;obtain⟨a1,a2,-,a4⟩:=zuf ho;rcases qbk.1 hr with rfl|hr
    ·exact⟨a1,a2⟩
    ·have:=ih _ a4 r hr
     exact⟨U,this.2⟩
  have:=key rs (-1) h6 r hr;exact⟨U,this.2⟩
 obtain⟨ts,e,e1,he,hs⟩:=yadu hv (fun i n hn h=>(hc i n hn h).2) hnm rs [] 0 zul fun r hr=>by
  obtain⟨i,hi⟩:=qc4 hr;exact⟨hname i r hi,hroot r hr⟩
 rw[qbi] at hs;have ht:=hs.toks _ List.drop_zero (qaj _);have hl:=zvm _ _ 0 _ (qac _) (qaj _) ht;exact yaf1 hk (fun i n hn h=>(hc i n hn h).1) he e1 hl
def runX (x:Nat × Nat):List Nat:=formL x.1 true++((if 2<x.2-x.1+1 then [45] else [])++(if 1<x.2-x.1+1 then formL x.2 true else []))
def runR (x:Nat × Nat):List (Nat × Nat):=if x.2-x.1+1=2 then [(x.1,x.1),(x.2,x.2)] else [(x.1,x.2)]
def clsX (f:Nat->Bool):List Nat:=if (memb f 256).length=256 then [46] else if (memb f 256).length=1 then 39::((memb f 256).flatMap (fun c=>formL c false)++[39]) else 91::((z85 f 256).flatMap runX++[93])
def clsT (f:Nat->Bool):Shp:=if (memb f 256).length=256 then (11,[],[]) else if (memb f 256).length=1 then (12,memb f 256,[]) else (13,[],(z85 f 256).flatMap runR)
theorem yaba {f g:Nat->Bool}(h:∀i,i<256->f i=g i):clsN f=clsN g:=by
 unfold clsN;rw[ziw (k:=0) U h,ziw (k:=1) U h,ziw (k:=2) U h,ziw (k:=3) U h]
theorem yabb (c:Nat):∃d t,formL c true=d::t/\d≠93/\d≠45:=by
 unfold formL;split
 ·exact⟨_,_,rfl,ja,ja⟩
 split
 ·exact⟨_,_,rfl,ja,ja⟩
 split
 ·exact⟨_,_,rfl,ja,ja⟩
 split
 ·exact⟨_,_,rfl,ja,ja⟩
 rename_i h1 h2 h3 h4;split
 ·exact⟨_,_,rfl,ja,ja⟩
 ·rename_i h5
  exact⟨_,_,rfl,fun e=>h4 (.inr (.inl ⟨rfl,.inr e⟩)),fun e=>h5 (.inr (.inr ⟨rfl,e⟩))⟩
theorem yael {c:Nat}(hc:c<256)(Y:List Nat)(hY:Y.head?≠some 45):clsL (formL c true++Y)=(clsL Y).map fun x=>((c,c)::x.1,(formL c true).length+x.2):=by
 obtain⟨d,t,e,h1,-⟩:=yabb c;have hr:=yabn c true hc Y;have hdr:(formL c true++Y).drop (formL c true).length=Y:=qe1;rw[e] at hr hdr ⊢;rw[qbt] at hr hdr ⊢;rw[zdw hr h1 (fun t' ht=>by rw[hdr] at ht;rw[ht] at hY;exact absurd rfl hY),hdr]
theorem yahe {a b:Nat}(ha:a<256)(hb:b<256)(Y:List Nat):clsL (formL a true++(45::(formL b true++Y)))=(clsL Y).map fun x=>((a,b)::x.1,(formL a true).length+1+(formL b true).length+x.2):=by
 obtain⟨d,t,e,h1,-⟩:=yabb a;have hr:=yabn a true ha (45::(formL b true++Y));have hdr:(formL a true++(45::(formL b true++Y))).drop (formL a true).length=45::(formL b true++Y):=qe1;have hd2:(formL a true++(45::(formL b true++Y))).drop ((formL a true).length+1+(formL b true).length)=Y:=by
  rw[qds,<-qb1,hdr,Nat.add_comm 1,List.drop_succ_cons,qe1]
 have hb2:=yabn b true hb Y;rw[e] at hr hdr hd2 ⊢;rw[qbt] at hr hdr hd2 ⊢;rw[zd4 hr h1 hdr hb2,hd2]
theorem yab6 (c:Nat)(Y:List Nat):(formL c true++Y).head?≠some 45:=by
 obtain⟨d,t,e,-,h2⟩:=yabb c;rw[e];show some d≠some 45;intro h;exact h2 (qar h)
theorem yako {a b:Nat}(ha:a<=b)(hb:b<256)(Y:List Nat)(hY:Y.head?≠some 45):clsL (runX (a,b)++Y)=(clsL Y).map fun x=>(runR (a,b)++x.1,(runX (a,b)).length+x.2):=by
 unfold runX runR;dsimp only;rcases(by omega:b-a+1=1∨b-a+1=2∨2<b-a+1) with h|h|h
 ·obtain rfl:a=b:=U
  rw[if_neg U,if_neg U,if_neg U,qa6,qa6,yael hb Y hY];rfl
 ·rw[if_neg U,if_pos U,if_pos h,qbi,qao,yael U _ (yab6 b Y),yael hb Y hY]
  cases clsL Y with
  |none=>rfl
  |some x=>
   simp only[qfz,qbt,qbi,qad];congr 2;omega
 ·rw[if_pos h,if_pos U,if_neg U,qao,qao]
  show clsL (formL a true++(45::(formL b true++Y)))=_;rw[yahe U hb];cases clsL Y with
  |none=>rfl
  |some x=>
   simp only[qfz,qbt,qbi,qad,qah];congr 2;omega
theorem yahf (x:Nat × Nat)(Y:List Nat):(runX x++Y).head?≠some 45:=by
 unfold runX;rw[qao];exact yab6 _ _
theorem yafi (X:List Nat):∀l:List (Nat × Nat),(∀x,x ∈ l->x.1<=x.2/\x.2<256)->clsL (l.flatMap runX++93::X)=some (l.flatMap runR,(l.flatMap runX).length+1)
 | [],_=>zh6
 |(a,b)::l,h=>by
  obtain⟨h1,h2⟩:=h (a,b) qap;have ih:=yafi X l fun x hx=>h x (qa9 _ hx)
  rw[qat,qat,qao,yako h1 h2 _ (by
   cases l with
   |nil=>exact(by decide:some 93≠some 45)
   |cons y r=>rw[qat,qao];exact yahf y _),ih,qad,qds]
  rfl
theorem yai3 (a b:List (Nat × Nat))(i:Nat):inRs (a++b) i=(inRs a i || inRs b i):=by
 unfold inRs;rw[qdm]
theorem yai4 (x:Nat × Nat)(h:x.1<=x.2)(i:Nat):inRs (runR x) i=decide (x.1<=i/\i<=x.2):=by
 unfold runR;split
 ·show(decide (x.1<=i/\i<=x.1) || (decide (x.2<=i/\i<=x.2) || false))=_
  rw[qc2,<-Bool.decide_or];exact decide_eq_decide.2 U
 ·show(decide (x.1<=i/\i<=x.2) || false)=_
  rw[qc2]
theorem yadv (i:Nat):∀l:List (Nat × Nat),(∀x,x ∈ l->x.1<=x.2)->inRs (l.flatMap runR) i=l.any fun x=>decide (x.1<=i/\i<=x.2)
 | [],_=>rfl
 |x::l,h=>by
  rw[qat,yai3,yai4 x (h x qap),yadv i l fun y hy=>h y (qa9 _ hy)];rfl
theorem z9n (f:Nat->Bool)(i:Nat):∀k,k<=256->((∀x,x ∈ z85 f k->x.1<=x.2)/\(z85 f k).any (fun x=>decide (x.1<=i/\i<=x.2))=(decide (i<k)&&f i))
 |0,_=>⟨fun x hx=>by simp[z85] at hx,by simp[z85]⟩
 |k+1,hk=>by
  obtain⟨h1,h2⟩:=z9n f i k U;unfold z85;cases hf:f k with
  |false=>
   refine⟨h1,?_⟩;show(z85 f k).any _=_;rw[h2];by_cases hik:i=k
   ·subst hik
    rw[hf,qdv,qdv]
   ·rw[show decide (i<k+1)=decide (i<k) from decide_eq_decide.2 U]
  |true=>
   rw[if_pos rfl];rcases yaaq (z85 f k) with h|⟨l,a,b,h⟩
   ·rw[h] at h2 ⊢
    rw[z94];refine⟨fun x hx=>by rw[qam.1 hx];exact qac _,?_⟩;show(decide (k<=i/\i<=k) || false)=_;have h2:false=(decide (i<k)&&f i):=h2;by_cases hik:i=k
    ·subst hik;rw[hf];simp
    ·rw[decide_eq_false U,qc2,h2,show decide (i<k+1)=decide (i<k) from decide_eq_decide.2 U]
   ·obtain⟨hfb,hbk⟩:=yadi f k l a b h
    rw[h] at h1 h2 ⊢;have hab:=h1 (a,b) jc;rw[qdm] at h2;have h2:(l.any (fun x=>decide (x.1<=i/\i<=x.2)) || (decide (a<=i/\i<=b) || false))=(decide (i<k)&&f i):=h2;rw[qc2] at h2;rw[z9e];split
    ·rename_i hb
     have hkb:k=b+1:=U
     refine⟨fun x hx=>?_,?_⟩
     ·rcases qau.1 hx with hx|hx
      ·exact h1 x (List.mem_append_left _ hx)
      ·rw[qam.1 hx];show a<=k;have:a<=b:=hab;omega
     ·rw[qdm]
      show(l.any _ || (decide (a<=i/\i<=k) || false))=_;rw[qc2];by_cases hik:i=k
      ·subst hik
       have:a<=b:=hab;rw[decide_eq_true (by omega:a<=i/\i<=i),Bool.or_true,hf,decide_eq_true (by omega:i<i+1)];rfl
      ·rw[show decide (a<=i/\i<=k)=decide (a<=i/\i<=b) from decide_eq_decide.2 U,h2,show decide (i<k+1)=decide (i<k) from decide_eq_decide.2 U]
    ·refine⟨fun x hx=>?_,?_⟩
     ·rcases qau.1 hx with hx|hx
      ·exact h1 x hx
      ·rw[qam.1 hx];exact qac _
     ·rw[qdm,qdm]
      show((l.any _ || (decide (a<=i/\i<=b) || false)) || (decide (k<=i/\i<=k) || false))=_;rw[qc2,qc2,h2];by_cases hik:i=k
      ·subst hik
       rw[decide_eq_true (by omega:i<=i/\i<=i),Bool.or_true,hf,decide_eq_true (by omega:i<i+1)];rfl
      ·rw[decide_eq_false (by omega:¬(k<=i/\i<=k)),qc2,show decide (i<k+1)=decide (i<k) from decide_eq_decide.2 U]
theorem yai5 {f:Nat->Bool}{x:Nat}(h:x ∈ memb f 256):x<256:=(z9v.1 h).1
theorem yaj3 (f:Nat->Bool):Lx false (clsX f) [clsT f]:=by
 unfold clsX clsT;split
 ·exact z9w (c:=46) (k:=11) ja ja rfl ja
 ·split
  ·rename_i h1
   obtain⟨b,hb⟩:=qet.1 h1;have hlt:b<256:=yai5 (f:=f) (by rw[hb];exact qap);rw[hb,qat,qbu,qa6];refine Lx.one (by decide:(12:Nat)≠0) fun k X _=>?_
   show tokL k (39::((formL b false++[39])++X))=_;obtain⟨d,t,e,hd⟩:=yagp b;have hr:=yabn b false hlt ([39]++X);have hdr:(formL b false++([39]++X)).drop (formL b false).length=[39]++X:=qe1;have hl:litE 39 (formL b false++([39]++X))=some ([b],(formL b false).length+1):=by
    rw[e] at hr hdr ⊢;rw[qbt] at hr hdr ⊢;rw[zdj hr hd,hdr];show(litE 39 (39::X)).map _=_;rw[zff];rfl
   rw[zda (.inl rfl),qao,hl];show some (Tok.mk 12 k [b] [],k+1+((formL b false).length+1))=_;rw[qah,qad,qai,show k+((formL b false).length+1+1)=k+1+((formL b false).length+1) by omega]
  ·refine Lx.one (by decide:(13:Nat)≠0) fun k X _=>?_
   show tokL k (91::(((z85 f 256).flatMap runX++[93])++X))=_;rw[zc9,qao];show(clsL ((z85 f 256).flatMap runX++93::X)).map _=_;rw[yafi X _ fun x hx=>⟨(z9n f 0 256 (qac _)).1 x hx,(yabp f 256 (qac _) x hx).2⟩];show some (Tok.mk 13 k [] _,k+1+(((z85 f 256).flatMap runX).length+1))=_;rw[qah,qad,qai,show k+(((z85 f 256).flatMap runX).length+1+1)=k+1+(((z85 f 256).flatMap runX).length+1) by omega]
theorem yahg {f:Nat->Bool}(h:n=clsN f):ClsTok (clsT f) n:=by
 unfold ClsTok clsT;subst h;split
 ·rename_i h1
  refine .inr (.inr ⟨rfl,yaba fun i hi=>?_⟩);have hsub:(memb f 256).length=(List.range 256).length:=by rw[h1,qdp]
  have heq:memb f 256=List.range 256:=(List.filter_sublist (l:=List.range 256) (p:=f)).eq_of_length hsub;have:i ∈ memb f 256:=by rw[heq];exact List.mem_range.2 hi
  exact(z9v.1 this).2.symm
 ·split
  ·rename_i h1
   obtain⟨b,hb⟩:=qet.1 h1;refine .inr (.inl ⟨b,by rw[hb],yaba fun i hi=>?_⟩);have hm:i ∈ memb f 256↔i=b:=by rw[hb];exact qam
   rw[z9v] at hm;cases hf:f i with
   |true=>exact decide_eq_true (hm.1 ⟨hi,hf⟩)
   |false=>exact decide_eq_false fun e=>by have:=(hm.2 e).2;rw[hf] at this;cases this
  ·refine .inl ⟨_,rfl,yaba fun i hi=>?_⟩
   rw[yadv i _ (z9n f i 256 (qac _)).1,(z9n f i 256 (qac _)).2,decide_eq_true hi,Bool.true_and]
def cxN (n:PN):List Nat:=clsX (bitF n)
def ctN (n:PN):Shp:=clsT (bitF n)
theorem yafj {R:Nat}(hm:madeB n R=true)(h1:n.op=1)(hw:z87 n):ClsTok (ctN n) n/\Lx false (cxN n) [ctN n]:=by
 refine⟨yahg ?_,yaj3 _⟩;obtain⟨w0,w1,w2,w3⟩:=yaby hw;rcases z9h hm with⟨h0,-⟩|⟨-,hk,hr⟩|⟨h0,-⟩|⟨h0,-⟩|⟨h0,-⟩
 ·omega
 ·refine(PN.eq_iff _ _).1 ⟨h1,hk,hr,?_,?_,?_,?_⟩
  ·exact w0
  ·exact w1
  ·exact w2
  ·exact w3
 ·omega
 ·omega
 ·omega
def z88 (rs:List PR)(ns:List PN):List Nat:=fileX ns (nmOf rs) cxN rs
theorem yab7 (hk:chkL rs ns=.ok)(hw:∀n,n ∈ ns->z87 n) :
  ∃rs' f,zaz (z88 rs ns)=.ok rs' f/\dupO rs'=none/\undO (nmR rs') f=none/\zam rs'=rs/\zan (nmR rs') (nmC f) f.nodes=ns:=
 yahd (ct:=ctN) hk fun i n hn h1=>by
  obtain⟨-,-,-,-,h5,-,-⟩:=z3k hk;have:=h5 i (qag.1 hn).1;unfold zbv at this;rw[hn] at this;exact yafj (R:=rs.length) (by simpa using this) h1 (hw n (qan hn))
theorem yab8 {α:Type}{sep:List α}:∀l:List (List α),(joinT sep l).length<=(l.map fun x=>x.length+sep.length).sum
 | []=>qaj _
 | [x]=>by
  rw[yab3];show x.length<=x.length+sep.length+0;omega
 |x::y::r=>by
  have ih:=yab8 (sep:=sep) (y::r);rw[z9g,qad,qad,qb2,qep];omega
theorem yafk (b:Bool)(l:List Nat):(parX b l).length<=l.length+2:=by
 unfold parX par;cases b
 ·show l.length<=_
  omega
 ·show(40::(l++[41])).length<=_
  rw[qah,qad,qai];omega
theorem yaar {f:Int->List Nat}:∀l:List Int,(l.flatMap f).length=(l.map fun k=>(f k).length).sum
 | []=>rfl
 |k::l=>by rw[qat,qad,qb2,qep,yaar l]
theorem yadw {α:Type}{f g:α->Nat}:∀l:List α,(∀x,x ∈ l->f x<=g x)->(l.map f).sum<=(l.map g).sum
 | [],_=>qac _
 |x::l,h=>by
  rw[qb2,qb2,qep,qep];have:=h x qap;have:=yadw l fun y hy=>h y (qa9 _ hy)
  omega
theorem yab9 {α:Type}{sep:List α}:∀(a b:List (List α)),a≠[]->b≠[]->joinT sep (a++b)=joinT sep a++(sep++joinT sep b)
 | [],_,h,_=>absurd rfl h
 | [_],[],_,h=>absurd rfl h
 | [_],_::_,_,_=>rfl
 |x::y::r,b,_,h=>by
  have ih:=yab9 (sep:=sep) (y::r) b jc h;rw[z9g,qbt,qbt,z9g,<-qbt,ih,qao,qao]
theorem yacu {α:Type}{sep:List α}{l:List (List α)}(h:l≠[])(x:List α):joinT sep (l++[x])=joinT sep l++(sep++x):=yab9 l [x] h jc
theorem yacv {α:Type}{sep:List α}(l:List (List α))(k:Nat):(joinT sep (l.take k)).length<=(joinT sep l).length:=by
 by_cases h1:l.take k=[]
 ·rw[h1];exact qaj _
 ·by_cases h2:l.drop k=[]
  ·have e:l.take k=l:=by
    have:=qdk k l;rw[h2,qa6] at this;exact this
   rw[e];exact qac _
  ·have e:=yab9 (sep:=sep) (l.take k) (l.drop k) h1 h2
   rw[qdk] at e;rw[e,qad];exact Nat.le_add_right _ _
def wSum (w:Nat->Nat):Nat->Nat
 |0=>0
 |j+1=>wSum w j+(w j+8)
theorem yadx (w:Nat->Nat){a:Nat}:∀ {b:Nat},a<=b->wSum w a<=wSum w b
 |0,h=>by
        obtain rfl:a=0:=U
        exact qac _
 |b+1,h=>by
  by_cases e:a=b+1
  ·rw[e];exact qac _
  ·have:=yadx w (show a<=b by omega)
   show _<=wSum w b+(w b+8);omega
section
variable {ns:List PN} {nm:Int->List Nat} {cx:PN->List Nat}
def ownX (nm:Int->List Nat)(cx:PN->List Nat)(n:PN):Nat:=if n.op=1 then (cx n).length else if n.op=2 then (nm n.rule).length else 2
theorem yafl {w:Nat->Nat}{f:Int->Nat}:∀(ks:List Int) (a b:Int),-1<=a->KC ns a ks b->(∀k,k ∈ ks->f k+5+wSum w (exL ns k+1).toNat<=wSum w (k+1).toNat)->(ks.map fun k=>f k+5).sum+wSum w (a+1).toNat<=wSum w (b+1).toNat
 | [],a,b,_,h,_=>by
  obtain rfl:a=b:=h;show 0+_<=_;omega
 |k::ks,a,b,ha,⟨h1,h2,h3,h4⟩,h=>by
  have hk:=h k qap;have ih:=yafl ks k b U h4 fun x hx=>h x (qa9 _ hx)
  rw[h1] at hk;rw[qb2,qep];omega
theorem yahh (hx:AllEx ns){w:Nat->Nat}(hw:∀(i:Nat) (n:PN),ns[i]?=some n->ownX nm cx n<=w i):∀(m i pl:Nat),i<m->i<ns.length->(tx ns nm cx pl (i:Int)).length+5+wSum w (exL ns i+1).toNat<=wSum w (i+1)
 |0,_,_,h,_=>absurd h (qa3 _)
 |m+1,i,pl,hi,hl=>by
  obtain⟨n,hn⟩:∃n,ns[i]?=some n:=⟨_,qae hl⟩;have hkb:=hx.kids;have hkc:=kc_of hx hn;have hex:=zj5 ns i (hx i U U);have hown:=hw i n hn;have ih:∀(pl:Nat) (k:Int),k ∈ n.kids->(tx ns nm cx pl k).length+5+wSum w (exL ns k+1).toNat<=wSum w (k+1).toNat:=fun pl k hk=>by
   have hb:=hkb i n hn k hk;have h:=yahh hx hw m k.toNat pl U U;rw[qbe hb.1] at h;rw[show(k+1).toNat=k.toNat+1 by omega];exact h
  have hsum:=fun pl=>yafl (w:=w) (f:=fun k=>(tx ns nm cx pl k).length) n.kids _ _ U hkc fun k hk=>ih pl k hk
  rw[show((i:Int)-1+1).toNat=i by omega] at hsum;have hin:(inX ns nm cx n (tx ns nm cx)).length+wSum w (exL ns i+1).toNat<=w i+1+wSum w i:=by
   have hm:=yadx w (a:=(exL ns i+1).toNat) (b:=i) U;unfold ownX at hown;unfold inX;by_cases h0:n.op=0
   ·rw[if_neg U,if_neg U] at hown
    rw[if_pos h0];show 2+_<=_;omega
   rw[if_neg h0];by_cases h1:n.op=1
   ·rw[if_pos h1] at hown ⊢
    omega
   rw[if_neg h1] at hown ⊢;by_cases h2:n.op=2
   ·rw[if_pos h2] at hown ⊢
    omega
   rw[if_neg h2] at hown ⊢;by_cases h3:n.op=3
   ·rw[if_pos h3]
    have h:=yab8 (sep:=[32]) (n.kids.map (tx ns nm cx 1));rw[qc0] at h;have h2:=yadw (f:=(fun x:List Nat=>x.length+[32].length) ∘ tx ns nm cx 1) (g:=fun k=>(tx ns nm cx 1 k).length+5) n.kids fun k _=>by
     show _+1<=_+5;omega
    have:=hsum 1;omega
   rw[if_neg h3];by_cases h4:n.op=4
   ·rw[if_pos h4]
    have h:=yab8 (sep:=[32,47,32]) (n.kids.map fun k=>parX (decide (opAt ns k=4)) (tx ns nm cx 0 k));rw[qc0] at h;have h2:=yadw (f:=(fun x:List Nat=>x.length+[32,47,32].length) ∘ fun k=>parX (decide (opAt ns k=4)) (tx ns nm cx 0 k)) (g:=fun k=>(tx ns nm cx 0 k).length+5) n.kids fun k _=>by
     have:=yafk (decide (opAt ns k=4)) (tx ns nm cx 0 k);show(parX _ _).length+3<=_+5;omega
    have:=hsum 0;omega
   rw[if_neg h4];by_cases h8:n.op=8∨n.op=9
   ·rw[if_pos h8,qah,yaar]
    have h2:=yadw (f:=fun k=>(tx ns nm cx 2 k).length) (g:=fun k=>(tx ns nm cx 2 k).length+5) n.kids fun k _=>U
    have:=hsum 2;omega
   ·rw[if_neg h8,qad,qai,yaar]
    have h2:=yadw (f:=fun k=>(tx ns nm cx 3 k).length) (g:=fun k=>(tx ns nm cx 3 k).length+5) n.kids fun k _=>U
    have:=hsum 3;omega
  rw[tx_eq hkb hn];have hp:=yafk (parB n.op pl) (inX ns nm cx n (tx ns nm cx));show _<=wSum w i+(w i+8);omega
theorem yaca (hx:AllEx ns){w:Nat->Nat}(hw:∀(i:Nat) (n:PN),ns[i]?=some n->ownX nm cx n<=w i):∀(rs:List PR) (b:Int),-1<=b->ordR ns rs b=true->(fileX ns nm cx rs).length+wSum w (b+1).toNat<=(rs.map fun r=>r.name.size+5).sum+wSum w ns.length
 | [],b,hb,h=>by
  have:b=(ns.length:Int)-1:=by simpa [ordR] using h
  show 0+_<=0+_;rw[this,show((ns.length:Int)-1+1).toNat=ns.length by omega];omega
 |r::t,b,hb,h=>by
  obtain⟨h1,h2,h3,h4⟩:=zuf h;have ih:=yaca hx hw t r.root U h4;have hr:=yahh (nm:=nm) (cx:=cx) hx hw (r.root.toNat+1) r.root.toNat 0 (qas _) U;rw[qbe (by omega:0<=r.root),h3] at hr;rw[show(r.root+1).toNat=r.root.toNat+1 by omega] at ih;have e:(fileX ns nm cx (r::t)).length=r.name.size+(4+((tx ns nm cx 0 r.root).length+1))+(fileX ns nm cx t).length:=by
   unfold fileX;rw[qat,qad,qad,qad,qad,zaj];rfl
  rw[e,qb2,qep];omega
end
theorem yafm (x:Nat × Nat):(runX x).length<=9:=by
 unfold runX;have h1:=z9a x.1 true;have h2:=z9a x.2 true;rw[qad,qad];split<;>split<;>simp only[qah,qbq]<;>omega
theorem yabr:∀l:List (Nat × Nat),(l.flatMap runX).length<=9*l.length
 | []=>qac _
 |x::l=>by
  have:=yafm x;have:=yabr l;rw[qat,qad,qah];omega
