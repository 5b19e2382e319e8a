/- The syntax of grammar files as plain functions on lists of tokens, in the reference's way (st) and in the program's; that both ways agree; how many nodes there  -/
import Derived.Test.YtmopdlbpkiaoeaaGreatDoorPqB
namespace Go.Proofs.YtmopdlbpkiaoeaaGreatDoor
open List renaming length_append->qad, length_cons->qah, mem_cons->qbk, mem_singleton->qam, prefix_append->qdj, prefix_rfl->qcw
open Nat renaming le_of_ble_eq_true->qd5, le_refl->qac, le_succ->qbh, zero_le->qaj
open Option renaming map_eq_some_iff->qa1
variable {st top:Bool}{l:List Nat}{a ts:List Tok}{k n p room:Nat}{t:Tok}
def strm (l:List Nat)(p:Nat):List Tok:=
 match nextL l p with
 |.error k=>[⟨99,k,[],[]⟩]
 |.ok (t,n)=>if t.kind=0 then [t] else if _h:p<n/\n<=l.length then t::strm l n else [t]
termination_by l.length-p
decreasing_by omega
theorem zcg (h:nextL l p=.error k):strm l p=[⟨99,k,[],[]⟩]:=by
 rw[strm,h]
theorem zbt (h:nextL l p=.ok (t,n))(ht:t.kind=0):strm l p=[t]:=by
 rw[strm,h];show(if t.kind=0 then _ else _)=_;rw[if_pos ht]
theorem zbe (h:nextL l p=.ok (t,n))(ht:t.kind≠0)(hn:p<n/\n<=l.length):strm l p=t::strm l n:=by
 conv=>lhs;rw[strm,h]
 show(if t.kind=0 then _ else if _h:p<n/\n<=l.length then _ else _)=_;rw[if_neg ht,dif_pos hn]
theorem zvg:∀(l:List Nat) (n c i:Nat),idxL n l c=some i->i<n+l.length
 | [],n,c,i,h=>by cases h
 |x::r,n,c,i,h=>by
  rw[qah];by_cases hx:x=c
  ·rw[zh8 hx] at h;cases h;omega
  ·rw[zle hx] at h
   have:=zvg r (n+1) c i h;omega
theorem zvh (h:tokL k l=some (t,n)):t.kind<=13:=by
 cases l with
 |nil=>rw[zcp] at h;cases h;exact qd5 rfl
 |cons c r=>
  rw[zdk] at h;split at h
  ·cases h;exact qd5 rfl
  ·split at h
   ·cases h;exact qd5 rfl
   ·split at h
    ·rename_i i hi
     have:=zvg _ _ _ _ hi;cases h;show i<=13;have e:sigs.length=9:=rfl;omega
    ·split at h
     ·obtain⟨x,-,e⟩:=qa1.1 h;cases e;exact qd5 rfl
     ·split at h
      ·obtain⟨x,-,e⟩:=qa1.1 h;cases e;exact qd5 rfl
      ·cases h
theorem zd8 (h:nextL l p=.ok (t,n)):t.kind<=13:=by
 unfold nextL at h;split at h
 ·split at h
  ·rename_i x hx
   cases h;exact zvh hx
  ·cases h
 ·cases h
def kd (ts:List Tok):Nat:=match ts with
 | []=>0
 |t::_=>t.kind
structure MF where
 nodes:List PN
 calls:List (List Nat × Nat)
def lastI (f:MF):Int:=(f.nodes.length:Int)-1
def mkN (op:Int)(kids:List Int):PN:=⟨op,kids,0,0,0,0,0⟩
def clsN (g:Nat->Bool):PN:=⟨1,[],0,setW g 0,setW g 1,setW g 2,setW g 3⟩
def callN (i:Nat):PN:=⟨2,[],(i:Int),0,0,0,0⟩
def addN (f:MF)(n:PN):MF:=⟨f.nodes++[n],f.calls⟩
def callF (f:MF)(t:Tok):MF:=⟨f.nodes++[callN f.calls.length],f.calls++[(t.text,t.at_)]⟩
def joinN (f:MF)(op:Int)(kids:List Int):MF:=match kids with
 | []=>addN f (mkN 0 [])
 | [_]=>f
 |_::_::_=>addN f (mkN op kids)
def litF:MF->List Nat->List Int->MF × List Int
 |f,[],ks=>(f,ks)
 |f,c::r,ks=>litF (addN f (clsN (fun i=>decide (i=c)))) r (ks++[(f.nodes.length:Int)])
def litN (f:MF)(text:List Nat):MF:=joinN (litF f text []).1 3 (litF f text []).2
inductive PO where
 |ok (ts:List Tok) (f:MF)
 |bad (ts:List Tok) (deep:Bool)
def PO.bind (o:PO)(k:List Tok->MF->PO):PO:=match o with
 |.ok ts f=>k ts f
 |.bad ts d=>.bad ts d
theorem PO.bind_ok (ts:List Tok)(f:MF)(k:List Tok->MF->PO):(PO.ok ts f).bind k=k ts f:=rfl
theorem PO.bind_bad (ts:List Tok)(d:Bool)(k:List Tok->MF->PO):(PO.bad ts d).bind k=.bad ts d:=rfl
def acc (st:Bool)(ts:List Tok)(f:MF):PO:=if st=false/\kd ts=99 then .bad ts false else .ok ts f
def closL (st:Bool)(c:List Tok)(d:MF):PO:=if kd c=10 then acc st c.tail d else .bad c false
def primL (st:Bool)(room:Nat)(rec:List Tok->MF->PO)(ts:List Tok)(f:MF):PO:=
 match ts with
 | []=>.bad [] false
 |t::tl=>
  if t.kind=1 then (if st=true/\(kd tl=2∨kd tl=99) then .bad tl false else acc st tl (callF f t))
  else if t.kind=9 then (if room=0 then .bad (t::tl) true else (acc st tl f).bind fun a b=>(rec a b).bind fun c d=>closL st c d)
  else if t.kind=12 then acc st tl (litN f t.text)
  else if t.kind=13 then acc st tl (addN f (clsN (inRs t.rs)))
  else if t.kind=11 then acc st tl (addN f (clsN (fun _=>true)))
  else .bad (t::tl) false
def sufOp (k:Nat):Int:=if k=6 then 7 else if k=7 then 5 else 6
def sufK (st:Bool)(ts:List Tok)(f:MF):PO:=if 6<=kd ts/\kd ts<=8 then acc st ts.tail (addN f (mkN (sufOp (kd ts)) [lastI f])) else .ok ts f
def sufL (st:Bool)(room:Nat)(rec:List Tok->MF->PO)(ts:List Tok)(f:MF):PO:=(primL st room rec ts f).bind (sufK st)
def preOp (k:Nat):Int:=if k=4 then 8 else 9
def preL (st:Bool)(room:Nat)(rec:List Tok->MF->PO)(ts:List Tok)(f:MF):PO:=
 if kd ts=4∨kd ts=5 then (acc st ts.tail f).bind fun a b=>(sufL st room rec a b).bind fun c d=>.ok c (addN d (mkN (preOp (kd ts)) [lastI d])) else sufL st room rec ts f
def begB (top:Bool)(ts:List Tok):Bool:=
 if kd ts=1 then !(top&&kd ts.tail == 2) else decide (kd ts=4∨kd ts=5∨kd ts=9∨kd ts=11∨kd ts=12∨kd ts=13)
def zb8 (top:Bool)(pre:List Tok->MF->PO):Nat->List Tok->MF->List Int->PO
 |0,ts,_,_=>.bad ts false
 |n+1,ts,f,ks=>if begB top ts=true then (pre ts f).bind fun a g=>zb8 top pre n a g (ks++[lastI g]) else .ok ts (joinN f 3 ks)
def altsL (st:Bool)(sq:List Tok->MF->PO):Nat->List Tok->MF->List Int->PO
 |0,ts,_,_=>.bad ts false
 |n+1,ts,f,ks=>(sq ts f).bind fun a g=>if kd a=3 then (acc st a.tail g).bind fun b h=>altsL st sq n b h (ks++[lastI g]) else .ok a (joinN g 4 (ks++[lastI g]))
def seqL (top:Bool)(pre:List Tok->MF->PO)(ts:List Tok)(f:MF):PO:=zb8 top pre (ts.length+1) ts f []
def exprL (st:Bool):Nat->Bool->List Tok->MF->PO
 |0,top,ts,f=>altsL st (seqL top (preL st 0 fun a _=>.bad a false)) (ts.length+1) ts f []
 |r+1,top,ts,f=>altsL st (seqL top (preL st (r+1) (exprL st r false))) (ts.length+1) ts f []
def inL (st:Bool):Nat->List Tok->MF->PO
 |0=>fun a _=>.bad a false
 |r+1=>exprL st r false
theorem zgi (st:Bool)(r:Nat)(top:Bool)(ts:List Tok)(f:MF):exprL st r top ts f=altsL st (seqL top (preL st r (inL st r))) (ts.length+1) ts f []:=by
 cases r<;>rfl
theorem zbw {pre:List Tok->MF->PO}{f:MF}{ks:List Int}(h:begB top ts=true):zb8 top pre (n+1) ts f ks=(pre ts f).bind fun a g=>zb8 top pre n a g (ks++[lastI g]):=if_pos h
theorem za7 {pre:List Tok->MF->PO}{f:MF}{ks:List Int}(h:begB top ts=false):zb8 top pre (n+1) ts f ks=.ok ts (joinN f 3 ks):=if_neg (by rw[h];decide)
theorem zch (st:Bool)(sq:List Tok->MF->PO)(n:Nat)(ts:List Tok)(f:MF)(ks:List Int):altsL st sq (n+1) ts f ks=(sq ts f).bind fun a g=>if kd a=3 then (acc st a.tail g).bind fun b h=>altsL st sq n b h (ks++[lastI g]) else .ok a (joinN g 4 (ks++[lastI g])):=rfl
def Rel (p r:PO):Prop:=match p,r with
 |.ok ts f,.ok ts' f'=>ts=ts'/\f=f'/\kd ts≠99
 |.ok ts _,.bad ts' d=>ts=ts'/\d=false/\kd ts=2
 |.bad ts d,.bad ts' d'=>ts=ts'/\d=d'
 |.bad ts d,.ok ts' _=>ts=ts'/\d=false/\kd ts=99
theorem Rel.same (ts:List Tok)(d:Bool):Rel (.bad ts d) (.bad ts d):=⟨rfl,rfl⟩
theorem Rel.acc (ts:List Tok)(f:MF):Rel (acc false ts f) (acc true ts f):=by
 unfold Go.Proofs.YtmopdlbpkiaoeaaGreatDoor.acc;by_cases h:kd ts=99
 ·rw[if_pos ⟨rfl,h⟩,if_neg jc];exact⟨rfl,rfl,h⟩
 ·rw[if_neg (by simp[h]),if_neg jc];exact⟨rfl,rfl,h⟩
theorem Rel.accb {f:MF}{j k:List Tok->MF->PO}(h:kd ts≠99->Rel (j ts f) (k ts f))(h99:kd ts=99->Rel (.bad ts false) (k ts f)):Rel ((Go.Proofs.YtmopdlbpkiaoeaaGreatDoor.acc false ts f).bind j) ((Go.Proofs.YtmopdlbpkiaoeaaGreatDoor.acc true ts f).bind k):=by
 unfold Go.Proofs.YtmopdlbpkiaoeaaGreatDoor.acc;by_cases e:kd ts=99
 ·rw[if_pos ⟨rfl,e⟩,if_neg jc];exact h99 e
 ·rw[if_neg (by simp[e]),if_neg jc];exact h e
theorem Rel.bind {p r:PO}{j k:List Tok->MF->PO}(h:Rel p r)(hjk:∀ts f,kd ts≠99->Rel (j ts f) (k ts f))
  (h2:∀ts f,kd ts=2->Rel (j ts f) (.bad ts false)) (h99:∀ts f,kd ts=99->Rel (.bad ts false) (k ts f)):Rel (p.bind j) (r.bind k):=by
 cases p with
 |ok ts f=>
  cases r with
  |ok ts' f'=>obtain⟨rfl,rfl,h⟩:=h;exact hjk ts f h
  |bad ts' d=>obtain⟨rfl,rfl,h⟩:=h;exact h2 ts f h
 |bad ts d=>
  cases r with
  |ok ts' f'=>obtain⟨rfl,rfl,h⟩:=h;exact h99 ts f' h
  |bad ts' d'=>obtain⟨rfl,rfl⟩:=h;exact⟨rfl,rfl⟩
theorem Rel.clos (c:List Tok)(d:MF):Rel (closL false c d) (closL true c d):=by
 unfold closL;by_cases h:kd c=10
 ·rw[if_pos h,if_pos h];exact Rel.acc _ _
 ·rw[if_neg h,if_neg h];exact Rel.same _ _
theorem zpk {c:List Tok}{d:MF}(h:kd c≠10):closL st c d=.bad c false:=if_neg h
def RelF (p r:List Tok->MF->PO):Prop:=(∀ts f,kd ts≠99->Rel (p ts f) (r ts f))/\∀ts f,kd ts=99->r ts f=.bad ts false∨∃g,r ts f=.ok ts g
theorem RelF.at99 {p r:List Tok->MF->PO}(h:RelF p r)(ts:List Tok)(f:MF)(h9:kd ts=99):Rel (.bad ts false) (r ts f):=by
 rcases h.2 ts f h9 with e|⟨g,e⟩
 ·rw[e];exact Rel.same _ _
 ·rw[e];exact⟨rfl,rfl,h9⟩
theorem Rel.prim {p r:List Tok->MF->PO}(h:RelF p r):RelF (primL false room p) (primL true room r):=by
 refine⟨fun ts f _=>?_,fun ts f h9=>?_⟩
 ·cases ts with
  |nil=>exact Rel.same _ _
  |cons t tl=>
   unfold primL;dsimp only;by_cases h1:t.kind=1
   ·rw[if_pos h1,if_pos h1,if_neg jc]
    unfold Go.Proofs.YtmopdlbpkiaoeaaGreatDoor.acc;by_cases h99:kd tl=99
    ·rw[if_pos ⟨rfl,h99⟩,if_pos ⟨rfl,.inr h99⟩];exact Rel.same _ _
    ·rw[if_neg (by simp[h99])]
     by_cases h2:kd tl=2
     ·rw[if_pos ⟨rfl,.inl h2⟩];exact⟨rfl,rfl,h2⟩
     ·rw[if_neg (by simp[h2,h99]),if_neg jc];exact⟨rfl,rfl,h99⟩
   ·rw[if_neg h1,if_neg h1]
    by_cases h9:t.kind=9
    ·rw[if_pos h9,if_pos h9]
     by_cases hr:room=0
     ·rw[if_pos hr,if_pos hr];exact Rel.same _ _
     ·rw[if_neg hr,if_neg hr]
      have step:∀(ts:List Tok) (f:MF),kd ts≠99->Rel ((p ts f).bind fun c d=>closL false c d) ((r ts f).bind fun c d=>closL true c d):=fun ts f hk=>
       Rel.bind (h.1 ts f hk) (fun _ _ _=>Rel.clos _ _) (fun _ _ e=>by rw[zpk (by rw[e];decide)];exact Rel.same _ _) (fun _ _ e=>by rw[zpk (by rw[e];decide)];exact Rel.same _ _)
      unfold Go.Proofs.YtmopdlbpkiaoeaaGreatDoor.acc;by_cases h99:kd tl=99
      ·rw[if_pos ⟨rfl,h99⟩,if_neg jc]
       show Rel (.bad tl false) ((r tl f).bind _);rcases h.2 tl f h99 with e|⟨g,e⟩
       ·rw[e];exact Rel.same _ _
       ·rw[e]
        show Rel _ (closL true tl g);rw[zpk (by rw[h99];decide)];exact Rel.same _ _
      ·rw[if_neg (by simp[h99]),if_neg jc]
       exact step tl f h99
    ·rw[if_neg h9,if_neg h9]
     by_cases h12:t.kind=12
     ·rw[if_pos h12,if_pos h12];exact Rel.acc _ _
     ·rw[if_neg h12,if_neg h12]
      by_cases h13:t.kind=13
      ·rw[if_pos h13,if_pos h13];exact Rel.acc _ _
      ·rw[if_neg h13,if_neg h13]
       by_cases h11:t.kind=11
       ·rw[if_pos h11,if_pos h11];exact Rel.acc _ _
       ·rw[if_neg h11,if_neg h11];exact Rel.same _ _
 ·cases ts with
  |nil=>exact .inl rfl
  |cons t tl=>
   have h9':t.kind=99:=h9;left;unfold primL;dsimp only;rw[if_neg U,if_neg U,if_neg U,if_neg U,if_neg U]
theorem zlq {f:MF}(h:¬(6<=kd ts/\kd ts<=8)):sufK st ts f=.ok ts f:=if_neg h
theorem Rel.sufK:RelF (sufK false) (sufK true):=by
 refine⟨fun ts f h=>?_,fun ts f h=>.inr ⟨f,zlq U⟩⟩;unfold Go.Proofs.YtmopdlbpkiaoeaaGreatDoor.sufK;by_cases h6:6<=kd ts/\kd ts<=8
 ·rw[if_pos h6,if_pos h6];exact Rel.acc _ _
 ·rw[if_neg h6,if_neg h6];exact⟨rfl,rfl,h⟩
theorem RelF.bind {p r j k:List Tok->MF->PO}(h:RelF p r)(hj:RelF j k)(h2:∀ts f,kd ts=2->Rel (j ts f) (.bad ts false)):RelF (fun ts f=>(p ts f).bind j) (fun ts f=>(r ts f).bind k):=by
 refine⟨fun ts f hk=>Rel.bind (h.1 ts f hk) hj.1 h2 (fun a g e=>hj.at99 a g e),fun ts f hk=>?_⟩;dsimp only;rcases h.2 ts f hk with e|⟨g,e⟩
 ·left;rw[e];rfl
 ·rw[e];exact hj.2 ts g hk
theorem Rel.suf {p r:List Tok->MF->PO}(h:RelF p r):RelF (sufL false room p) (sufL true room r):=
 RelF.bind (Rel.prim h) Rel.sufK fun ts f e=>by rw[zlq U];exact⟨rfl,rfl,e⟩
theorem Rel.pre {p r:List Tok->MF->PO}(h:RelF p r):RelF (preL false room p) (preL true room r):=by
 refine⟨fun ts f hk=>?_,fun ts f hk=>?_⟩
 ·unfold preL
  by_cases h4:kd ts=4∨kd ts=5
  ·rw[if_pos h4,if_pos h4]
   have key:RelF (fun a b=>(sufL false room p a b).bind fun c d=>.ok c (addN d (mkN (preOp (kd ts)) [lastI d]))) (fun a b=>(sufL true room r a b).bind fun c d=>.ok c (addN d (mkN (preOp (kd ts)) [lastI d]))):=
    RelF.bind (Rel.suf h) ⟨fun a g e=>⟨rfl,rfl,e⟩,fun a g e=>.inr ⟨_,rfl⟩⟩ fun a g e=>⟨rfl,rfl,e⟩
   exact Rel.accb (fun e=>key.1 _ _ e) (fun e=>key.at99 _ _ e)
  ·rw[if_neg h4,if_neg h4];exact(Rel.suf h).1 ts f hk
 ·unfold preL
  rw[if_neg U];exact(Rel.suf h).2 ts f hk
theorem zlr (h:kd ts=0∨kd ts=2∨kd ts=3∨kd ts=10∨kd ts=99):begB top ts=false:=by
 unfold begB;rw[if_neg U];exact decide_eq_false U
theorem Rel.parts {top:Bool}{p r:List Tok->MF->PO}(h:RelF p r):∀(n:Nat) (ts:List Tok) (f:MF) (ks:List Int),kd ts≠99->Rel (zb8 top p n ts f ks) (zb8 top r n ts f ks)
 |0,ts,f,ks,_=>Rel.same _ _
 |n+1,ts,f,ks,hk=>by
  cases hb:begB top ts
  ·rw[za7 hb,za7 hb];exact⟨rfl,rfl,hk⟩
  ·rw[zbw hb,zbw hb]
   refine Rel.bind (h.1 ts f hk) (fun a g e=>Rel.parts h n a g _ e) (fun a g e=>?_) (fun a g e=>?_)
   ·cases n with
    |zero=>exact Rel.same _ _
    |succ n=>rw[za7 (zlr U)];exact⟨rfl,rfl,e⟩
   ·cases n with
    |zero=>exact Rel.same _ _
    |succ n=>rw[za7 (zlr U)];exact⟨rfl,rfl,e⟩
theorem Rel.seq {p r:List Tok->MF->PO}(h:RelF p r):RelF (seqL top p) (seqL top r):=by
 refine⟨fun ts f hk=>Rel.parts h _ ts f _ hk,fun ts f hk=>?_⟩;unfold seqL;rw[za7 (zlr U)];exact .inr ⟨_,rfl⟩
theorem Rel.alts {p r:List Tok->MF->PO}(h:RelF p r):∀(n:Nat),(∀(ts:List Tok) (f:MF) (ks:List Int),kd ts≠99->Rel (altsL false p n ts f ks) (altsL true r n ts f ks))/\∀(ts:List Tok) (f:MF) (ks:List Int),kd ts=99->altsL true r n ts f ks=.bad ts false∨∃g,altsL true r n ts f ks=.ok ts g
 |0=>⟨fun ts f ks _=>Rel.same _ _,fun ts f ks _=>.inl rfl⟩
 |n+1=>by
  have ih:=Rel.alts h n;have h99:∀(ts:List Tok) (f:MF) (ks:List Int),kd ts=99->altsL true r n ts f ks=.bad ts false∨∃g,altsL true r n ts f ks=.ok ts g:=ih.2;refine⟨fun ts f ks hk=>?_,fun ts f ks hk=>?_⟩
  ·rw[zch,zch]
   refine Rel.bind (h.1 ts f hk) (fun a g e=>?_) (fun a g e=>?_) (fun a g e=>?_)
   ·by_cases h3:kd a=3
    ·rw[if_pos h3,if_pos h3]
     refine Rel.accb (fun e=>ih.1 _ _ _ e) (fun e=>?_);rcases h99 a.tail g (ks++[lastI g]) e with q|⟨z,q⟩
     ·rw[q];exact Rel.same _ _
     ·rw[q];exact⟨rfl,rfl,e⟩
    ·rw[if_neg h3,if_neg h3];exact⟨rfl,rfl,e⟩
   ·rw[if_neg U];exact⟨rfl,rfl,e⟩
   ·rw[if_neg U];exact⟨rfl,rfl,e⟩
  ·rw[zch]
   rcases h.2 ts f hk with e|⟨g,e⟩
   ·left;rw[e];rfl
   ·right
    rw[e];show ∃_,(if kd ts=3 then _ else _)=_;rw[if_neg U];exact⟨_,rfl⟩
theorem Rel.none:RelF (fun a _=>.bad a false) (fun a _=>.bad a false):=⟨fun _ _ _=>Rel.same _ _,fun _ _ _=>.inl rfl⟩
theorem Rel.altsF {p r:List Tok->MF->PO}(h:RelF p r):RelF (fun ts f=>altsL false p (ts.length+1) ts f []) (fun ts f=>altsL true r (ts.length+1) ts f []):=
 ⟨fun ts f hk=>(Rel.alts h _).1 ts f _ hk,fun ts f hk=>(Rel.alts h _).2 ts f _ hk⟩
theorem Rel.expr:∀(r:Nat) (top:Bool),RelF (exprL false r top) (exprL true r top)
 |0,_=>Rel.altsF (Rel.seq (Rel.pre Rel.none))
 |r+1,_=>Rel.altsF (Rel.seq (Rel.pre (Rel.expr r false)))
def wt:List Tok->Nat
 | []=>0
 |t::r=>t.text.length+3+wt r
def Clo (P:List Tok->Prop):Prop:=∀ts,P ts->kd ts≠0->kd ts≠99->P ts.tail
def Over (ts a:List Tok):Prop:=∀P,Clo P->P ts->P a
theorem Over.refl (ts:List Tok):Over ts ts:=fun _P _ h=>h
theorem Over.trans {b c:List Tok}(h:Over a b)(k:Over b c):Over a c:=fun P hP hp=>k P hP (h P hP hp)
theorem Over.tail (h0:kd ts≠0)(h9:kd ts≠99):Over ts ts.tail:=fun _P hP hp=>hP ts hp h0 h9
def Gr (k c:Nat)(ts:List Tok)(f:MF):PO->Prop
 |.ok a g=>Over ts a/\a.length+k<=ts.length/\f.nodes <+: g.nodes/\f.calls <+: g.calls/\g.nodes.length+wt a<=f.nodes.length+wt ts+c/\g.calls.length+a.length<=f.calls.length+ts.length
 |.bad a _=>Over ts a
def Grow (k c:Nat)(F:List Tok->MF->PO):Prop:=∀ts f,Gr k c ts f (F ts f)
theorem Gr.bind {c k' c' k2 c2:Nat}{f:MF}{o:PO}{j:List Tok->MF->PO}(h:Gr k c ts f o)(hj:∀a g,Gr k' c' a g (j a g))(h1:k2<=k+k')(h2:c+c'<=c2):Gr k2 c2 ts f (o.bind j):=by
 cases o with
 |bad a d=>exact h
 |ok a g=>
  obtain⟨s1,l1,n1,m1,w1,q1⟩:=h;show Gr k2 c2 ts f (j a g);have h':=hj a g;generalize j a g=o at h';cases o with
  |bad b d=>exact s1.trans h'
  |ok b u=>
   obtain⟨s2,l2,n2,m2,w2,q2⟩:=h';exact⟨s1.trans s2,U,n1.trans n2,m1.trans m2,U,U⟩
theorem zcq (h:kd ts≠0):wt ts.tail+3<=wt ts/\ts.tail.length+1=ts.length:=by
 cases ts with
 |nil=>exact absurd rfl h
 |cons t r=>exact⟨by show wt r+3<=t.text.length+3+wt r;omega,rfl⟩
theorem Gr.acc {f g:MF}{m:Nat}(h0:kd ts≠0)(h9:kd ts≠99)(hn:f.nodes <+: g.nodes)(hc:f.calls <+: g.calls)(hl:g.nodes.length<=f.nodes.length+m)(hw:wt ts.tail+m<=wt ts)(hcl:g.calls.length<=f.calls.length+1):Gr 1 0 ts f (acc st ts.tail g):=by
 have ht:=zcq h0;have hs:=Over.tail h0 h9;unfold Go.Proofs.YtmopdlbpkiaoeaaGreatDoor.acc;split
 ·exact hs
 ·exact⟨hs,U,hn,hc,U,U⟩
theorem zls:∀(l:List Nat) (f:MF) (ks:List Int),(litF f l ks).1.nodes.length=f.nodes.length+l.length/\(litF f l ks).2.length=ks.length+l.length/\f.nodes <+: (litF f l ks).1.nodes/\(litF f l ks).1.calls=f.calls
 | [],f,ks=>⟨rfl,rfl,qcw,rfl⟩
 |c::r,f,ks=>by
  have h:=zls r (addN f (clsN (fun i=>decide (i=c)))) (ks++[(f.nodes.length:Int)]);have e:(addN f (clsN (fun i=>decide (i=c)))).nodes.length=f.nodes.length+1:=by show(f.nodes++[_]).length=_;rw[qad];rfl
  rw[e,qad] at h;refine⟨?_,?_,?_,h.2.2.2⟩
  ·show(litF (addN f _) r _).1.nodes.length=_;rw[h.1,qah];omega
  ·show(litF (addN f _) r _).2.length=_;rw[h.2.1,qah,qah];simp;omega
  ·exact(qdj _ _).trans h.2.2.1
theorem zq4 (f:MF)(op:Int)(ks:List Int):f.nodes <+: (joinN f op ks).nodes/\(joinN f op ks).calls=f.calls/\(joinN f op ks).nodes.length<=f.nodes.length+1:=by
 have key:∀n:PN,f.nodes <+: (addN f n).nodes/\(addN f n).calls=f.calls/\(addN f n).nodes.length<=f.nodes.length+1:=fun n=>⟨qdj _ _,rfl,by show(f.nodes++[n]).length<=_;rw[qad];exact qac _⟩
 match ks with
 | []=>exact key _
 | [_]=>exact⟨qcw,rfl,qbh _⟩
 |_::_::_=>exact key _
theorem zvi (f:MF)(l:List Nat):f.nodes <+: (litN f l).nodes/\(litN f l).calls=f.calls/\(litN f l).nodes.length<=f.nodes.length+(l.length+1):=by
 have h1:=zls l f [];have h2:=zq4 (litF f l []).1 3 (litF f l []).2;unfold litN;exact⟨h1.2.2.1.trans h2.1,by rw[h2.2.1,h1.2.2.2],U⟩
theorem Gr.prim {rec:List Tok->MF->PO}(h:Grow 0 2 rec):Grow 1 0 (primL st room rec):=by
 intro ts f;cases ts with
 |nil=>exact Over.refl _
 |cons t tl=>
  unfold primL;dsimp only;have w0:wt (t::tl)=t.text.length+3+wt tl:=rfl;have hkd:kd (t::tl)=t.kind:=rfl;by_cases h1:t.kind=1
  ·rw[if_pos h1]
   split
   ·exact Over.tail (ts:=t::tl) U U
   ·exact Gr.acc (ts:=t::tl) (m:=1) U U (qdj _ _) (qdj _ _) (by show(f.nodes++[_]).length<=_;rw[qad];exact qac _) (by show wt tl+1<=_;omega) (by show(f.calls++[_]).length<=_;rw[qad];exact qac _)
  ·rw[if_neg h1]
   by_cases h9:t.kind=9
   ·rw[if_pos h9]
    split
    ·exact Over.refl _
    ·have ha:Gr 1 0 (t::tl) f (Go.Proofs.YtmopdlbpkiaoeaaGreatDoor.acc st tl f):=Gr.acc (ts:=t::tl) (m:=0) U U qcw qcw (qac _) (by show wt tl+0<=_;omega) (qbh _)
     have hs:Over (t::tl) tl:=Over.tail (ts:=t::tl) U U;unfold Go.Proofs.YtmopdlbpkiaoeaaGreatDoor.acc;split
     ·exact hs
     ·show Gr 1 0 (t::tl) f ((rec tl f).bind _)
      have hr:=h tl f;generalize rec tl f=o at hr;cases o with
      |bad a d=>exact hs.trans hr
      |ok a g=>
       obtain⟨s1,l1,n1,m1,w1,q1⟩:=hr;show Gr 1 0 (t::tl) f (closL st a g);unfold closL;split
       ·rename_i h10
        have ht:=zcq (ts:=a) U;unfold Go.Proofs.YtmopdlbpkiaoeaaGreatDoor.acc;have hs2:=(hs.trans s1).trans (Over.tail (ts:=a) U U);split
        ·exact hs2
        ·exact⟨hs2,by rw[qah];omega,n1,m1,U,by rw[qah];omega⟩
       ·exact hs.trans s1
   ·rw[if_neg h9]
    by_cases h12:t.kind=12
    ·rw[if_pos h12]
     have hl:=zvi f t.text;exact Gr.acc (ts:=t::tl) (m:=t.text.length+1) U U hl.1 (by rw[hl.2.1];exact qcw) hl.2.2 (by show wt tl+_<=_;omega) (by rw[hl.2.1];exact qbh _)
    ·rw[if_neg h12]
     have one:∀n:PN,Gr 1 0 (t::tl) f (Go.Proofs.YtmopdlbpkiaoeaaGreatDoor.acc st tl (addN f n))->Gr 1 0 (t::tl) f (Go.Proofs.YtmopdlbpkiaoeaaGreatDoor.acc st tl (addN f n)):=fun _ h=>h
     have ad:∀n:PN,kd (t::tl)≠0->kd (t::tl)≠99->Gr 1 0 (t::tl) f (Go.Proofs.YtmopdlbpkiaoeaaGreatDoor.acc st tl (addN f n)):=fun n e0 e9=>
      Gr.acc (ts:=t::tl) (m:=1) e0 e9 (qdj _ _) qcw (by show(f.nodes++[n]).length<=_;rw[qad];exact qac _) (by show wt tl+1<=_;omega) (qbh _)
     by_cases h13:t.kind=13
     ·rw[if_pos h13];exact ad _ U U
     ·rw[if_neg h13]
      by_cases h11:t.kind=11
      ·rw[if_pos h11];exact ad _ U U
      ·rw[if_neg h11];exact Over.refl _
theorem Gr.add1 {f:MF}(n:PN)(h0:kd ts≠0)(h9:kd ts≠99):Gr 1 0 ts f (Go.Proofs.YtmopdlbpkiaoeaaGreatDoor.acc st ts.tail (addN f n)):=by
 have:=zcq h0;exact Gr.acc (m:=1) h0 h9 (qdj _ _) qcw (by show(f.nodes++[n]).length<=_;rw[qad];exact qac _) U (qbh _)
theorem Gr.stay (ts:List Tok)(f:MF):Gr 0 0 ts f (.ok ts f):=⟨Over.refl _,qac _,qcw,qcw,qac _,qac _⟩
theorem Gr.weak {c k' c':Nat}{f:MF}{o:PO}(h:Gr k c ts f o)(hk:k'<=k)(hc:c<=c'):Gr k' c' ts f o:=by
 cases o with
 |bad a d=>exact h
 |ok a g=>exact⟨h.1,by have:=h.2.1;omega,h.2.2.1,h.2.2.2.1,by have:=h.2.2.2.2.1;omega,h.2.2.2.2.2⟩
theorem Gr.sufK:Grow 0 0 (sufK st):=by
 intro ts f;unfold Go.Proofs.YtmopdlbpkiaoeaaGreatDoor.sufK;split
 ·rename_i h
  exact(Gr.add1 _ U U).weak (qaj _) (qac _)
 ·exact Gr.stay _ _
theorem Gr.suf {rec:List Tok->MF->PO}(h:Grow 0 2 rec):Grow 1 0 (sufL st room rec):=fun ts f=>Gr.bind (Gr.prim h ts f) (fun a g=>Gr.sufK a g) (qac _) (qac _)
theorem Gr.pre {rec:List Tok->MF->PO}(h:Grow 0 2 rec):Grow 1 0 (preL st room rec):=by
 intro ts f;unfold preL;split
 ·have ht:=zcq (ts:=ts) U
  have hs:=Over.tail (ts:=ts) U U;unfold Go.Proofs.YtmopdlbpkiaoeaaGreatDoor.acc;split
  ·exact hs
  ·show Gr 1 0 ts f ((sufL st room rec ts.tail f).bind _)
   have hr:=Gr.suf (st:=st) (room:=room) h ts.tail f;generalize sufL st room rec ts.tail f=o at hr;cases o with
   |bad a d=>exact hs.trans hr
   |ok a g=>
    obtain⟨s1,l1,n1,m1,w1,q1⟩:=hr;exact⟨hs.trans s1,U,n1.trans (qdj _ _),m1,by show(g.nodes++[_]).length+_<=_;rw[qad,List.length_singleton];omega,by show g.calls.length+_<=_;omega⟩
 ·exact Gr.suf h ts f
theorem Gr.join (a:List Tok)(g:MF)(op:Int)(ks:List Int):Gr 0 1 a g (.ok a (joinN g op ks)):=by
 have h:=zq4 g op ks;exact⟨Over.refl _,qac _,h.1,by rw[h.2.1];exact qcw,U,by rw[h.2.1];exact qac _⟩
theorem Gr.parts {top:Bool}{pre:List Tok->MF->PO}(h:Grow 1 0 pre):∀(n:Nat) (ts:List Tok) (f:MF) (ks:List Int),Gr 0 1 ts f (zb8 top pre n ts f ks)
 |0,ts,f,ks=>Over.refl _
 |n+1,ts,f,ks=>by
  cases hb:begB top ts
  ·rw[za7 hb];exact Gr.join _ _ _ _
  ·rw[zbw hb];exact Gr.bind (h ts f) (fun a g=>Gr.parts h n a g _) (qaj _) (qac _)
theorem Gr.seq {pre:List Tok->MF->PO}(h:Grow 1 0 pre):Grow 0 1 (seqL top pre):=fun ts f=>Gr.parts h _ ts f _
theorem Gr.alts {st:Bool}{sq:List Tok->MF->PO}(h:Grow 0 1 sq):∀(n:Nat) (ts:List Tok) (f:MF) (ks:List Int),Gr 0 2 ts f (altsL st sq n ts f ks)
 |0,ts,f,ks=>Over.refl _
 |n+1,ts,f,ks=>by
  rw[zch];refine Gr.bind (k':=0) (c':=1) (h ts f) (fun a g=>?_) (qaj _) (qac _);by_cases h3:kd a=3
  ·rw[if_pos h3]
   have ht:=zcq (ts:=a) U;have hs:=Over.tail (ts:=a) U U;unfold Go.Proofs.YtmopdlbpkiaoeaaGreatDoor.acc;split
   ·exact hs
   ·show Gr 0 1 a g (altsL st sq n a.tail g _)
    have hr:=Gr.alts (st:=st) h n a.tail g (ks++[lastI g]);generalize altsL st sq n a.tail g (ks++[lastI g])=o at hr;cases o with
    |bad b d=>exact hs.trans hr
    |ok b u=>
     obtain⟨s1,l1,n1,m1,w1,q1⟩:=hr;exact⟨hs.trans s1,U,n1,m1,U,U⟩
  ·rw[if_neg h3];exact Gr.join _ _ _ _
theorem Gr.inL {st:Bool}:∀r,Grow 0 2 (inL st r)
 |0=>fun ts f=>Over.refl _
 |r+1=>fun ts f=>by
  show Gr 0 2 ts f (exprL st r false ts f);rw[zgi];exact Gr.alts (Gr.seq (Gr.pre (Gr.inL r))) _ ts f _
theorem Gr.expr (r:Nat)(top:Bool):Grow 0 2 (exprL st r top):=fun ts f=>by
 rw[zgi];exact Gr.alts (Gr.seq (Gr.pre (Gr.inL r))) _ ts f _
def txt (ts:List Tok):List Nat:=match ts with
 | []=>[]
 |t::_=>t.text
def pos (ts:List Tok):Nat:=match ts with
 | []=>0
 |t::_=>t.at_
def defL (st:Bool)(F:List Tok->MF->PO)(ts:List Tok)(f:MF):PO:=
 if kd ts=1 then (acc st ts.tail f).bind fun a g=>if kd a=2 then (acc st a.tail g).bind F else .bad a false else .bad ts false
inductive FO where
 |ok (rs:List (List Nat × Nat × Int)) (f:MF)
 |bad (ts:List Tok) (deep:Bool)
def defsL (st:Bool)(F:List Tok->MF->PO):Nat->List Tok->MF->List (List Nat × Nat × Int)->FO
 |0,ts,_,_=>.bad ts false
 |n+1,ts,f,rs=>match defL st F ts f with
  |.bad a d=>.bad a d
  |.ok a g=>if kd a=0 then .ok (rs++[(txt ts,pos ts,lastI g)]) g else defsL st F n a g (rs++[(txt ts,pos ts,lastI g)])
def fileL (l:List Nat):FO:=if kd (strm l 0)=99 then .bad (strm l 0) false else defsL false (exprL false 200 true) ((strm l 0).length+1) (strm l 0) ⟨[],[]⟩ []
def zaz (l:List Nat):FO:=defsL true (exprL true 200 true) ((strm l 0).length+1) (strm l 0) ⟨[],[]⟩ []
def Endy:List Tok->Prop
 | []=>False
 | [t]=>t.kind=0∨t.kind=99
 |t::u::r=>(t.kind≠0/\t.kind<=13)/\Endy (u::r)
theorem Endy.tail (h:Endy ts)(h0:kd ts≠0)(h9:kd ts≠99):Endy ts.tail:=by
 match ts,h with
 | [t],h=>
       rcases h with h|h
       ·exact absurd h h0
       ·exact absurd h h9
 |t::u::r,h=>exact h.2
theorem Endy.kind (h:Endy ts):kd ts<=13∨kd ts=99:=by
 match ts,h with
 | [t],h=>
       rcases h with h|h
       ·exact .inl (by show t.kind<=13;omega)
       ·exact .inr h
 |t::u::r,h=>exact .inl h.1.2
theorem Endy.ne (h:Endy ts):ts≠[]:=by intro e;subst e;exact h
theorem zie:Clo Endy:=fun _ h h0 h9=>h.tail h0 h9
theorem zzm {p r:List Tok->MF->PO}(h:RelF p r)(ts:List Tok)(f:MF):Rel (defL false p ts f) (defL true r ts f):=by
 unfold defL;by_cases h1:kd ts=1
 ·rw[if_pos h1,if_pos h1]
  refine Rel.accb (fun e=>?_) (fun e=>?_)
  ·by_cases h2:kd ts.tail=2
   ·rw[if_pos h2,if_pos h2]
    exact Rel.accb (fun e=>h.1 _ _ e) (fun e=>h.at99 _ _ e)
   ·rw[if_neg h2,if_neg h2]
    exact Rel.same _ _
  ·rw[if_neg U]
   exact Rel.same _ _
 ·rw[if_neg h1,if_neg h1]
  exact Rel.same _ _
theorem zif {F:List Tok->MF->PO}(n:Nat)(h:kd ts≠1)(f:MF)(rs:List (List Nat × Nat × Int)):defsL st F n ts f rs=.bad ts false:=by
 cases n with
 |zero=>rfl
 |succ n=>
  have e:defL st F ts f=.bad ts false:=if_neg h;unfold defsL;rw[e]
theorem zkj {p r:List Tok->MF->PO}(h:RelF p r):∀(n:Nat) (ts:List Tok) (f:MF) (rs:List (List Nat × Nat × Int)),defsL false p n ts f rs=defsL true r n ts f rs
 |0,_,_,_=>rfl
 |n+1,ts,f,rs=>by
  have hr:=zzm h ts f;unfold defsL;generalize defL false p ts f=o at hr ⊢;generalize defL true r ts f=u at hr ⊢;cases o with
  |ok a g=>
   cases u with
   |ok b k=>
    obtain⟨rfl,rfl,h9⟩:=hr;dsimp only;rw[zkj h n]
   |bad b d=>
    obtain⟨rfl,rfl,h2⟩:=hr;dsimp only;rw[if_neg U,zif n U]
  |bad a d=>
   cases u with
   |ok b k=>
    obtain⟨rfl,rfl,h9⟩:=hr;dsimp only;rw[if_neg U,zif n U]
   |bad b d'=>
    obtain⟨rfl,rfl⟩:=hr;rfl
theorem zbj (l:List Nat):fileL l=zaz l:=by
 unfold fileL zaz;by_cases h:kd (strm l 0)=99
 ·rw[if_pos h,zif _ U]
 ·rw[if_neg h]
  exact zkj (Rel.expr 200 true) _ _ _ _
theorem znb (l:List Nat):∀(n p:Nat),p<=l.length->l.length-p<=n->Endy (strm l p):=by
 intro n
 induction n with
 |zero=>
  intro p hp hn;cases h:nextL l p with
  |error k=>rw[zcg h];exact .inr rfl
  |ok y=>
   obtain⟨t,m⟩:=y;rcases za6 l p hp t m h with⟨h0,hm⟩|⟨h0,h1,h2⟩
   ·rw[zbt h h0];exact .inl h0
   ·omega
 |succ n ih=>
  intro p hp hn;cases h:nextL l p with
  |error k=>rw[zcg h];exact .inr rfl
  |ok y=>
   obtain⟨t,m⟩:=y;rcases za6 l p hp t m h with⟨h0,hm⟩|⟨h0,h1,h2⟩
   ·rw[zbt h h0];exact .inl h0
   ·have i:=ih m h2 U
    rw[zbe h h0 ⟨h1,h2⟩];have hk:=zd8 h;cases hs:strm l m with
    |nil=>rw[hs] at i;exact i.elim
    |cons u r=>rw[hs] at i;exact⟨⟨h0,hk⟩,i⟩
section
variable (d:Nat) (N0:List PN) (C0:List (List Nat × Nat))
variable {d N0 C0}
theorem zq7 (k:Nat):sufOp k≠2:=by
 unfold sufOp;split
 ·decide
 ·split<;>decide
theorem zq8 (k:Nat):preOp k≠2:=by
 unfold preOp;split<;>decide
end
theorem zq9 {F:List Tok->MF->PO}{f g:MF}(h:defL st F ts f=.ok a g):kd ts=1:=by
 unfold defL at h;split at h
 ·assumption
 ·cases h
theorem za5 (ts:List Tok)(f:MF):acc true ts f=.ok ts f:=if_neg jc
theorem zcr {o:PO}{j:List Tok->MF->PO}{g:MF}(h:o.bind j=.ok a g):∃b k,o=.ok b k/\j b k=.ok a g:=by
 cases o with
 |ok b k=>exact⟨b,k,rfl,h⟩
 |bad b d=>cases h
section
variable (e:Tok) (rest:List Tok)
variable {e rest} (he:e.kind=0) (h1:kd rest=1) (h2:kd rest.tail=2)
include he h1
include h2
omit he h1 h2
include he h1
end
theorem zvm (l:List Nat):∀(n p:Nat) (ts:List Tok),l.length-p<=n->p<=l.length->toksL l p=.ok ts->strm l p=ts:=by
 intro n
 induction n with
 |zero=>
  intro p ts hn hp h;cases hx:nextL l p with
  |error k=>rw[zdl hx] at h;cases h
  |ok y=>
   obtain⟨t,m⟩:=y;have ht:t.kind=0:=by
    rcases za6 l p hp t m hx with h|h
    ·exact h.1
    ·omega
   rw[zcb hx ht] at h;cases h;exact zbt hx ht
 |succ n ih=>
  intro p ts hn hp h;cases hx:nextL l p with
  |error k=>rw[zdl hx] at h;cases h
  |ok y=>
   obtain⟨t,m⟩:=y;have hm:=za6 l p hp t m hx;by_cases ht:t.kind=0
   ·rw[zcb hx ht] at h
    cases h;exact zbt hx ht
   ·have hmv:p<m/\m<=l.length:=by
     rcases hm with h|h
     ·exact absurd h.1 ht
     ·exact h.2
    rw[zdc hx ht hmv] at h;cases hq:toksL l m with
    |error k=>rw[hq] at h;cases h
    |ok ts'=>
     rw[hq] at h;cases h;rw[zbe hx ht hmv,ih m ts' U hmv.2 hq]
theorem znf (q:Nat):∀(n:Nat) (l:List Nat),l.length<=n->∀b m,litE q l=some (b,m)->b.length<=m/\((∀x,x ∈ l->x<256)->∀x,x ∈ b->x<256)
 |_,[],_,b,m,h=>by rw[zh7] at h;cases h
 |0,d::r,hn,_,_,_=>absurd hn (by rw[qah];omega)
 |n+1,d::r,hn,b,m,h=>by
  rw[qah] at hn;by_cases hd:d=q
  ·subst hd
   rw[zff] at h;cases h;exact⟨jc,fun _ x hx=>nomatch hx⟩
  ·cases hr:rdl (d::r) with
   |none=>rw[zf9 hr hd] at h;cases h
   |some x=>
    obtain⟨c,k⟩:=x;have hk:=zei _ _ _ hr;rw[qah] at hk;rw[zdj hr hd] at h;obtain⟨⟨b',m'⟩,h',e⟩:=qa1.1 h;obtain⟨h1,h2⟩:=znf q n _ (by rw[List.length_drop,qah];omega) b' m' h';obtain⟨rfl,rfl⟩:=Prod.mk.inj e;refine⟨by rw[qah];show b'.length+1<=k+m';omega,fun hl x hx=>?_⟩;rcases qbk.1 hx with rfl|hx
    ·exact z2b _ hl _ _ hr
    ·exact h2 (fun y hy=>hl y (List.mem_of_mem_drop hy)) x hx
theorem zvp (k:Nat)(l:List Nat)(t:Tok)(n:Nat)(h:tokL k l=some (t,n)):k+t.text.length<=n/\((∀x,x ∈ l->x<256)->∀x,x ∈ t.text->x<256):=by
 cases l with
 |nil=>rw[zcp] at h;cases h;exact⟨qac _,fun _ x hx=>nomatch hx⟩
 |cons c r=>
  cases hl:letB c true
  ·by_cases ha:c=60/\r.head?=some 45
   ·rw[zbq hl ha] at h;cases h;exact⟨by show k+0<=k+2;omega,fun _ x hx=>nomatch hx⟩
   ·cases hs:signK c with
    |some i=>rw[zca hl ha hs] at h;cases h;exact⟨by show k+0<=k+1;omega,fun _ x hx=>nomatch hx⟩
    |none=>
     by_cases h91:c=91
     ·subst h91
      rw[zc9] at h;obtain⟨⟨b,m⟩,h',e⟩:=qa1.1 h;cases e;exact⟨by show k+0<=_;omega,fun _ x hx=>nomatch hx⟩
     ·by_cases hq:c=39∨c=34
      ·rw[zda hq] at h
       obtain⟨⟨b,m⟩,h',e⟩:=qa1.1 h;obtain⟨h1,h2⟩:=znf c _ r (qac _) b m h';cases e;exact⟨by show k+b.length<=k+1+m;omega,fun hl x hx=>h2 (fun y hy=>hl y (List.mem_cons_of_mem _ hy)) x hx⟩
      ·rw[zc3 hl ha hs h91 hq] at h;cases h
  ·rw[zci hl] at h
   cases h;refine⟨?_,fun hl x hx=>hl x (List.mem_of_mem_take hx)⟩;show k+((c::r).take (idL true (c::r))).length<=_;rw[List.length_take];omega
theorem zfk (l:List Nat)(p:Nat)(t:Tok)(n:Nat)(h:nextL l p=.ok (t,n)):p+t.text.length<=n/\((∀x,x ∈ l->x<256)->∀x,x ∈ t.text->x<256):=by
 unfold nextL at h;split at h
 ·generalize (skipL (l.drop p)).1=m at h
  cases ht:tokL (p+m) (l.drop (p+m)) with
  |none=>rw[ht] at h;cases h
  |some x=>
   rw[ht] at h;cases h;obtain⟨h1,h2⟩:=zvp _ _ _ _ ht;exact⟨U,fun hl x hx=>h2 (fun y hy=>hl y (List.mem_of_mem_drop hy)) x hx⟩
 ·cases h
theorem zfl (l:List Nat):∀(n p:Nat),p<=l.length->l.length-p<=n->wt (strm l p)<=4*(l.length-p)+3/\(strm l p).length<=l.length-p+1/\∀t,t ∈ strm l p->t.kind<=99/\((∀x,x ∈ l->x<256)->∀x,x ∈ t.text->x<256):=by
 intro n
 induction n with
 |zero=>
  intro p hp hn;have hpe:p=l.length:=U
  cases h:nextL l p with
  |error k=>
   rw[zcg h];exact⟨by show 0+3+0<=_;omega,jc,fun t ht=>by obtain rfl:=qam.1 ht;exact⟨qac _,fun _ x hx=>nomatch hx⟩⟩
  |ok y=>
   obtain⟨t,m⟩:=y;rcases za6 l p hp t m h with⟨h0,hm⟩|⟨h0,h1,h2⟩
   ·have ht:=zfk l p t m h
    rw[zbt h h0];refine⟨?_,jc,fun u hu=>?_⟩
    ·show t.text.length+3+0<=_
     have:=ht.1;omega
    ·obtain rfl:=qam.1 hu
     exact⟨U,ht.2⟩
   ·omega
 |succ n ih=>
  intro p hp hn;cases h:nextL l p with
  |error k=>
   rw[zcg h];exact⟨by show 0+3+0<=_;omega,jc,fun t ht=>by obtain rfl:=qam.1 ht;exact⟨qac _,fun _ x hx=>nomatch hx⟩⟩
  |ok y=>
   obtain⟨t,m⟩:=y;have ht:=zfk l p t m h;rcases za6 l p hp t m h with⟨h0,hm⟩|⟨h0,h1,h2⟩
   ·rw[zbt h h0]
    refine⟨?_,jc,fun u hu=>?_⟩
    ·show t.text.length+3+0<=_
     have:=ht.1;omega
    ·obtain rfl:=qam.1 hu
     exact⟨U,ht.2⟩
   ·obtain⟨i1,i2,i3⟩:=ih m h2 U
    rw[zbe h h0 ⟨h1,h2⟩];refine⟨?_,by rw[qah];omega,fun u hu=>?_⟩
    ·show t.text.length+3+wt (strm l m)<=_
     have:=ht.1;omega
    ·rcases qbk.1 hu with rfl|hu
     ·exact⟨by have:=zd8 h;omega,ht.2⟩
     ·exact i3 u hu
