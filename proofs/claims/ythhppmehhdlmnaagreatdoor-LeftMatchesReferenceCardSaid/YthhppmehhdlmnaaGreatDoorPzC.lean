/- The syntax of grammar files as plain functions on lists of tokens, in the reference's way (st) and in the program's; that both ways agree; how many nodes there  -/
import Derived.Test.YthhppmehhdlmnaaGreatDoorPzA
import Derived.Test.YthhppmehhdlmnaaGreatDoorPzB
namespace Go.Proofs.YthhppmehhdlmnaaGreatDoor
def strm (l:List Nat)(p:Nat):List Tok:=
 match nextL l p with
 |.error k=>[⟨99,k,[],[]⟩]
 |.ok (t,n)=>if t.kind=0 then [t] else if _h:p<n/\n<=l.length then t::strm l n else [t]
termination_by l.length-p
decreasing_by omega
theorem zd0 {l:List Nat}{p k:Nat}(h:nextL l p=.error k):strm l p=[⟨99,k,[],[]⟩]:=by
 rw[strm,h]
theorem zcp {l:List Nat}{p n:Nat}{t:Tok}(h:nextL l p=.ok (t,n))(ht:t.kind=0):strm l p=[t]:=by
 rw[strm,h];show(if t.kind=0 then _ else _)=_;rw[if_pos ht]
theorem zao {l:List Nat}{p n:Nat}{t:Tok}(h:nextL l p=.ok (t,n))(ht:t.kind≠0)(hn:p<n/\n<=l.length):strm l p=t::strm l n:=by
 conv=>lhs;rw[strm,h]
 show(if t.kind=0 then _ else if _h:p<n/\n<=l.length then _ else _)=_;rw[if_neg ht,dif_pos hn]
theorem zxm:∀(l:List Nat) (n c i:Nat),idxL n l c=some i->i<n+l.length
 | [],n,c,i,h=>by cases h
 |x::r,n,c,i,h=>by
  rw[List.length_cons];by_cases hx:x=c
  ·rw[zkr hx] at h;cases h;omega
  ·rw[zob hx] at h
   have:=zxm r (n+1) c i h;omega
theorem zxn {k:Nat}{l:List Nat}{t:Tok}{n:Nat}(h:tokL k l=some (t,n)):t.kind<=13:=by
 cases l with
 |nil=>rw[zer] at h;cases h;exact Nat.le_of_ble_eq_true rfl
 |cons c r=>
  rw[zdf] at h;split at h
  ·cases h;exact Nat.le_of_ble_eq_true rfl
  ·split at h
   ·cases h;exact Nat.le_of_ble_eq_true rfl
   ·split at h
    ·rename_i i hi
     have:=zxm _ _ _ _ hi;cases h;show i<=13;have e:sigs.length=9:=rfl;omega
    ·split at h
     ·obtain⟨x,-,e⟩:=Option.map_eq_some_iff.1 h;cases e;exact Nat.le_of_ble_eq_true rfl
     ·split at h
      ·obtain⟨x,-,e⟩:=Option.map_eq_some_iff.1 h;cases e;exact Nat.le_of_ble_eq_true rfl
      ·cases h
theorem zgs {l:List Nat}{p n:Nat}{t:Tok}(h:nextL l p=.ok (t,n)):t.kind<=13:=by
 unfold nextL at h;split at h
 ·split at h
  ·rename_i x hx
   cases h;exact zxn hx
  ·cases h
 ·cases h
def kd (ts:List Tok):Nat:=match ts with
 | []=>0
 |t::_=>t.kind
structure MF where
 nodes:List PN
 calls:List (List Nat × Nat)
def lastI (f:MF):Int:=(f.nodes.length:Int)-1
def mkN (op:Int)(kids:List Int):PN:=⟨op,kids,0,0,0,0,0⟩
def clsN (g:Nat->Bool):PN:=⟨1,[],0,setW g 0,setW g 1,setW g 2,setW g 3⟩
def callN (i:Nat):PN:=⟨2,[],(i:Int),0,0,0,0⟩
def addNY (f:MF)(n:PN):MF:=⟨f.nodes++[n],f.calls⟩
def callF (f:MF)(t:Tok):MF:=⟨f.nodes++[callN f.calls.length],f.calls++[(t.text,t.at_)]⟩
def joinN (f:MF)(op:Int)(kids:List Int):MF:=match kids with
 | []=>addNY f (mkN 0 [])
 | [_]=>f
 |_::_::_=>addNY f (mkN op kids)
def litF:MF->List Nat->List Int->MF × List Int
 |f,[],ks=>(f,ks)
 |f,c::r,ks=>litF (addNY f (clsN (fun i=>decide (i=c)))) r (ks++[(f.nodes.length:Int)])
def litN (f:MF)(text:List Nat):MF:=joinN (litF f text []).1 3 (litF f text []).2
inductive PO where
 |ok (ts:List Tok) (f:MF)
 |bad (ts:List Tok) (deep:Bool)
def PO.bind (o:PO)(k:List Tok->MF->PO):PO:=match o with
 |.ok ts f=>k ts f
 |.bad ts d=>.bad ts d
theorem PO.bind_ok (ts:List Tok)(f:MF)(k:List Tok->MF->PO):(PO.ok ts f).bind k=k ts f:=rfl
def acc (st:Bool)(ts:List Tok)(f:MF):PO:=if st=false/\kd ts=99 then .bad ts false else .ok ts f
def closL (st:Bool)(c:List Tok)(d:MF):PO:=if kd c=10 then acc st c.tail d else .bad c false
def primL (st:Bool)(room:Nat)(rec:List Tok->MF->PO)(ts:List Tok)(f:MF):PO:=
 match ts with
 | []=>.bad [] false
 |t::tl=>
  if t.kind=1 then (if st=true/\(kd tl=2∨kd tl=99) then .bad tl false else acc st tl (callF f t))
  else if t.kind=9 then (if room=0 then .bad (t::tl) true else (acc st tl f).bind fun a b=>(rec a b).bind fun c d=>closL st c d)
  else if t.kind=12 then acc st tl (litN f t.text)
  else if t.kind=13 then acc st tl (addNY f (clsN (inRs t.rs)))
  else if t.kind=11 then acc st tl (addNY f (clsN (fun _=>true)))
  else .bad (t::tl) false
def sufOp (k:Nat):Int:=if k=6 then 7 else if k=7 then 5 else 6
def sufK (st:Bool)(ts:List Tok)(f:MF):PO:=if 6<=kd ts/\kd ts<=8 then acc st ts.tail (addNY f (mkN (sufOp (kd ts)) [lastI f])) else .ok ts f
def sufL (st:Bool)(room:Nat)(rec:List Tok->MF->PO)(ts:List Tok)(f:MF):PO:=(primL st room rec ts f).bind (sufK st)
def preOp (k:Nat):Int:=if k=4 then 8 else 9
def preL (st:Bool)(room:Nat)(rec:List Tok->MF->PO)(ts:List Tok)(f:MF):PO:=
 if kd ts=4∨kd ts=5 then (acc st ts.tail f).bind fun a b=>(sufL st room rec a b).bind fun c d=>.ok c (addNY d (mkN (preOp (kd ts)) [lastI d])) else sufL st room rec ts f
def begBY (top:Bool)(ts:List Tok):Bool:=
 if kd ts=1 then !(top&&kd ts.tail == 2) else decide (kd ts=4∨kd ts=5∨kd ts=9∨kd ts=11∨kd ts=12∨kd ts=13)
def zb8 (top:Bool)(pre:List Tok->MF->PO):Nat->List Tok->MF->List Int->PO
 |0,ts,_,_=>.bad ts false
 |n+1,ts,f,ks=>if begBY top ts=true then (pre ts f).bind fun a g=>zb8 top pre n a g (ks++[lastI g]) else .ok ts (joinN f 3 ks)
def altsL (st:Bool)(sq:List Tok->MF->PO):Nat->List Tok->MF->List Int->PO
 |0,ts,_,_=>.bad ts false
 |n+1,ts,f,ks=>(sq ts f).bind fun a g=>if kd a=3 then (acc st a.tail g).bind fun b h=>altsL st sq n b h (ks++[lastI g]) else .ok a (joinN g 4 (ks++[lastI g]))
def seqL (top:Bool)(pre:List Tok->MF->PO)(ts:List Tok)(f:MF):PO:=zb8 top pre (ts.length+1) ts f []
def exprL (st:Bool):Nat->Bool->List Tok->MF->PO
 |0,top,ts,f=>altsL st (seqL top (preL st 0 fun a _=>.bad a false)) (ts.length+1) ts f []
 |r+1,top,ts,f=>altsL st (seqL top (preL st (r+1) (exprL st r false))) (ts.length+1) ts f []
def inL (st:Bool):Nat->List Tok->MF->PO
 |0=>fun a _=>.bad a false
 |r+1=>exprL st r false
theorem zlv (st:Bool)(r:Nat)(top:Bool)(ts:List Tok)(f:MF):exprL st r top ts f=altsL st (seqL top (preL st r (inL st r))) (ts.length+1) ts f []:=by
 cases r<;>rfl
theorem zbw {top:Bool}{pre:List Tok->MF->PO}{n:Nat}{ts:List Tok}{f:MF}{ks:List Int}(h:begBY top ts=true):zb8 top pre (n+1) ts f ks=(pre ts f).bind fun a g=>zb8 top pre n a g (ks++[lastI g]):=if_pos h
theorem za0 {top:Bool}{pre:List Tok->MF->PO}{n:Nat}{ts:List Tok}{f:MF}{ks:List Int}(h:begBY top ts=false):zb8 top pre (n+1) ts f ks=.ok ts (joinN f 3 ks):=if_neg (by rw[h];decide)
theorem zcq (st:Bool)(sq:List Tok->MF->PO)(n:Nat)(ts:List Tok)(f:MF)(ks:List Int):altsL st sq (n+1) ts f ks=(sq ts f).bind fun a g=>if kd a=3 then (acc st a.tail g).bind fun b h=>altsL st sq n b h (ks++[lastI g]) else .ok a (joinN g 4 (ks++[lastI g])):=rfl
def Rel (p r:PO):Prop:=match p,r with
 |.ok ts f,.ok ts' f'=>ts=ts'/\f=f'/\kd ts≠99
 |.ok ts _,.bad ts' d=>ts=ts'/\d=false/\kd ts=2
 |.bad ts d,.bad ts' d'=>ts=ts'/\d=d'
 |.bad ts d,.ok ts' _=>ts=ts'/\d=false/\kd ts=99
theorem Rel.same (ts:List Tok)(d:Bool):Rel (.bad ts d) (.bad ts d):=⟨rfl,rfl⟩
theorem Rel.acc (ts:List Tok)(f:MF):Rel (acc false ts f) (acc true ts f):=by
 unfold Go.Proofs.YthhppmehhdlmnaaGreatDoor.acc;by_cases h:kd ts=99
 ·rw[if_pos ⟨rfl,h⟩,if_neg (by simp)];exact⟨rfl,rfl,h⟩
 ·rw[if_neg (by simp[h]),if_neg (by simp)];exact⟨rfl,rfl,h⟩
theorem Rel.accb {ts:List Tok}{f:MF}{j k:List Tok->MF->PO}(h:kd ts≠99->Rel (j ts f) (k ts f))(h99:kd ts=99->Rel (.bad ts false) (k ts f)):Rel ((Go.Proofs.YthhppmehhdlmnaaGreatDoor.acc false ts f).bind j) ((Go.Proofs.YthhppmehhdlmnaaGreatDoor.acc true ts f).bind k):=by
 unfold Go.Proofs.YthhppmehhdlmnaaGreatDoor.acc;by_cases e:kd ts=99
 ·rw[if_pos ⟨rfl,e⟩,if_neg (by simp)];exact h99 e
 ·rw[if_neg (by simp[e]),if_neg (by simp)];exact h e
theorem Rel.bind {p r:PO}{j k:List Tok->MF->PO}(h:Rel p r)(hjk:∀ts f,kd ts≠99->Rel (j ts f) (k ts f))
  (h2:∀ts f,kd ts=2->Rel (j ts f) (.bad ts false)) (h99:∀ts f,kd ts=99->Rel (.bad ts false) (k ts f)):Rel (p.bind j) (r.bind k):=by
 cases p with
 |ok ts f=>
  cases r with
  |ok ts' f'=>obtain⟨rfl,rfl,h⟩:=h;exact hjk ts f h
  |bad ts' d=>obtain⟨rfl,rfl,h⟩:=h;exact h2 ts f h
 |bad ts d=>
  cases r with
  |ok ts' f'=>obtain⟨rfl,rfl,h⟩:=h;exact h99 ts f' h
  |bad ts' d'=>obtain⟨rfl,rfl⟩:=h;exact⟨rfl,rfl⟩
theorem Rel.clos (c:List Tok)(d:MF):Rel (closL false c d) (closL true c d):=by
 unfold closL;by_cases h:kd c=10
 ·rw[if_pos h,if_pos h];exact Rel.acc _ _
 ·rw[if_neg h,if_neg h];exact Rel.same _ _
theorem zpl {st:Bool}{c:List Tok}{d:MF}(h:kd c≠10):closL st c d=.bad c false:=if_neg h
def RelF (p r:List Tok->MF->PO):Prop:=(∀ts f,kd ts≠99->Rel (p ts f) (r ts f))/\∀ts f,kd ts=99->r ts f=.bad ts false∨∃g,r ts f=.ok ts g
theorem RelF.at99 {p r:List Tok->MF->PO}(h:RelF p r)(ts:List Tok)(f:MF)(h9:kd ts=99):Rel (.bad ts false) (r ts f):=by
 rcases h.2 ts f h9 with e|⟨g,e⟩
 ·rw[e];exact Rel.same _ _
 ·rw[e];exact⟨rfl,rfl,h9⟩
theorem Rel.prim {room:Nat}{p r:List Tok->MF->PO}(h:RelF p r):RelF (primL false room p) (primL true room r):=by
 refine⟨fun ts f _=>?_,fun ts f h9=>?_⟩
 ·cases ts with
  |nil=>exact Rel.same _ _
  |cons t tl=>
   unfold primL;dsimp only;by_cases h1:t.kind=1
   ·rw[if_pos h1,if_pos h1,if_neg (by simp)]
    unfold Go.Proofs.YthhppmehhdlmnaaGreatDoor.acc;by_cases h99:kd tl=99
    ·rw[if_pos ⟨rfl,h99⟩,if_pos ⟨rfl,.inr h99⟩];exact Rel.same _ _
    ·rw[if_neg (by simp[h99])]
     by_cases h2:kd tl=2
     ·rw[if_pos ⟨rfl,.inl h2⟩];exact⟨rfl,rfl,h2⟩
     ·rw[if_neg (by simp[h2,h99]),if_neg (by simp)];exact⟨rfl,rfl,h99⟩
   ·rw[if_neg h1,if_neg h1]
    by_cases h9:t.kind=9
    ·rw[if_pos h9,if_pos h9]
     by_cases hr:room=0
     ·rw[if_pos hr,if_pos hr];exact Rel.same _ _
     ·rw[if_neg hr,if_neg hr]
      have step:∀(ts:List Tok) (f:MF),kd ts≠99->Rel ((p ts f).bind fun c d=>closL false c d) ((r ts f).bind fun c d=>closL true c d):=fun ts f hk=>
       Rel.bind (h.1 ts f hk) (fun _ _ _=>Rel.clos _ _) (fun _ _ e=>by rw[zpl (by rw[e];decide)];exact Rel.same _ _) (fun _ _ e=>by rw[zpl (by rw[e];decide)];exact Rel.same _ _)
      unfold Go.Proofs.YthhppmehhdlmnaaGreatDoor.acc;by_cases h99:kd tl=99
      ·rw[if_pos ⟨rfl,h99⟩,if_neg (by simp)]
       show Rel (.bad tl false) ((r tl f).bind _);rcases h.2 tl f h99 with e|⟨g,e⟩
       ·rw[e];exact Rel.same _ _
       ·rw[e]
        show Rel _ (closL true tl g);rw[zpl (by rw[h99];decide)];exact Rel.same _ _
      ·rw[if_neg (by simp[h99]),if_neg (by simp)]
       exact step tl f h99
    ·rw[if_neg h9,if_neg h9]
     by_cases h12:t.kind=12
     ·rw[if_pos h12,if_pos h12];exact Rel.acc _ _
     ·rw[if_neg h12,if_neg h12]
      by_cases h13:t.kind=13
      ·rw[if_pos h13,if_pos h13];exact Rel.acc _ _
      ·rw[if_neg h13,if_neg h13]
       by_cases h11:t.kind=11
       ·rw[if_pos h11,if_pos h11];exact Rel.acc _ _
       ·rw[if_neg h11,if_neg h11];exact Rel.same _ _
 ·cases ts with
  |nil=>exact .inl rfl
  |cons t tl=>
   have h9':t.kind=99:=h9;left;unfold primL;dsimp only;rw[if_neg (by omega),if_neg (by omega),if_neg (by omega),if_neg (by omega),if_neg (by omega)]
theorem zlw {st:Bool}{ts:List Tok}{f:MF}(h:¬(6<=kd ts/\kd ts<=8)):sufK st ts f=.ok ts f:=if_neg h
theorem Rel.sufK:RelF (sufK false) (sufK true):=by
 refine⟨fun ts f h=>?_,fun ts f h=>.inr ⟨f,zlw (by omega)⟩⟩;unfold Go.Proofs.YthhppmehhdlmnaaGreatDoor.sufK;by_cases h6:6<=kd ts/\kd ts<=8
 ·rw[if_pos h6,if_pos h6];exact Rel.acc _ _
 ·rw[if_neg h6,if_neg h6];exact⟨rfl,rfl,h⟩
theorem RelF.bind {p r j k:List Tok->MF->PO}(h:RelF p r)(hj:RelF j k)(h2:∀ts f,kd ts=2->Rel (j ts f) (.bad ts false)):RelF (fun ts f=>(p ts f).bind j) (fun ts f=>(r ts f).bind k):=by
 refine⟨fun ts f hk=>Rel.bind (h.1 ts f hk) hj.1 h2 (fun a g e=>hj.at99 a g e),fun ts f hk=>?_⟩;dsimp only;rcases h.2 ts f hk with e|⟨g,e⟩
 ·left;rw[e];rfl
 ·rw[e];exact hj.2 ts g hk
theorem Rel.suf {room:Nat}{p r:List Tok->MF->PO}(h:RelF p r):RelF (sufL false room p) (sufL true room r):=
 RelF.bind (Rel.prim h) Rel.sufK fun ts f e=>by rw[zlw (by omega)];exact⟨rfl,rfl,e⟩
theorem Rel.pre {room:Nat}{p r:List Tok->MF->PO}(h:RelF p r):RelF (preL false room p) (preL true room r):=by
 refine⟨fun ts f hk=>?_,fun ts f hk=>?_⟩
 ·unfold preL
  by_cases h4:kd ts=4∨kd ts=5
  ·rw[if_pos h4,if_pos h4]
   have key:RelF (fun a b=>(sufL false room p a b).bind fun c d=>.ok c (addNY d (mkN (preOp (kd ts)) [lastI d]))) (fun a b=>(sufL true room r a b).bind fun c d=>.ok c (addNY d (mkN (preOp (kd ts)) [lastI d]))):=
    RelF.bind (Rel.suf h) ⟨fun a g e=>⟨rfl,rfl,e⟩,fun a g e=>.inr ⟨_,rfl⟩⟩ fun a g e=>⟨rfl,rfl,e⟩
   exact Rel.accb (fun e=>key.1 _ _ e) (fun e=>key.at99 _ _ e)
  ·rw[if_neg h4,if_neg h4];exact(Rel.suf h).1 ts f hk
 ·unfold preL
  rw[if_neg (by omega)];exact(Rel.suf h).2 ts f hk
theorem zlx {top:Bool}{ts:List Tok}(h:kd ts=0∨kd ts=2∨kd ts=3∨kd ts=10∨kd ts=99):begBY top ts=false:=by
 unfold begBY;rw[if_neg (by omega)];exact decide_eq_false (by omega)
theorem Rel.parts {top:Bool}{p r:List Tok->MF->PO}(h:RelF p r):∀(n:Nat) (ts:List Tok) (f:MF) (ks:List Int),kd ts≠99->Rel (zb8 top p n ts f ks) (zb8 top r n ts f ks)
 |0,ts,f,ks,_=>Rel.same _ _
 |n+1,ts,f,ks,hk=>by
  cases hb:begBY top ts
  ·rw[za0 hb,za0 hb];exact⟨rfl,rfl,hk⟩
  ·rw[zbw hb,zbw hb]
   refine Rel.bind (h.1 ts f hk) (fun a g e=>Rel.parts h n a g _ e) (fun a g e=>?_) (fun a g e=>?_)
   ·cases n with
    |zero=>exact Rel.same _ _
    |succ n=>rw[za0 (zlx (by omega))];exact⟨rfl,rfl,e⟩
   ·cases n with
    |zero=>exact Rel.same _ _
    |succ n=>rw[za0 (zlx (by omega))];exact⟨rfl,rfl,e⟩
theorem Rel.seq {top:Bool}{p r:List Tok->MF->PO}(h:RelF p r):RelF (seqL top p) (seqL top r):=by
 refine⟨fun ts f hk=>Rel.parts h _ ts f _ hk,fun ts f hk=>?_⟩;unfold seqL;rw[za0 (zlx (by omega))];exact .inr ⟨_,rfl⟩
theorem Rel.alts {p r:List Tok->MF->PO}(h:RelF p r):∀(n:Nat),(∀(ts:List Tok) (f:MF) (ks:List Int),kd ts≠99->Rel (altsL false p n ts f ks) (altsL true r n ts f ks))/\∀(ts:List Tok) (f:MF) (ks:List Int),kd ts=99->altsL true r n ts f ks=.bad ts false∨∃g,altsL true r n ts f ks=.ok ts g
 |0=>⟨fun ts f ks _=>Rel.same _ _,fun ts f ks _=>.inl rfl⟩
 |n+1=>by
  have ih:=Rel.alts h n;have h99:∀(ts:List Tok) (f:MF) (ks:List Int),kd ts=99->altsL true r n ts f ks=.bad ts false∨∃g,altsL true r n ts f ks=.ok ts g:=ih.2;refine⟨fun ts f ks hk=>?_,fun ts f ks hk=>?_⟩
  ·rw[zcq,zcq]
   refine Rel.bind (h.1 ts f hk) (fun a g e=>?_) (fun a g e=>?_) (fun a g e=>?_)
   ·by_cases h3:kd a=3
    ·rw[if_pos h3,if_pos h3]
     refine Rel.accb (fun e=>ih.1 _ _ _ e) (fun e=>?_);rcases h99 a.tail g (ks++[lastI g]) e with q|⟨z,q⟩
     ·rw[q];exact Rel.same _ _
     ·rw[q];exact⟨rfl,rfl,e⟩
    ·rw[if_neg h3,if_neg h3];exact⟨rfl,rfl,e⟩
   ·rw[if_neg (by omega)];exact⟨rfl,rfl,e⟩
   ·rw[if_neg (by omega)];exact⟨rfl,rfl,e⟩
  ·rw[zcq]
   rcases h.2 ts f hk with e|⟨g,e⟩
   ·left;rw[e];rfl
   ·right
    rw[e];show ∃_,(if kd ts=3 then _ else _)=_;rw[if_neg (by omega)];exact⟨_,rfl⟩
theorem Rel.none:RelF (fun a _=>.bad a false) (fun a _=>.bad a false):=⟨fun _ _ _=>Rel.same _ _,fun _ _ _=>.inl rfl⟩
theorem Rel.altsF {p r:List Tok->MF->PO}(h:RelF p r):RelF (fun ts f=>altsL false p (ts.length+1) ts f []) (fun ts f=>altsL true r (ts.length+1) ts f []):=
 ⟨fun ts f hk=>(Rel.alts h _).1 ts f _ hk,fun ts f hk=>(Rel.alts h _).2 ts f _ hk⟩
theorem Rel.expr:∀(r:Nat) (top:Bool),RelF (exprL false r top) (exprL true r top)
 |0,_=>Rel.altsF (Rel.seq (Rel.pre Rel.none))
 |r+1,_=>Rel.altsF (Rel.seq (Rel.pre (Rel.expr r false)))
def wt:List Tok->Nat
 | []=>0
 |t::r=>t.text.length+3+wt r
def Clo (P:List Tok->Prop):Prop:=∀ts,P ts->kd ts≠0->kd ts≠99->P ts.tail
def Over (ts a:List Tok):Prop:=∀P,Clo P->P ts->P a
theorem Over.refl (ts:List Tok):Over ts ts:=fun _P _ h=>h
theorem Over.trans {a b c:List Tok}(h:Over a b)(k:Over b c):Over a c:=fun P hP hp=>k P hP (h P hP hp)
theorem Over.tail {ts:List Tok}(h0:kd ts≠0)(h9:kd ts≠99):Over ts ts.tail:=fun _P hP hp=>hP ts hp h0 h9
def Gr (k c:Nat)(ts:List Tok)(f:MF):PO->Prop
 |.ok a g=>Over ts a/\a.length+k<=ts.length/\f.nodes <+: g.nodes/\f.calls <+: g.calls/\g.nodes.length+wt a<=f.nodes.length+wt ts+c/\g.calls.length+a.length<=f.calls.length+ts.length
 |.bad a _=>Over ts a
def Grow (k c:Nat)(F:List Tok->MF->PO):Prop:=∀ts f,Gr k c ts f (F ts f)
theorem Gr.bind {k c k' c' k2 c2:Nat}{ts:List Tok}{f:MF}{o:PO}{j:List Tok->MF->PO}(h:Gr k c ts f o)(hj:∀a g,Gr k' c' a g (j a g))(h1:k2<=k+k')(h2:c+c'<=c2):Gr k2 c2 ts f (o.bind j):=by
 cases o with
 |bad a d=>exact h
 |ok a g=>
  obtain⟨s1,l1,n1,m1,w1,q1⟩:=h;show Gr k2 c2 ts f (j a g);have h':=hj a g;generalize j a g=o at h';cases o with
  |bad b d=>exact s1.trans h'
  |ok b u=>
   obtain⟨s2,l2,n2,m2,w2,q2⟩:=h';exact⟨s1.trans s2,by omega,n1.trans n2,m1.trans m2,by omega,by omega⟩
theorem zb6 {ts:List Tok}(h:kd ts≠0):wt ts.tail+3<=wt ts/\ts.tail.length+1=ts.length:=by
 cases ts with
 |nil=>exact absurd rfl h
 |cons t r=>exact⟨by show wt r+3<=t.text.length+3+wt r;omega,rfl⟩
theorem Gr.acc {st:Bool}{ts:List Tok}{f g:MF}{m:Nat}(h0:kd ts≠0)(h9:kd ts≠99)(hn:f.nodes <+: g.nodes)(hc:f.calls <+: g.calls)(hl:g.nodes.length<=f.nodes.length+m)(hw:wt ts.tail+m<=wt ts)(hcl:g.calls.length<=f.calls.length+1):Gr 1 0 ts f (acc st ts.tail g):=by
 have ht:=zb6 h0;have hs:=Over.tail h0 h9;unfold Go.Proofs.YthhppmehhdlmnaaGreatDoor.acc;split
 ·exact hs
 ·exact⟨hs,by omega,hn,hc,by omega,by omega⟩
theorem zly:∀(l:List Nat) (f:MF) (ks:List Int),(litF f l ks).1.nodes.length=f.nodes.length+l.length/\(litF f l ks).2.length=ks.length+l.length/\f.nodes <+: (litF f l ks).1.nodes/\(litF f l ks).1.calls=f.calls
 | [],f,ks=>⟨rfl,rfl,List.prefix_rfl,rfl⟩
 |c::r,f,ks=>by
  have h:=zly r (addNY f (clsN (fun i=>decide (i=c)))) (ks++[(f.nodes.length:Int)]);have e:(addNY f (clsN (fun i=>decide (i=c)))).nodes.length=f.nodes.length+1:=by show(f.nodes++[_]).length=_;rw[List.length_append];rfl
  rw[e,List.length_append] at h;refine⟨?_,?_,?_,h.2.2.2⟩
  ·show(litF (addNY f _) r _).1.nodes.length=_;rw[h.1,List.length_cons];omega
  ·show(litF (addNY f _) r _).2.length=_;rw[h.2.1,List.length_cons,List.length_cons];simp;omega
  ·exact(List.prefix_append _ _).trans h.2.2.1
theorem zrs (f:MF)(op:Int)(ks:List Int):f.nodes <+: (joinN f op ks).nodes/\(joinN f op ks).calls=f.calls/\(joinN f op ks).nodes.length<=f.nodes.length+1:=by
 have key:∀n:PN,f.nodes <+: (addNY f n).nodes/\(addNY f n).calls=f.calls/\(addNY f n).nodes.length<=f.nodes.length+1:=fun n=>⟨List.prefix_append _ _,rfl,by show(f.nodes++[n]).length<=_;rw[List.length_append];exact Nat.le_refl _⟩
 match ks with
 | []=>exact key _
 | [_]=>exact⟨List.prefix_rfl,rfl,Nat.le_succ _⟩
 |_::_::_=>exact key _
theorem zxo (f:MF)(l:List Nat):f.nodes <+: (litN f l).nodes/\(litN f l).calls=f.calls/\(litN f l).nodes.length<=f.nodes.length+(l.length+1):=by
 have h1:=zly l f [];have h2:=zrs (litF f l []).1 3 (litF f l []).2;unfold litN;exact⟨h1.2.2.1.trans h2.1,by rw[h2.2.1,h1.2.2.2],by omega⟩
theorem Gr.prim {st:Bool}{room:Nat}{rec:List Tok->MF->PO}(h:Grow 0 2 rec):Grow 1 0 (primL st room rec):=by
 intro ts f;cases ts with
 |nil=>exact Over.refl _
 |cons t tl=>
  unfold primL;dsimp only;have w0:wt (t::tl)=t.text.length+3+wt tl:=rfl;have hkd:kd (t::tl)=t.kind:=rfl;by_cases h1:t.kind=1
  ·rw[if_pos h1]
   split
   ·exact Over.tail (ts:=t::tl) (by omega) (by omega)
   ·exact Gr.acc (ts:=t::tl) (m:=1) (by omega) (by omega) (List.prefix_append _ _) (List.prefix_append _ _) (by show(f.nodes++[_]).length<=_;rw[List.length_append];exact Nat.le_refl _) (by show wt tl+1<=_;omega) (by show(f.calls++[_]).length<=_;rw[List.length_append];exact Nat.le_refl _)
  ·rw[if_neg h1]
   by_cases h9:t.kind=9
   ·rw[if_pos h9]
    split
    ·exact Over.refl _
    ·have ha:Gr 1 0 (t::tl) f (Go.Proofs.YthhppmehhdlmnaaGreatDoor.acc st tl f):=Gr.acc (ts:=t::tl) (m:=0) (by omega) (by omega) List.prefix_rfl List.prefix_rfl (Nat.le_refl _) (by show wt tl+0<=_;omega) (Nat.le_succ _)
     have hs:Over (t::tl) tl:=Over.tail (ts:=t::tl) (by omega) (by omega);unfold Go.Proofs.YthhppmehhdlmnaaGreatDoor.acc;split
     ·exact hs
     ·show Gr 1 0 (t::tl) f ((rec tl f).bind _)
      have hr:=h tl f;generalize rec tl f=o at hr;cases o with
      |bad a d=>exact hs.trans hr
      |ok a g=>
       obtain⟨s1,l1,n1,m1,w1,q1⟩:=hr;show Gr 1 0 (t::tl) f (closL st a g);unfold closL;split
       ·rename_i h10
        have ht:=zb6 (ts:=a) (by omega);unfold Go.Proofs.YthhppmehhdlmnaaGreatDoor.acc;have hs2:=(hs.trans s1).trans (Over.tail (ts:=a) (by omega) (by omega));split
        ·exact hs2
        ·exact⟨hs2,by rw[List.length_cons];omega,n1,m1,by omega,by rw[List.length_cons];omega⟩
       ·exact hs.trans s1
   ·rw[if_neg h9]
    by_cases h12:t.kind=12
    ·rw[if_pos h12]
     have hl:=zxo f t.text;exact Gr.acc (ts:=t::tl) (m:=t.text.length+1) (by omega) (by omega) hl.1 (by rw[hl.2.1];exact List.prefix_rfl) hl.2.2 (by show wt tl+_<=_;omega) (by rw[hl.2.1];exact Nat.le_succ _)
    ·rw[if_neg h12]
     have one:∀n:PN,Gr 1 0 (t::tl) f (Go.Proofs.YthhppmehhdlmnaaGreatDoor.acc st tl (addNY f n))->Gr 1 0 (t::tl) f (Go.Proofs.YthhppmehhdlmnaaGreatDoor.acc st tl (addNY f n)):=fun _ h=>h
     have ad:∀n:PN,kd (t::tl)≠0->kd (t::tl)≠99->Gr 1 0 (t::tl) f (Go.Proofs.YthhppmehhdlmnaaGreatDoor.acc st tl (addNY f n)):=fun n e0 e9=>
      Gr.acc (ts:=t::tl) (m:=1) e0 e9 (List.prefix_append _ _) List.prefix_rfl (by show(f.nodes++[n]).length<=_;rw[List.length_append];exact Nat.le_refl _) (by show wt tl+1<=_;omega) (Nat.le_succ _)
     by_cases h13:t.kind=13
     ·rw[if_pos h13];exact ad _ (by omega) (by omega)
     ·rw[if_neg h13]
      by_cases h11:t.kind=11
      ·rw[if_pos h11];exact ad _ (by omega) (by omega)
      ·rw[if_neg h11];exact Over.refl _
theorem Gr.add1 {ts:List Tok}{f:MF}{st:Bool}(n:PN)(h0:kd ts≠0)(h9:kd ts≠99):Gr 1 0 ts f (Go.Proofs.YthhppmehhdlmnaaGreatDoor.acc st ts.tail (addNY f n)):=by
 have:=zb6 h0;exact Gr.acc (m:=1) h0 h9 (List.prefix_append _ _) List.prefix_rfl (by show(f.nodes++[n]).length<=_;rw[List.length_append];exact Nat.le_refl _) (by omega) (Nat.le_succ _)
theorem Gr.stay (ts:List Tok)(f:MF):Gr 0 0 ts f (.ok ts f):=⟨Over.refl _,Nat.le_refl _,List.prefix_rfl,List.prefix_rfl,Nat.le_refl _,Nat.le_refl _⟩
theorem Gr.weak {k c k' c':Nat}{ts:List Tok}{f:MF}{o:PO}(h:Gr k c ts f o)(hk:k'<=k)(hc:c<=c'):Gr k' c' ts f o:=by
 cases o with
 |bad a d=>exact h
 |ok a g=>exact⟨h.1,by have:=h.2.1;omega,h.2.2.1,h.2.2.2.1,by have:=h.2.2.2.2.1;omega,h.2.2.2.2.2⟩
theorem Gr.sufK {st:Bool}:Grow 0 0 (sufK st):=by
 intro ts f;unfold Go.Proofs.YthhppmehhdlmnaaGreatDoor.sufK;split
 ·rename_i h
  exact(Gr.add1 _ (by omega) (by omega)).weak (Nat.zero_le _) (Nat.le_refl _)
 ·exact Gr.stay _ _
theorem Gr.suf {st:Bool}{room:Nat}{rec:List Tok->MF->PO}(h:Grow 0 2 rec):Grow 1 0 (sufL st room rec):=fun ts f=>Gr.bind (Gr.prim h ts f) (fun a g=>Gr.sufK a g) (Nat.le_refl _) (Nat.le_refl _)
theorem Gr.pre {st:Bool}{room:Nat}{rec:List Tok->MF->PO}(h:Grow 0 2 rec):Grow 1 0 (preL st room rec):=by
 intro ts f;unfold preL;split
 ·have ht:=zb6 (ts:=ts) (by omega)
  have hs:=Over.tail (ts:=ts) (by omega) (by omega);unfold Go.Proofs.YthhppmehhdlmnaaGreatDoor.acc;split
  ·exact hs
  ·show Gr 1 0 ts f ((sufL st room rec ts.tail f).bind _)
   have hr:=Gr.suf (st:=st) (room:=room) h ts.tail f;generalize sufL st room rec ts.tail f=o at hr;cases o with
   |bad a d=>exact hs.trans hr
   |ok a g=>
    obtain⟨s1,l1,n1,m1,w1,q1⟩:=hr;exact⟨hs.trans s1,by omega,n1.trans (List.prefix_append _ _),m1,by show(g.nodes++[_]).length+_<=_;rw[List.length_append,List.length_singleton];omega,by show g.calls.length+_<=_;omega⟩
 ·exact Gr.suf h ts f
theorem Gr.join (a:List Tok)(g:MF)(op:Int)(ks:List Int):Gr 0 1 a g (.ok a (joinN g op ks)):=by
 have h:=zrs g op ks;exact⟨Over.refl _,Nat.le_refl _,h.1,by rw[h.2.1];exact List.prefix_rfl,by omega,by rw[h.2.1];exact Nat.le_refl _⟩
theorem Gr.parts {top:Bool}{pre:List Tok->MF->PO}(h:Grow 1 0 pre):∀(n:Nat) (ts:List Tok) (f:MF) (ks:List Int),Gr 0 1 ts f (zb8 top pre n ts f ks)
 |0,ts,f,ks=>Over.refl _
 |n+1,ts,f,ks=>by
  cases hb:begBY top ts
  ·rw[za0 hb];exact Gr.join _ _ _ _
  ·rw[zbw hb];exact Gr.bind (h ts f) (fun a g=>Gr.parts h n a g _) (Nat.zero_le _) (Nat.le_refl _)
theorem Gr.seq {top:Bool}{pre:List Tok->MF->PO}(h:Grow 1 0 pre):Grow 0 1 (seqL top pre):=fun ts f=>Gr.parts h _ ts f _
theorem Gr.alts {st:Bool}{sq:List Tok->MF->PO}(h:Grow 0 1 sq):∀(n:Nat) (ts:List Tok) (f:MF) (ks:List Int),Gr 0 2 ts f (altsL st sq n ts f ks)
 |0,ts,f,ks=>Over.refl _
 |n+1,ts,f,ks=>by
  rw[zcq];refine Gr.bind (k':=0) (c':=1) (h ts f) (fun a g=>?_) (Nat.zero_le _) (Nat.le_refl _);by_cases h3:kd a=3
  ·rw[if_pos h3]
   have ht:=zb6 (ts:=a) (by omega);have hs:=Over.tail (ts:=a) (by omega) (by omega);unfold Go.Proofs.YthhppmehhdlmnaaGreatDoor.acc;split
   ·exact hs
   ·show Gr 0 1 a g (altsL st sq n a.tail g _)
    have hr:=Gr.alts (st:=st) h n a.tail g (ks++[lastI g]);generalize altsL st sq n a.tail g (ks++[lastI g])=o at hr;cases o with
    |bad b d=>exact hs.trans hr
    |ok b u=>
     obtain⟨s1,l1,n1,m1,w1,q1⟩:=hr;exact⟨hs.trans s1,by omega,n1,m1,by omega,by omega⟩
  ·rw[if_neg h3];exact Gr.join _ _ _ _
theorem Gr.inL {st:Bool}:∀r,Grow 0 2 (inL st r)
 |0=>fun ts f=>Over.refl _
 |r+1=>fun ts f=>by
  show Gr 0 2 ts f (exprL st r false ts f);rw[zlv];exact Gr.alts (Gr.seq (Gr.pre (Gr.inL r))) _ ts f _
theorem Gr.expr {st:Bool}(r:Nat)(top:Bool):Grow 0 2 (exprL st r top):=fun ts f=>by
 rw[zlv];exact Gr.alts (Gr.seq (Gr.pre (Gr.inL r))) _ ts f _
def txt (ts:List Tok):List Nat:=match ts with
 | []=>[]
 |t::_=>t.text
def pos (ts:List Tok):Nat:=match ts with
 | []=>0
 |t::_=>t.at_
def defL (st:Bool)(F:List Tok->MF->PO)(ts:List Tok)(f:MF):PO:=
 if kd ts=1 then (acc st ts.tail f).bind fun a g=>if kd a=2 then (acc st a.tail g).bind F else .bad a false else .bad ts false
inductive FO where
 |ok (rs:List (List Nat × Nat × Int)) (f:MF)
 |bad (ts:List Tok) (deep:Bool)
def defsL (st:Bool)(F:List Tok->MF->PO):Nat->List Tok->MF->List (List Nat × Nat × Int)->FO
 |0,ts,_,_=>.bad ts false
 |n+1,ts,f,rs=>match defL st F ts f with
  |.bad a d=>.bad a d
  |.ok a g=>if kd a=0 then .ok (rs++[(txt ts,pos ts,lastI g)]) g else defsL st F n a g (rs++[(txt ts,pos ts,lastI g)])
def fileL (l:List Nat):FO:=if kd (strm l 0)=99 then .bad (strm l 0) false else defsL false (exprL false 200 true) ((strm l 0).length+1) (strm l 0) ⟨[],[]⟩ []
def zfb (l:List Nat):FO:=defsL true (exprL true 200 true) ((strm l 0).length+1) (strm l 0) ⟨[],[]⟩ []
def Endy:List Tok->Prop
 | []=>False
 | [t]=>t.kind=0∨t.kind=99
 |t::u::r=>(t.kind≠0/\t.kind<=13)/\Endy (u::r)
theorem Endy.tail {ts:List Tok}(h:Endy ts)(h0:kd ts≠0)(h9:kd ts≠99):Endy ts.tail:=by
 match ts,h with
 | [t],h=>
       rcases h with h|h
       ·exact absurd h h0
       ·exact absurd h h9
 |t::u::r,h=>exact h.2
theorem Endy.kind {ts:List Tok}(h:Endy ts):kd ts<=13∨kd ts=99:=by
 match ts,h with
 | [t],h=>
       rcases h with h|h
       ·exact .inl (by show t.kind<=13;omega)
       ·exact .inr h
 |t::u::r,h=>exact .inl h.1.2
theorem Endy.ne {ts:List Tok}(h:Endy ts):ts≠[]:=by intro e;subst e;exact h
theorem z1q {p r:List Tok->MF->PO}(h:RelF p r)(ts:List Tok)(f:MF):Rel (defL false p ts f) (defL true r ts f):=by
 unfold defL;by_cases h1:kd ts=1
 ·rw[if_pos h1,if_pos h1]
  refine Rel.accb (fun e=>?_) (fun e=>?_)
  ·by_cases h2:kd ts.tail=2
   ·rw[if_pos h2,if_pos h2]
    exact Rel.accb (fun e=>h.1 _ _ e) (fun e=>h.at99 _ _ e)
   ·rw[if_neg h2,if_neg h2]
    exact Rel.same _ _
  ·rw[if_neg (by omega)]
   exact Rel.same _ _
 ·rw[if_neg h1,if_neg h1]
  exact Rel.same _ _
theorem zlz {st:Bool}{F:List Tok->MF->PO}(n:Nat){ts:List Tok}(h:kd ts≠1)(f:MF)(rs:List (List Nat × Nat × Int)):defsL st F n ts f rs=.bad ts false:=by
 cases n with
 |zero=>rfl
 |succ n=>
  have e:defL st F ts f=.bad ts false:=if_neg h;unfold defsL;rw[e]
theorem zj4 {p r:List Tok->MF->PO}(h:RelF p r):∀(n:Nat) (ts:List Tok) (f:MF) (rs:List (List Nat × Nat × Int)),defsL false p n ts f rs=defsL true r n ts f rs
 |0,_,_,_=>rfl
 |n+1,ts,f,rs=>by
  have hr:=z1q h ts f;unfold defsL;generalize defL false p ts f=o at hr ⊢;generalize defL true r ts f=u at hr ⊢;cases o with
  |ok a g=>
   cases u with
   |ok b k=>
    obtain⟨rfl,rfl,h9⟩:=hr;dsimp only;rw[zj4 h n]
   |bad b d=>
    obtain⟨rfl,rfl,h2⟩:=hr;dsimp only;rw[if_neg (by omega),zlz n (by omega)]
  |bad a d=>
   cases u with
   |ok b k=>
    obtain⟨rfl,rfl,h9⟩:=hr;dsimp only;rw[if_neg (by omega),zlz n (by omega)]
   |bad b d'=>
    obtain⟨rfl,rfl⟩:=hr;rfl
theorem z1r (l:List Nat):fileL l=zfb l:=by
 unfold fileL zfb;by_cases h:kd (strm l 0)=99
 ·rw[if_pos h,zlz _ (by omega)]
 ·rw[if_neg h]
  exact zj4 (Rel.expr 200 true) _ _ _ _
def shN (n0 c0:Nat)(n:PN):PN:=⟨n.op,n.kids.map (· + (n0:Int)),if n.op=2 then n.rule+(c0:Int) else n.rule,n.s0,n.s1,n.s2,n.s3⟩
theorem z8p (n0 c0:Nat)(op:Int)(ks:List Int)(h:op≠2):shN n0 c0 (mkN op ks)=mkN op (ks.map (· + (n0:Int))):=by
 show PN.mk op _ (if op=2 then _ else (0:Int)) 0 0 0 0=_;rw[if_neg h];rfl
theorem z6a (n0 c0:Nat)(g:Nat->Bool):shN n0 c0 (clsN g)=clsN g:=rfl
theorem z1s (n0 c0 i:Nat):shN n0 c0 (callN i)=callN (c0+i):=by
 show PN.mk 2 [] (((i:Nat):Int)+(c0:Int)) 0 0 0 0=PN.mk 2 [] (((c0+i:Nat):Int)) 0 0 0 0;congr 1;omega
section
variable (d:Nat) (N0:List PN) (C0:List (List Nat × Nat))
def phi (f:MF):MF:=⟨N0++f.nodes.map (shN N0.length C0.length),C0++f.calls.map fun c=>(c.1,c.2+d)⟩
def mvT (ts:List Tok):List Tok:=ts.map (shT d)
def mvK (ks:List Int):List Int:=ks.map (· + (N0.length:Int))
def mvP (o:PO):PO:=match o with
 |.ok ts f=>.ok (mvT d ts) (phi d N0 C0 f)
 |.bad ts dp=>.bad (mvT d ts) dp
def Hom (F:List Tok->MF->PO):Prop:=∀ts f,F (mvT d ts) (phi d N0 C0 f)=mvP d N0 C0 (F ts f)
variable {d N0 C0}
theorem zfc (ts:List Tok):kd (mvT d ts)=kd ts:=by cases ts<;>rfl
theorem zd1 (ts:List Tok):(mvT d ts).tail=mvT d ts.tail:=by cases ts<;>rfl
theorem zgt (ts:List Tok):(mvT d ts).length=ts.length:=List.length_map _
theorem zj5 (f:MF):(phi d N0 C0 f).nodes.length=N0.length+f.nodes.length:=by
 show(N0++f.nodes.map _).length=_;rw[List.length_append,List.length_map]
theorem zxp (f:MF):(phi d N0 C0 f).calls.length=C0.length+f.calls.length:=by
 show(C0++f.calls.map _).length=_;rw[List.length_append,List.length_map]
theorem zhn (f:MF):lastI (phi d N0 C0 f)=lastI f+(N0.length:Int):=by
 unfold lastI;rw[zj5];omega
theorem zxq (f:MF)(n:PN):addNY (phi d N0 C0 f) (shN N0.length C0.length n)=phi d N0 C0 (addNY f n):=by
 show MF.mk ((N0++f.nodes.map _)++[_]) _=MF.mk (N0++(f.nodes++[n]).map _) _;rw[List.map_append,List.append_assoc];rfl
theorem zrt (f:MF)(op:Int)(ks:List Int)(h:op≠2):addNY (phi d N0 C0 f) (mkN op (mvK N0 ks))=phi d N0 C0 (addNY f (mkN op ks)):=by
 rw[<-zxq,z8p _ _ _ _ h];rfl
theorem zpm (f:MF)(g:Nat->Bool):addNY (phi d N0 C0 f) (clsN g)=phi d N0 C0 (addNY f (clsN g)):=by
 rw[<-zxq,z6a]
theorem z1t (f:MF)(t:Tok):callF (phi d N0 C0 f) (shT d t)=phi d N0 C0 (callF f t):=by
 unfold callF;rw[zxp,<-z1s N0.length];show MF.mk ((N0++f.nodes.map _)++[_]) ((C0++f.calls.map _)++[_])=MF.mk (N0++(f.nodes++[_]).map _) (C0++(f.calls++[_]).map _);rw[List.map_append,List.map_append,List.append_assoc,List.append_assoc];rfl
theorem zl0 (f:MF)(op:Int)(ks:List Int)(h:op≠2):joinN (phi d N0 C0 f) op (mvK N0 ks)=phi d N0 C0 (joinN f op ks):=by
 match ks with
 | []=>exact zrt f 0 [] (by decide)
 | [_]=>rfl
 |a::b::r=>exact zrt f op (a::b::r) h
theorem zru:∀(l:List Nat) (f:MF) (ks:List Int),litF (phi d N0 C0 f) l (mvK N0 ks)=(phi d N0 C0 (litF f l ks).1,mvK N0 (litF f l ks).2)
 | [],f,ks=>rfl
 |c::r,f,ks=>by
  show litF (addNY (phi d N0 C0 f) (clsN _)) r (mvK N0 ks++[((phi d N0 C0 f).nodes.length:Int)])=_;have e:mvK N0 ks++[((phi d N0 C0 f).nodes.length:Int)]=mvK N0 (ks++[(f.nodes.length:Int)]):=by
   unfold mvK;rw[List.map_append,zj5];show _++[(((N0.length+f.nodes.length:Nat)):Int)]=_++[(f.nodes.length:Int)+(N0.length:Int)];congr 2;omega
  rw[zpm,e,zru r];rfl
theorem z6b (f:MF)(text:List Nat):litN (phi d N0 C0 f) text=phi d N0 C0 (litN f text):=by
 unfold litN;have h:=zru (d:=d) (N0:=N0) (C0:=C0) text f [];have h':litF (phi d N0 C0 f) text []=(phi d N0 C0 (litF f text []).1,mvK N0 (litF f text []).2):=h;rw[h'];exact zl0 _ 3 _ (by decide)
theorem zeo (st:Bool)(ts:List Tok)(f:MF):acc st (mvT d ts) (phi d N0 C0 f)=mvP d N0 C0 (acc st ts f):=by
 unfold acc;rw[zfc];split<;>rfl
theorem zdd {o:PO}{j k:List Tok->MF->PO}(h:∀a g,k (mvT d a) (phi d N0 C0 g)=mvP d N0 C0 (j a g)):(mvP d N0 C0 o).bind k=mvP d N0 C0 (o.bind j):=by
 cases o with
 |ok a g=>exact h a g
 |bad a dp=>rfl
theorem Hom.clos (st:Bool):Hom d N0 C0 (closL st):=by
 intro ts f;unfold closL;rw[zfc,zd1];split
 ·exact zeo _ _ _
 ·rfl
theorem Hom.prim {st:Bool}{room:Nat}{rec:List Tok->MF->PO}(h:Hom d N0 C0 rec):Hom d N0 C0 (primL st room rec):=by
 intro ts f;cases ts with
 |nil=>rfl
 |cons t tl=>
  show primL st room rec (shT d t::mvT d tl) (phi d N0 C0 f)=_;unfold primL;dsimp only;have hk:(shT d t).kind=t.kind:=rfl;rw[hk,zfc];split
  ·split
   ·rfl
   ·rw[z1t];exact zeo _ _ _
  ·split
   ·split
    ·rfl
    ·rw[zeo]
     refine zdd fun a b=>?_
     rw[h a b];exact zdd fun c e=>Hom.clos st c e
   ·split
    ·rw[show(shT d t).text=t.text from rfl,z6b];exact zeo _ _ _
    ·split
     ·rw[show(shT d t).rs=t.rs from rfl,zpm];exact zeo _ _ _
     ·split
      ·rw[zpm];exact zeo _ _ _
      ·rfl
theorem zrv (k:Nat):sufOp k≠2:=by
 unfold sufOp;split
 ·decide
 ·split<;>decide
theorem zrw (k:Nat):preOp k≠2:=by
 unfold preOp;split<;>decide
theorem Hom.sufK (st:Bool):Hom d N0 C0 (sufK st):=by
 intro ts f;unfold Go.Proofs.YthhppmehhdlmnaaGreatDoor.sufK;rw[zfc,zd1];split
 ·have e:[lastI (phi d N0 C0 f)]=mvK N0 [lastI f]:=by rw[zhn];rfl
  rw[e,zrt _ _ _ (zrv _)];exact zeo _ _ _
 ·rfl
theorem Hom.suf {st:Bool}{room:Nat}{rec:List Tok->MF->PO}(h:Hom d N0 C0 rec):Hom d N0 C0 (sufL st room rec):=by
 intro ts f;unfold sufL;rw[Hom.prim h ts f];exact zdd fun a g=>Hom.sufK st a g
theorem Hom.pre {st:Bool}{room:Nat}{rec:List Tok->MF->PO}(h:Hom d N0 C0 rec):Hom d N0 C0 (preL st room rec):=by
 intro ts f;unfold preL;rw[zfc,zd1];split
 ·rw[zeo]
  refine zdd fun a b=>?_
  rw[Hom.suf h a b];refine zdd fun c e=>?_
  have e1:[lastI (phi d N0 C0 e)]=mvK N0 [lastI e]:=by rw[zhn];rfl
  rw[e1,zrt _ _ _ (zrw _)];rfl
 ·exact Hom.suf h ts f
theorem z3z (top:Bool)(ts:List Tok):begBY top (mvT d ts)=begBY top ts:=by
 unfold begBY;rw[zfc,zd1,zfc]
theorem Hom.parts {top:Bool}{pre:List Tok->MF->PO}(h:Hom d N0 C0 pre):∀(n:Nat) (ts:List Tok) (f:MF) (ks:List Int),zb8 top pre n (mvT d ts) (phi d N0 C0 f) (mvK N0 ks)=mvP d N0 C0 (zb8 top pre n ts f ks)
 |0,_,_,_=>rfl
 |n+1,ts,f,ks=>by
  cases hb:begBY top ts
  ·rw[za0 hb,za0 (by rw[z3z];exact hb),zl0 _ _ _ (by decide)]
   rfl
  ·rw[zbw hb,zbw (by rw[z3z];exact hb),h ts f]
   refine zdd fun a g=>?_
   have e:mvK N0 ks++[lastI (phi d N0 C0 g)]=mvK N0 (ks++[lastI g]):=by
    unfold mvK;rw[List.map_append,zhn];rfl
   rw[e];exact Hom.parts h n a g _
theorem Hom.seq {top:Bool}{pre:List Tok->MF->PO}(h:Hom d N0 C0 pre):Hom d N0 C0 (seqL top pre):=by
 intro ts f;unfold seqL;rw[zgt];exact Hom.parts h _ ts f []
theorem Hom.alts {st:Bool}{sq:List Tok->MF->PO}(h:Hom d N0 C0 sq):∀(n:Nat) (ts:List Tok) (f:MF) (ks:List Int),altsL st sq n (mvT d ts) (phi d N0 C0 f) (mvK N0 ks)=mvP d N0 C0 (altsL st sq n ts f ks)
 |0,_,_,_=>rfl
 |n+1,ts,f,ks=>by
  rw[zcq,zcq,h ts f];refine zdd fun a g=>?_
  have e:mvK N0 ks++[lastI (phi d N0 C0 g)]=mvK N0 (ks++[lastI g]):=by
   unfold mvK;rw[List.map_append,zhn];rfl
  rw[zfc,zd1,e];split
  ·rw[zeo]
   exact zdd fun b k=>Hom.alts h n b k _
  ·rw[zl0 _ _ _ (by decide)]
   rfl
theorem Hom.none:Hom d N0 C0 fun a _=>.bad a false:=fun _ _=>rfl
theorem Hom.expr (st:Bool):∀(r:Nat) (top:Bool),Hom d N0 C0 (exprL st r top)
 |0,_=>fun ts f=>by
  show altsL st _ ((mvT d ts).length+1) _ _ []=_;rw[zgt];exact Hom.alts (Hom.seq (Hom.pre Hom.none)) _ ts f []
 |r+1,_=>fun ts f=>by
  show altsL st _ ((mvT d ts).length+1) _ _ []=_;rw[zgt];exact Hom.alts (Hom.seq (Hom.pre (Hom.expr st r false))) _ ts f []
theorem Hom.defL {st:Bool}{F:List Tok->MF->PO}(h:Hom d N0 C0 F):Hom d N0 C0 (defL st F):=by
 intro ts f;unfold Go.Proofs.YthhppmehhdlmnaaGreatDoor.defL;rw[zfc,zd1];split
 ·rw[zeo]
  refine zdd fun a g=>?_
  rw[zfc,zd1];split
  ·rw[zeo]
   exact zdd fun b k=>h b k
  ·rfl
 ·rfl
end
theorem z1u {st:Bool}{F:List Tok->MF->PO}{ts a:List Tok}{f g:MF}(h:defL st F ts f=.ok a g):kd ts=1:=by
 unfold defL at h;split at h
 ·assumption
 ·cases h
theorem zj6 {top:Bool}{pre:List Tok->MF->PO}(m:Nat):∀(n:Nat) (ts a:List Tok) (f g:MF) (ks:List Int),zb8 top pre n ts f ks=.ok a g->zb8 top pre (n+m) ts f ks=.ok a g
 |0,_,_,_,_,_,h=>by cases h
 |n+1,ts,a,f,g,ks,h=>by
  rw[Nat.add_right_comm];cases hb:begBY top ts
  ·rw[za0 hb] at h ⊢;exact h
  ·rw[zbw hb] at h ⊢
   cases hp:pre ts f with
   |bad b dp=>rw[hp] at h;cases h
   |ok b k=>rw[hp] at h;exact zj6 m n b a k g _ h
theorem znj {st:Bool}{sq:List Tok->MF->PO}(m:Nat):∀(n:Nat) (ts a:List Tok) (f g:MF) (ks:List Int),altsL st sq n ts f ks=.ok a g->altsL st sq (n+m) ts f ks=.ok a g
 |0,_,_,_,_,_,h=>by cases h
 |n+1,ts,a,f,g,ks,h=>by
  rw[Nat.add_right_comm];rw[zcq] at h ⊢;cases hp:sq ts f with
  |bad b dp=>rw[hp] at h;cases h
  |ok b k=>
   rw[hp] at h;rw[PO.bind_ok] at h ⊢;by_cases h3:kd b=3
   ·rw[if_pos h3] at h ⊢
    cases ha:acc st b.tail k with
    |bad c dp=>rw[ha] at h;cases h
    |ok c e=>rw[ha] at h;exact znj m n c a e g _ h
   ·rw[if_neg h3] at h ⊢;exact h
theorem zbf (ts:List Tok)(f:MF):acc true ts f=.ok ts f:=if_neg (by simp)
theorem zcr {o:PO}{j:List Tok->MF->PO}{a:List Tok}{g:MF}(h:o.bind j=.ok a g):∃b k,o=.ok b k/\j b k=.ok a g:=by
 cases o with
 |ok b k=>exact⟨b,k,rfl,h⟩
 |bad b d=>cases h
section
variable (e:Tok) (rest:List Tok)
def Con (P:List Tok->Prop)(F:List Tok->MF->PO):Prop:=∀us f a g,F (us++[e]) f=.ok a g->P a->∃vs,a=vs++[e]/\F (us++rest) f=.ok (vs++rest) g
variable {e rest} (he:e.kind=0) (h1:kd rest=1) (h2:kd rest.tail=2)
theorem Con.bind {P:List Tok->Prop}{F J:List Tok->MF->PO}(hF:Con e rest (fun _=>True) F)(hJ:Con e rest P J):Con e rest P fun ts f=>(F ts f).bind J:=by
 intro us f a g h hp;obtain⟨b,k,hb,hj⟩:=zcr h;obtain⟨vs,rfl,h3⟩:=hF us f b k hb trivial;obtain⟨xs,rfl,h4⟩:=hJ vs k a g hj hp;refine⟨xs,rfl,?_⟩;show(F (us++rest) f).bind J=_;rw[h3];exact h4
include he h1
theorem z30 (us:List Tok):kd (us++[e])=kd (us++rest)∨(us=[]/\kd (us++[e])=0/\kd (us++rest)=1):=by
 cases us with
 |nil=>exact .inr ⟨rfl,he,h1⟩
 |cons u us=>exact .inl rfl
theorem Con.prim {room:Nat}{rec:List Tok->MF->PO}(h:Con e rest (fun c=>kd c≠0) rec):Con e rest (fun _=>True) (primL true room rec):=by
 intro us f a g ha _;cases us with
 |nil=>
  have ha:primL true room rec [e] f=.ok a g:=ha;unfold primL at ha;dsimp only at ha;rw[if_neg (by omega),if_neg (by omega),if_neg (by omega),if_neg (by omega),if_neg (by omega)] at ha;cases ha
 |cons t tl=>
  have ha:primL true room rec (t::(tl++[e])) f=.ok a g:=ha;show ∃vs,_/\primL true room rec (t::(tl++rest)) f=_;unfold primL at ha ⊢;dsimp only at ha ⊢;by_cases k1:t.kind=1
  ·rw[if_pos k1] at ha ⊢
   by_cases k2:true=true/\(kd (tl++[e])=2∨kd (tl++[e])=99)
   ·rw[if_pos k2] at ha;cases ha
   ·rw[if_neg k2,zbf] at ha
    cases ha;refine⟨tl,rfl,?_⟩;rw[if_neg,zbf];rcases z30 he h1 tl with e'|⟨-,-,e'⟩
    ·rw[<-e'];exact k2
    ·rw[e'];simp
  ·rw[if_neg k1] at ha ⊢
   by_cases k9:t.kind=9
   ·rw[if_pos k9] at ha ⊢
    by_cases hr:room=0
    ·rw[if_pos hr] at ha;cases ha
    ·rw[if_neg hr,zbf] at ha ⊢
     have ha:((rec (tl++[e]) f).bind fun c d=>closL true c d)=.ok a g:=ha;show ∃vs,_/\((rec (tl++rest) f).bind fun c d=>closL true c d)=_;obtain⟨c,k,hc,hk⟩:=zcr ha;unfold closL at hk;by_cases h10:kd c=10
     ·rw[if_pos h10,zbf] at hk
      cases hk;obtain⟨vs,rfl,h3⟩:=h tl f c g hc (by omega);cases vs with
      |nil=>exact absurd h10 (by show ¬e.kind=10;omega)
      |cons v vs=>
       refine⟨vs,rfl,?_⟩;rw[h3];show closL true (v::(vs++rest)) g=_;unfold closL;rw[if_pos (show kd (v::(vs++rest))=10 from h10),zbf];rfl
     ·rw[if_neg h10] at hk;cases hk
   ·rw[if_neg k9] at ha ⊢
    by_cases k12:t.kind=12
    ·rw[if_pos k12,zbf] at ha ⊢;cases ha;exact⟨tl,rfl,rfl⟩
    ·rw[if_neg k12] at ha ⊢
     by_cases k13:t.kind=13
     ·rw[if_pos k13,zbf] at ha ⊢;cases ha;exact⟨tl,rfl,rfl⟩
     ·rw[if_neg k13] at ha ⊢
      by_cases k11:t.kind=11
      ·rw[if_pos k11,zbf] at ha ⊢;cases ha;exact⟨tl,rfl,rfl⟩
      ·rw[if_neg k11] at ha;cases ha
theorem Con.sufK:Con e rest (fun _=>True) (sufK true):=by
 intro us f a g ha _;cases us with
 |nil=>
  have hk:kd ([]++[e])=0:=he;have hr:kd ([]++rest)=1:=h1;rw[zlw (by omega)] at ha;cases ha;exact⟨[],rfl,zlw (by omega)⟩
 |cons t tl=>
  unfold Go.Proofs.YthhppmehhdlmnaaGreatDoor.sufK at ha ⊢;have e1:kd (t::tl++[e])=t.kind:=rfl;have e2:kd (t::tl++rest)=t.kind:=rfl;rw[e1] at ha;rw[e2];by_cases h6:6<=t.kind/\t.kind<=8
  ·rw[if_pos h6,zbf] at ha ⊢
   cases ha;exact⟨tl,rfl,rfl⟩
  ·rw[if_neg h6] at ha ⊢
   cases ha;exact⟨t::tl,rfl,rfl⟩
theorem Con.suf {room:Nat}{rec:List Tok->MF->PO}(h:Con e rest (fun c=>kd c≠0) rec):Con e rest (fun _=>True) (sufL true room rec):=
 Con.bind (Con.prim he h1 h) (Con.sufK he h1)
theorem Con.pre {room:Nat}{rec:List Tok->MF->PO}(h:Con e rest (fun c=>kd c≠0) rec):Con e rest (fun _=>True) (preL true room rec):=by
 intro us f a g ha _;have hs:=Con.suf he h1 (room:=room) h;cases us with
 |nil=>
  have hk:kd ([]++[e])=0:=he;have hr:kd ([]++rest)=1:=h1;unfold preL at ha ⊢;rw[if_neg (by omega)] at ha ⊢;exact hs [] f a g ha trivial
 |cons t tl=>
  unfold preL at ha ⊢;have e1:kd (t::tl++[e])=t.kind:=rfl;have e2:kd (t::tl++rest)=t.kind:=rfl;rw[e1] at ha;rw[e2];by_cases h4:t.kind=4∨t.kind=5
  ·rw[if_pos h4,zbf] at ha ⊢
   have ha:((sufL true room rec (tl++[e]) f).bind fun c d=>PO.ok c (addNY d (mkN (preOp t.kind) [lastI d])))=.ok a g:=ha;show ∃vs,_/\((sufL true room rec (tl++rest) f).bind fun c d=>PO.ok c (addNY d (mkN (preOp t.kind) [lastI d])))=_;obtain⟨c,k,hc,hk⟩:=zcr ha;cases hk;obtain⟨vs,rfl,h3⟩:=hs tl f _ k hc trivial;exact⟨vs,rfl,by rw[h3];rfl⟩
  ·rw[if_neg h4] at ha ⊢
   exact hs (t::tl) f a g ha trivial
include h2
theorem zrx (top:Bool)(us:List Tok):begBY top (us++[e])=begBY top (us++rest)∨(us=[]/\(top=true->begBY top (us++rest)=false)):=by
 match us with
 | []=>
  refine .inr ⟨rfl,fun ht=>?_⟩;subst ht;show begBY true rest=false;unfold begBY;rw[if_pos h1,h2];rfl
 | [u]=>
  left;show begBY top [u,e]=begBY top (u::rest);unfold begBY;have e1:kd [u,e]=u.kind:=rfl;have e2:kd (u::rest)=u.kind:=rfl;have e3:kd [u,e].tail=0:=he;have e4:kd (u::rest).tail=1:=h1;rw[e1,e2,e3,e4];rfl
 |u::v::us=>exact .inl rfl
theorem Con.parts {top:Bool}{pre:List Tok->MF->PO}(h:Con e rest (fun _=>True) pre):∀(n:Nat) (us:List Tok) (f:MF) (ks:List Int) (a:List Tok) (g:MF),zb8 top pre n (us++[e]) f ks=.ok a g->(top=true∨kd a≠0)->∃vs,a=vs++[e]/\zb8 top pre n (us++rest) f ks=.ok (vs++rest) g
 |0,_,_,_,_,_,ha,_=>by cases ha
 |n+1,us,f,ks,a,g,ha,hp=>by
  cases hb:begBY top (us++[e])
  ·rw[za0 hb] at ha
   cases ha;refine⟨us,rfl,?_⟩;rcases zrx he h1 h2 top us with e'|⟨rfl,e'⟩
   ·exact za0 (by rw[<-e'];exact hb)
   ·rcases hp with hp|hp
    ·exact za0 (e' hp)
    ·exact absurd (show kd ([]++[e])=0 from he) hp
  ·rw[zbw hb] at ha
   rcases zrx he h1 h2 top us with e'|⟨rfl,-⟩
   ·rw[zbw (by rw[<-e'];exact hb)]
    obtain⟨b,k,hbk,hk⟩:=zcr ha;obtain⟨vs,rfl,h3⟩:=h us f b k hbk trivial;rw[h3];exact Con.parts h n vs k _ a g hk hp
   ·exact absurd (zlx (top:=top) (ts:=[]++[e]) (.inl (show kd ([]++[e])=0 from he))) (by rw[hb];decide)
theorem Con.seq {top:Bool}{pre:List Tok->MF->PO}(h:Con e rest (fun _=>True) pre):Con e rest (fun a=>top=true∨kd a≠0) (seqL top pre):=by
 intro us f a g ha hp;unfold seqL at ha ⊢;obtain⟨vs,rfl,h3⟩:=Con.parts he h1 h2 h _ us f [] a g ha hp;refine⟨vs,rfl,?_⟩;have hl:1<=rest.length:=by
  cases rest with
  |nil=>cases h1
  |cons _ _=>simp
 have e:(us++rest).length+1=((us++[e]).length+1)+(rest.length-1):=by
  rw[List.length_append,List.length_append,List.length_singleton];omega
 rw[e];exact zj6 _ _ _ _ _ _ _ h3
omit h2 in
theorem Con.alts {top:Bool}{sq:List Tok->MF->PO}(h:Con e rest (fun a=>top=true∨kd a≠0) sq):∀(n:Nat) (us:List Tok) (f:MF) (ks:List Int) (a:List Tok) (g:MF),altsL true sq n (us++[e]) f ks=.ok a g->(top=true∨kd a≠0)->∃vs,a=vs++[e]/\altsL true sq n (us++rest) f ks=.ok (vs++rest) g
 |0,_,_,_,_,_,ha,_=>by cases ha
 |n+1,us,f,ks,a,g,ha,hp=>by
  rw[zcq] at ha ⊢;obtain⟨b,k,hbk,hk⟩:=zcr ha;by_cases h3:kd b=3
  ·rw[if_pos h3,zbf] at hk
   obtain⟨vs,rfl,h4⟩:=h us f b k hbk (.inr (by omega));rw[h4,PO.bind_ok];cases vs with
   |nil=>exact absurd h3 (by show ¬e.kind=3;omega)
   |cons v vs=>
    rw[if_pos (show kd (v::vs++rest)=3 from h3),zbf];exact Con.alts h n vs k _ a g hk hp
  ·rw[if_neg h3] at hk
   cases hk;obtain⟨vs,rfl,h4⟩:=h us f _ k hbk hp;rw[h4,PO.bind_ok];refine⟨vs,rfl,if_neg ?_⟩;rcases z30 he h1 vs with e'|⟨-,-,e'⟩
   ·rw[<-e'];exact h3
   ·omega
theorem Con.altsF {top:Bool}{sq:List Tok->MF->PO}(h:Con e rest (fun a=>top=true∨kd a≠0) sq):Con e rest (fun a=>top=true∨kd a≠0) fun ts f=>altsL true sq (ts.length+1) ts f []:=by
 intro us f a g ha hp;obtain⟨vs,rfl,h3⟩:=Con.alts he h1 h _ us f [] a g ha hp;refine⟨vs,rfl,?_⟩;have hl:1<=rest.length:=by
  cases rest with
  |nil=>cases h1
  |cons _ _=>simp
 have e:(us++rest).length+1=((us++[e]).length+1)+(rest.length-1):=by
  rw[List.length_append,List.length_append,List.length_singleton];omega
 show altsL true sq ((us++rest).length+1) _ _ _=_;rw[e];exact znj _ _ _ _ _ _ _ h3
omit he h1 h2 in
theorem Con.none {P:List Tok->Prop}:Con e rest P fun a _=>.bad a false:=fun _ _ _ _ ha _=>by cases ha
theorem Con.expr:∀(r:Nat) (top:Bool),Con e rest (fun a=>top=true∨kd a≠0) (exprL true r top)
 |0,_=>Con.altsF he h1 h2 (Con.seq he h1 h2 (Con.pre he h1 Con.none))
 |r+1,_=>Con.altsF he h1 h2 (Con.seq he h1 h2 (Con.pre he h1 fun us f a g ha hp=>Con.expr r false us f a g ha (.inr hp)))
omit h1 h2 in
theorem Con.defL {F:List Tok->MF->PO}(h:Con e rest (fun _=>True) F):Con e rest (fun _=>True) (defL true F):=by
 intro us f a g ha _;unfold Go.Proofs.YthhppmehhdlmnaaGreatDoor.defL at ha ⊢;split at ha
 ·rename_i k1
  cases us with
  |nil=>exact absurd k1 (by show ¬e.kind=1;omega)
  |cons u us=>
   rw[if_pos (show kd (u::us++rest)=1 from k1),zbf];rw[zbf] at ha;have ha:(if kd (us++[e])=2 then (acc true (us++[e]).tail f).bind F else PO.bad (us++[e]) false)=.ok a g:=ha;show ∃vs,_/\(if kd (us++rest)=2 then (acc true (us++rest).tail f).bind F else PO.bad (us++rest) false)=_;split at ha
   ·rename_i k2
    cases us with
    |nil=>exact absurd k2 (by show ¬e.kind=2;omega)
    |cons v us=>
     rw[if_pos (show kd (v::us++rest)=2 from k2),zbf];rw[zbf] at ha;exact h us f a g ha trivial
   ·cases ha
 ·cases ha
omit he h1 h2
include he h1
end
theorem znk (q:Nat):∀(n:Nat) (l:List Nat),l.length<=n->∀b m,litE q l=some (b,m)->b.length<=m/\((∀x,x ∈ l->x<256)->∀x,x ∈ b->x<256)
 |_,[],_,b,m,h=>by rw[zkp] at h;cases h
 |0,d::r,hn,_,_,_=>absurd hn (by rw[List.length_cons];omega)
 |n+1,d::r,hn,b,m,h=>by
  rw[List.length_cons] at hn;by_cases hd:d=q
  ·subst hd
   rw[zc2] at h;cases h;exact⟨by simp,fun _ x hx=>nomatch hx⟩
  ·cases hr:rdl (d::r) with
   |none=>rw[zkq hr hd] at h;cases h
   |some x=>
    obtain⟨c,k⟩:=x;have hk:=zfe _ _ _ hr;rw[List.length_cons] at hk;rw[zcg hr hd] at h;obtain⟨⟨b',m'⟩,h',e⟩:=Option.map_eq_some_iff.1 h;obtain⟨h1,h2⟩:=znk q n _ (by rw[List.length_drop,List.length_cons];omega) b' m' h';obtain⟨rfl,rfl⟩:=Prod.mk.inj e;refine⟨by rw[List.length_cons];show b'.length+1<=k+m';omega,fun hl x hx=>?_⟩;rcases List.mem_cons.1 hx with rfl|hx
    ·exact z3g _ hl _ _ hr
    ·exact h2 (fun y hy=>hl y (List.mem_of_mem_drop hy)) x hx
theorem zxr (k:Nat)(l:List Nat)(t:Tok)(n:Nat)(h:tokL k l=some (t,n)):k+t.text.length<=n/\((∀x,x ∈ l->x<256)->∀x,x ∈ t.text->x<256):=by
 cases l with
 |nil=>rw[zer] at h;cases h;exact⟨Nat.le_refl _,fun _ x hx=>nomatch hx⟩
 |cons c r=>
  cases hl:letB c true
  ·by_cases ha:c=60/\r.head?=some 45
   ·rw[zb2 hl ha] at h;cases h;exact⟨by show k+0<=k+2;omega,fun _ x hx=>nomatch hx⟩
   ·cases hs:signK c with
    |some i=>rw[zea hl ha hs] at h;cases h;exact⟨by show k+0<=k+1;omega,fun _ x hx=>nomatch hx⟩
    |none=>
     by_cases h91:c=91
     ·subst h91
      rw[zks] at h;obtain⟨⟨b,m⟩,h',e⟩:=Option.map_eq_some_iff.1 h;cases e;exact⟨by show k+0<=_;omega,fun _ x hx=>nomatch hx⟩
     ·by_cases hq:c=39∨c=34
      ·rw[zc3 hq] at h
       obtain⟨⟨b,m⟩,h',e⟩:=Option.map_eq_some_iff.1 h;obtain⟨h1,h2⟩:=znk c _ r (Nat.le_refl _) b m h';cases e;exact⟨by show k+b.length<=k+1+m;omega,fun hl x hx=>h2 (fun y hy=>hl y (List.mem_cons_of_mem _ hy)) x hx⟩
      ·rw[zhb hl ha hs h91 hq] at h;cases h
  ·rw[zck hl] at h
   cases h;refine⟨?_,fun hl x hx=>hl x (List.mem_of_mem_take hx)⟩;show k+((c::r).take (idL true (c::r))).length<=_;rw[List.length_take];omega
theorem ze2 (l:List Nat)(p:Nat)(t:Tok)(n:Nat)(h:nextL l p=.ok (t,n)):p+t.text.length<=n/\((∀x,x ∈ l->x<256)->∀x,x ∈ t.text->x<256):=by
 unfold nextL at h;split at h
 ·generalize (skipL (l.drop p)).1=m at h
  cases ht:tokL (p+m) (l.drop (p+m)) with
  |none=>rw[ht] at h;cases h
  |some x=>
   rw[ht] at h;cases h;obtain⟨h1,h2⟩:=zxr _ _ _ _ ht;exact⟨by omega,fun hl x hx=>h2 (fun y hy=>hl y (List.mem_of_mem_drop hy)) x hx⟩
 ·cases h
theorem zgu (l:List Nat):∀(n p:Nat),p<=l.length->l.length-p<=n->wt (strm l p)<=4*(l.length-p)+3/\(strm l p).length<=l.length-p+1/\∀t,t ∈ strm l p->t.kind<=99/\((∀x,x ∈ l->x<256)->∀x,x ∈ t.text->x<256):=by
 intro n
 induction n with
 |zero=>
  intro p hp hn;have hpe:p=l.length:=by omega
  cases h:nextL l p with
  |error k=>
   rw[zd0 h];exact⟨by show 0+3+0<=_;omega,by simp,fun t ht=>by obtain rfl:=List.mem_singleton.1 ht;exact⟨Nat.le_refl _,fun _ x hx=>nomatch hx⟩⟩
  |ok y=>
   obtain⟨t,m⟩:=y;rcases zbz l p hp t m h with⟨h0,hm⟩|⟨h0,h1,h2⟩
   ·have ht:=ze2 l p t m h
    rw[zcp h h0];refine⟨?_,by simp,fun u hu=>?_⟩
    ·show t.text.length+3+0<=_
     have:=ht.1;omega
    ·obtain rfl:=List.mem_singleton.1 hu
     exact⟨by omega,ht.2⟩
   ·omega
 |succ n ih=>
  intro p hp hn;cases h:nextL l p with
  |error k=>
   rw[zd0 h];exact⟨by show 0+3+0<=_;omega,by simp,fun t ht=>by obtain rfl:=List.mem_singleton.1 ht;exact⟨Nat.le_refl _,fun _ x hx=>nomatch hx⟩⟩
  |ok y=>
   obtain⟨t,m⟩:=y;have ht:=ze2 l p t m h;rcases zbz l p hp t m h with⟨h0,hm⟩|⟨h0,h1,h2⟩
   ·rw[zcp h h0]
    refine⟨?_,by simp,fun u hu=>?_⟩
    ·show t.text.length+3+0<=_
     have:=ht.1;omega
    ·obtain rfl:=List.mem_singleton.1 hu
     exact⟨by omega,ht.2⟩
   ·obtain⟨i1,i2,i3⟩:=ih m h2 (by omega)
    rw[zao h h0 ⟨h1,h2⟩];refine⟨?_,by rw[List.length_cons];omega,fun u hu=>?_⟩
    ·show t.text.length+3+wt (strm l m)<=_
     have:=ht.1;omega
    ·rcases List.mem_cons.1 hu with rfl|hu
     ·exact⟨by have:=zgs h;omega,ht.2⟩
     ·exact i3 u hu
end Go.Proofs.YthhppmehhdlmnaaGreatDoor
