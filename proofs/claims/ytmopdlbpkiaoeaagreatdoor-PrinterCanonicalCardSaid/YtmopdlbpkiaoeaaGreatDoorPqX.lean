/- The reference: primary and prefixed, whatever they meet. The reference: the recursion. What the laws of the syntax need of the functions that they call. -/
import Derived.Test.YtmopdlbpkiaoeaaGreatDoorPqY
import Derived.Test.YtmopdlbpkiaoeaaGreatDoorPqSynRName
import Derived.Test.YtmopdlbpkiaoeaaGreatDoorPqSynRPreA
import Derived.Test.YtmopdlbpkiaoeaaGreatDoorPqSynRPre6
import Derived.Test.YtmopdlbpkiaoeaaGreatDoorPqV
open Go.Value renaming slice->jf, tuple->jk
namespace Go.Proofs.YtmopdlbpkiaoeaaGreatDoor
open Go.Proofs.Tryz renaming prog->qab
open Go.Proofs.YtmopdlbpkiaoeaaGreatDoor.PO renaming bind_ok->qb6
open Nat renaming le_trans->qal
variable {e:Ending}{rs:List (List Nat × Nat × Int)}{f:MF}{N base d room:Nat}{R:RC}{W w w':World}
section
open Go.RowKit
theorem z44:clsN (rin 0 255)=clsN (fun _=>true):=by
 unfold clsN;have h:∀k,k<4->setW (rin 0 255) k=setW (fun _=>true) k:=fun k hk=>ziw hk fun i hi=>zq1 ⟨U,U⟩
 rw[h 0 ja,h 1 ja,h 2 ja,h 3 ja]
theorem zod {F:List Tok->MF->PO}(hd:d+room=200)(hE:room≠0->RDo R N 2 107 (d+1) F)(hG:Grow 0 2 F):RDo R N 0 151 d (primL true room F):=by
 intro rs qs x ts f w h he hF hb;have hbd:=h.2.1;have hdp:=h.2.2.1;obtain⟨la,lc,i,ra,rn,rc,na,nn,nc,ca,cn,cc,bad,dp⟩:=x;have hbd:bad=-1:=hbd;have hdp:dp=false:=hdp;subst hbd hdp;have hN:=hF.2.2.2.1;have hm:f.nodes.length<=100000000:=by have:=hF.1;omega
 have hcl:f.calls.length<=100000000:=by have:=hF.2.1;omega
 cases ts with
 |nil=>exact he.elim
 |cons t tl=>
  obtain⟨k,a,tx,r⟩:=t;unfold primL;dsimp only;by_cases k1:k=1
  ·subst k1
   rw[if_pos rfl];have htl:=he.tail (show(1:Nat)≠0 by decide) (show(1:Nat)≠99 by decide);cases tl with
   |nil=>exact htl.elim
   |cons u us=>
    by_cases k2:kd (u::us)=2∨kd (u::us)=99
    ·rw[if_pos ⟨rfl,k2⟩]
     rcases k2 with k2|k2
     ·exact zh4 la lc i ra rn rc na nn nc ca cn cc d a tx r u us k2 he h
     ·exact zj4 la lc i ra rn rc na nn nc ca cn cc d a tx r u us k2 he h
    ·rw[if_neg (fun e=>k2 e.2),za5]
     exact ztt la lc i ra rn rc na nn nc ca cn cc d a tx r u us ⟨fun e=>k2 (.inl e),fun e=>k2 (.inr e)⟩ he hm hcl hb h
  ·rw[if_neg k1]
   by_cases k9:k=9
   ·subst k9
    rw[if_pos rfl];by_cases hr:room=0
    ·rw[if_pos hr]
     obtain rfl:d=200:=U
     exact ztd la lc i ra rn rc na nn nc ca cn cc a tx r tl h
    ·rw[if_neg hr,za5,qb6]
     have htl:=he.tail (show(9:Nat)≠0 by decide) (show(9:Nat)≠99 by decide);have hF2:Fit 2 N rs tl f:=hF.tail (show(9:Nat)≠0 by decide) U;have hC:∀(x:SV) (W:World),Below w.heap.size w W->RSt R rs tl f qs x W->Calls qab 107 #[x.v R,.int .i64 ((d:Int)+1)] W (RO R rs qs W (F tl f)):=fun x W hW hx=>hE hr rs qs x tl f W hx htl hF2 (qal hb hW.size)
     have hg:=hG tl f;cases ho:F tl f with
     |bad c dp=>
      rw[ho] at hC;exact zj2 la lc i ra rn rc na nn nc ca cn cc d a tx r tl c dp U he h hC
     |ok c g=>
      rw[ho] at hC hg;have hEc:Endy c:=hg.1 Endy zie htl;rw[qb6];unfold closL;by_cases k10:kd c=10
      ·rw[if_pos k10,za5]
       exact zj3 la lc i ra rn rc na nn nc ca cn cc d a tx r tl c g hEc k10 U he h hC
      ·rw[if_neg k10]
       exact zl3 la lc i ra rn rc na nn nc ca cn cc d a tx r tl c g hEc k10 U he h hC
   ·rw[if_neg k9]
    by_cases k12:k=12
    ·subst k12
     rw[if_pos rfl,za5];have hx:∀x,x ∈ tx->x<256:=(hF.2.2.2.2 ⟨12,a,tx,r⟩ (List.mem_cons_self ..)).2;refine zwr la lc i ra rn rc na nn nc ca cn cc d a tx r tl he hx ?_ hb h;have h1:=hF.1;have h2:wt (⟨12,a,tx,r⟩::tl)=tx.length+3+wt tl:=rfl;omega
    ·rw[if_neg k12]
     by_cases k13:k=13
     ·subst k13
      rw[if_pos rfl,za5];exact zwn la lc i ra rn rc na nn nc ca cn cc d a tx r tl he hm hb h
     ·rw[if_neg k13]
      by_cases k11:k=11
      ·subst k11
       rw[if_pos rfl,za5,<-z44];exact zwo la lc i ra rn rc na nn nc ca cn cc d a tx r tl he hm hb h
      ·rw[if_neg k11]
       exact zz7 la lc i ra rn rc na nn nc ca cn cc d k a tx r tl ⟨k1,k9,k11,k12,k13⟩ h
def finO (opv:Int)(c:List Tok)(e:MF):PO:=if opv=0 then .ok c e else .ok c (addN e (mkN opv [lastI e]))
theorem zxj {d:Nat}{F:List Tok->MF->PO}(hP:RDo R N 0 151 d (primL true room F))(hG:Grow 0 2 F){qs:List Value}{t:Tok}{tl TS:List Tok}{opv:Int}(hp:PreK t opv)(la:Option Addr)(lc:Nat)(i:Int)(ra:Option Addr)(rn rc:Nat)(na:Option Addr)(nn nc:Nat)(ca:Option Addr)(cn cc:Nat)
  (h:RSt R rs (t::tl) f qs ⟨la,lc,i,ra,rn,rc,na,nn,nc,ca,cn,cc,-1,false⟩ w) (he:Endy TS) (hF:Fit 0 N rs TS f) (hb:R.base<=w.heap.size)
  (hst:∀n:Nat,i=n->∃iv:Int,(0<opv->iv=(n:Int)+1)/\(opv=0->iv=n)/\RSt R rs TS f qs ⟨la,lc,iv,ra,rn,rc,na,nn,nc,ca,cn,cc,-1,false⟩ w) :
  Calls qab 133 #[.agg #[jf la R.T.length lc,.int .i64 i,jf ra rn rc,jf na nn nc,jf ca cn cc,.int .i64 (-1),.bool false,.bool R.one],.int .i64 (d:Int)] w (RO R rs qs w (((primL true room F TS f).bind (sufK true)).bind (finO opv))):=by
 have hC:∀(x:SV) (W:World),Below w.heap.size w W->RSt R rs TS f qs x W->Calls qab 151 #[x.v R,.int .i64 (d:Int)] W (RO R rs qs W (primL true room F TS f)):=fun x W hW hx=>hP rs qs x TS f W hx he hF (qal hb hW.size)
 have hg:=Gr.prim (st:=true) (room:=room) hG TS f;cases ho:primL true room F TS f with
 |bad c dp=>
  rw[ho] at hC;exact z0z la lc i ra rn rc na nn nc ca cn cc d t tl TS opv hp c dp hb h hst hC
 |ok c g=>
  rw[ho] at hC hg;have hEc:Endy c:=hg.1 Endy zie he;have hgn:=(hF.next hg (c':=0) U).1;have hN:=hF.2.2.2.1;rw[qb6];cases c with
  |nil=>exact hEc.elim
  |cons u us=>
   have hm:g.nodes.length+2<=100000000:=by
    have hw:wt (u::us)=u.text.length+3+wt us:=rfl;omega
   have hkind:=hEc.kind;have fin:∀(a:List Tok) (e:MF),∃g2,finO opv a e=.ok a g2/\(opv=0->g2=e)/\(0<opv->g2=addN e (mkN opv [lastI e])):=fun a e=>by
    unfold finO;by_cases h0:opv=0
    ·rw[if_pos h0];exact⟨e,rfl,fun _=>rfl,fun h=>U⟩
    ·rw[if_neg h0];exact⟨_,rfl,fun h=>absurd h h0,fun _=>rfl⟩
   unfold sufK;have ek2:kd (u::us)=u.kind:=rfl;rw[ek2] at hkind ⊢;by_cases k6:6<=u.kind/\u.kind<=8
   ·rw[if_pos k6,za5,qb6]
    have k678:u.kind=6∨u.kind=7∨u.kind=8:=U
    rcases k678 with k|k|k<;>rw[k]
    ·obtain⟨g2,e2,hg2⟩:=fin us (addN g (mkN 7 [lastI g]))
     show Calls _ _ _ _ (RO R rs qs w (finO opv us (addN g (mkN 7 [lastI g]))));rw[e2];exact yamf la lc i ra rn rc na nn nc ca cn cc d t tl TS opv 7 hp u us g g2 hg2 hEc hm (.inl ⟨k,rfl⟩) hb h hst hC
    ·obtain⟨g2,e2,hg2⟩:=fin us (addN g (mkN 5 [lastI g]))
     show Calls _ _ _ _ (RO R rs qs w (finO opv us (addN g (mkN 5 [lastI g]))));rw[e2];exact yamf la lc i ra rn rc na nn nc ca cn cc d t tl TS opv 5 hp u us g g2 hg2 hEc hm (.inr (.inl ⟨k,rfl⟩)) hb h hst hC
    ·obtain⟨g2,e2,hg2⟩:=fin us (addN g (mkN 6 [lastI g]))
     show Calls _ _ _ _ (RO R rs qs w (finO opv us (addN g (mkN 6 [lastI g]))));rw[e2];exact yamf la lc i ra rn rc na nn nc ca cn cc d t tl TS opv 6 hp u us g g2 hg2 hEc hm (.inr (.inr ⟨k,rfl⟩)) hb h hst hC
   ·rw[if_neg k6,qb6]
    have klh:(u.kind<6∨u.kind=99)∨(8<u.kind/\u.kind≠99):=U
    obtain⟨g2,e2,hg2⟩:=fin (u::us) g;rw[e2];rcases klh with k|k
    ·exact z42 la lc i ra rn rc na nn nc ca cn cc d t tl TS opv hp u us g g2 hg2 hm k hb h hst hC
    ·exact z43 la lc i ra rn rc na nn nc ca cn cc d t tl TS opv hp u us g g2 hg2 hm k hb h hst hC
theorem zoe {F:List Tok->MF->PO}(hP:RDo R N 0 151 d (primL true room F))(hG:Grow 0 2 F):RDo R N 0 133 d (preL true room F):=by
 intro rs qs x ts f w h he hF hb;have hbd:=h.2.1;have hdp:=h.2.2.1;obtain⟨la,lc,i,ra,rn,rc,na,nn,nc,ca,cn,cc,bad,dp⟩:=x;have hbd:bad=-1:=hbd;have hdp:dp=false:=hdp;subst hbd hdp;cases ts with
 |nil=>exact he.elim
 |cons t tl=>
  unfold preL;have ek:kd (t::tl)=t.kind:=rfl;rw[ek];by_cases k4:t.kind=4∨t.kind=5
  ·rw[if_pos k4,za5,qb6]
   have htl:=he.tail (show t.kind≠0 by omega) (show t.kind≠99 by omega);have hp:PreK t (preOp t.kind):=by
    rcases k4 with k|k
    ·exact .inr (.inl ⟨k,by rw[k];rfl⟩)
    ·exact .inr (.inr ⟨k,by rw[k];rfl⟩)
   have hpos:0<preOp t.kind:=by
    rcases k4 with k|k<;>rw[k]<;>decide
   have e:=zxj hP hG hp la lc i ra rn rc na nn nc ca cn cc h htl ((hF.tail (c':=3) (show t.kind≠0 by omega) U).weak U) hb fun n hi=>by
    refine⟨(n:Int)+1,fun _=>rfl,fun h0=>U,?_⟩;obtain⟨h1,h2,h3,⟨n',hi',hn⟩,-,h6⟩:=h;have hi':i=(n':Int):=hi';have hnn:n'=n:=U
    subst hnn;exact⟨h1,h2,h3,⟨n'+1,by show(n':Int)+1=_;omega,by rw[<-List.tail_drop,hn]⟩,htl.ne,h6⟩
   have e2:(fun c k=>PO.ok c (addN k (mkN (preOp t.kind) [lastI k])))=finO (preOp t.kind):=by
    funext c k;unfold finO;rw[if_neg U]
   show Calls _ _ _ _ (RO R rs qs w ((sufL true room F tl f).bind fun c k=>PO.ok c (addN k (mkN (preOp t.kind) [lastI k]))));rw[e2];exact e
  ·rw[if_neg k4]
   have e:=zxj hP hG (opv:=0) (.inl ⟨fun e=>k4 (.inl e),fun e=>k4 (.inr e),rfl⟩) la lc i ra rn rc na nn nc ca cn cc h he hF hb fun n hi=>⟨i,fun h0=>U,fun _=>hi,h⟩
   have e2:∀o:PO,o.bind (finO 0)=o:=fun o=>by
    cases o with
    |ok a g=>
     show finO 0 a g=_;unfold finO;rw[if_pos rfl]
    |bad a d=>rfl
   rw[e2] at e;exact e
end
section
open Go.RowKit
theorem zof {R:RC}{N:Nat}:∀(room d:Nat),d+room=200->RDo R N 2 107 d (exprL true room (!R.one&&decide (d=0)))
 |0,d,hd=>by
  have hp:=zoe (zod (R:=R) (N:=N) (room:=0) (F:=inL true 0) hd (fun h=>absurd rfl h) (Gr.inL 0)) (Gr.inL 0);have hw:=zky hp (Gr.pre (Gr.inL 0));intro rs qs x ts f w h he hF hb;rw[zgi];exact hw rs qs x ts f w h he hF hb
 |room+1,d,hd=>by
  have ih:=zof (R:=R) (N:=N) room (d+1) U;have e:(!R.one&&decide (d+1=0))=false:=jc
  rw[e] at ih;have hp:=zoe (zod (R:=R) (N:=N) (room:=room+1) (F:=inL true (room+1)) hd (fun _=>ih) (Gr.inL (room+1))) (Gr.inL (room+1));have hw:=zky hp (Gr.pre (Gr.inL (room+1)));intro rs qs x ts f w h he hF hb;rw[zgi];exact hw rs qs x ts f w h he hF hb
end
section
open Go.RowKit
theorem za1 (s:ByteArray)(w:World)(hs:s.size<=1050000):Calls qab 77 #[.string s] w (FinIs w.heap.size (zaz (bts s)) w):=
 zqd s w 5000000 hs (zof (R:=⟨w.heap.size,strm (bts s) 0,false⟩) (N:=5000000) 200 0 rfl) (Gr.expr 200 true) (zjj s hs)
theorem z61 (a:List Tok)(dp:Bool):erV a dp=.iface 160 (.agg #[.int .i64 (erC dp),.int .i64 (pos a:Int)]):=by
 cases a<;>rfl
theorem zmh {n sz:Nat}{e:TypeId}{v:Value}{xs:List Value}(h:W.ownsRow base e sz v n xs):n<=maxLen:=by
 rcases h.2 with⟨-,h0⟩|⟨g,cap,cur,-,-,-,h1,h2,-⟩
 ·rw[h0];exact Nat.zero_le _
 ·exact qal h1 h2
theorem FileIn.own {rv nv cv:Value}{qs:List Value}{t1 t2:TypeId}(h1:NRow base nv f.nodes qs W)(h2:W.ownsRow base t1 2 cv f.calls.length (zcw f.calls))(h3:W.ownsRow base t2 3 rv rs.length (defsC rs)):FileIn W rv nv cv rs f:=
 FileIn.of h1 h2 h3 (zmh h3) (zmh h2) (zmh h1.2.1) fun n hn=>by
  obtain⟨i,hi⟩:=List.getElem?_of_mem hn;have hl:=(List.getElem?_eq_some_iff.1 hi).1;obtain⟨q,hq⟩:∃q,qs[i]?=some q:=⟨_,List.getElem?_eq_getElem (by rw[h1.1];exact hl)⟩;exact zmh (h1.2.2 i n q hi hq)
def GotF (W:World)(va:Option Addr)(vc:Nat)(na:Option Addr)(nc:Nat)(ca:Option Addr)(cc:Nat)(rs:List (List Nat × Nat × Int))(f:MF):Prop:=FileIn W (jf va rs.length vc) (jf na f.nodes.length nc) (jf ca f.calls.length cc) rs f
theorem GotF.below {W':World}{va:Option Addr}{vc:Nat}{na:Option Addr}{nc:Nat}{ca:Option Addr}{cc:Nat}(h:GotF W va vc na nc ca cc rs f)(hb:Below W.heap.size W W'):GotF W' va vc na nc ca cc rs f:=FileIn.below h hb
theorem zb6 (h:zfb (.ok rs f) w e w'):∃va vc na nc ca cc,e=.returned (jk #[.agg #[jf va rs.length vc,jf na f.nodes.length nc,jf ca f.calls.length cc],.nilIface])/\GotF w' va vc na nc ca cc rs f/\Below w.heap.size w w':=by
 obtain⟨rv,nv,cv,qs,rfl,h1,h2,h3,h4⟩:=h;have hf:=FileIn.own h1 h2 h3;obtain⟨va,vc,rfl⟩:=zag h3;obtain⟨na,nc,rfl⟩:=zag h1.2.1;obtain⟨ca,cc,rfl⟩:=zag h2;exact⟨va,vc,na,nc,ca,cc,rfl,hf,h4⟩
theorem zc8 {a:List Tok}{dp:Bool}(h:zfb (.bad a dp) w e w'):e=.returned (jk #[.agg #[jf none 0 0,jf none 0 0,jf none 0 0],.iface 160 (.agg #[.int .i64 (erC dp),.int .i64 (pos a:Int)])])/\Below w.heap.size w w':=by
 obtain⟨h1,h2⟩:=h;rw[z61] at h1;exact⟨h1,h2⟩
theorem zc2 (h:FinIs base (.ok rs f) w e w'):∃va vc na nc ca cc,e=.returned (jk #[.agg #[jf va rs.length vc,jf na f.nodes.length nc,jf ca f.calls.length cc],.int .i64 0,.int .i64 0])/\GotF w' va vc na nc ca cc rs f/\Below w.heap.size w w':=by
 obtain⟨va,vc,na,nc,ca,cc,qs,rfl,h1,h2,h3,h4⟩:=h;exact⟨va,vc,na,nc,ca,cc,rfl,FileIn.own h1 h2 h3,h4⟩
theorem zdy {a:List Tok}{dp:Bool}(h:FinIs base (.bad a dp) w e w'):e=.returned (jk #[.agg #[jf none 0 0,jf none 0 0,jf none 0 0],.int .i64 (erC dp),.int .i64 (pos a:Int)])/\Below w.heap.size w w':=h
end
