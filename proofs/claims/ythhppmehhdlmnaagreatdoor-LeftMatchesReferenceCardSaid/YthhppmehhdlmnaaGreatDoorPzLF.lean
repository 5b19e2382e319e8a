/- The fixed examples of layer 13. No walk. Written by wip/gen/leftex.py. Layer 13: the fixed examples. Layer 13: the reference's Calls. Layer 13: the reference's  -/
import Derived.Laws.OwnMore
import Derived.Deep.RegionWith
import Derived.Deep.CutRange
import Derived.Deep.Cut
import Derived.Test.YthhppmehhdlmnaaGreatDoorPzD
import Derived.Test.YthhppmehhdlmnaaGreatDoorPzMM
import Derived.Test.YthhppmehhdlmnaaGreatDoorPzLA
import Derived.Test.YthhppmehhdlmnaaGreatDoorPzLB
import Derived.Test.YthhppmehhdlmnaaGreatDoorPzLG
import Derived.Test.YthhppmehhdlmnaaGreatDoorPzLD
import Derived.Test.YthhppmehhdlmnaaGreatDoorPzFlowLaw0
import Derived.Test.YthhppmehhdlmnaaGreatDoorPzRA
import Derived.Test.YthhppmehhdlmnaaGreatDoorPzK
import Derived.Test.YthhppmehhdlmnaaGreatDoorPzRC
import Derived.Test.YthhppmehhdlmnaaGreatDoorPzWR
set_option maxRecDepth 100000
set_option maxHeartbeats 8000000
namespace Go.Proofs.YthhppmehhdlmnaaGreatDoor
section
def x13X:List Nat:=[65,32,60,45,32,66,32,39,120,39,10,66,32,60,45,32,39,121,39,63,32,65,32,47,32,67,10,67,32,60,45,32,39,99,39]
def x13Xb:ByteArray:=⟨#[65,32,60,45,32,66,32,39,120,39,10,66,32,60,45,32,39,121,39,63,32,65,32,47,32,67,10,67,32,60,45,32,39,99,39]⟩
theorem z16:bts x13Xb=x13X:=rfl
theorem z8t:nextL x13X 0=.ok (⟨1,0,[65],[]⟩,1):=by
 rw[zaz,show x13X.drop 0=65::x13X.drop 1 from rfl,zam (by decide) (by decide)];show(match tokL 0 (65::x13X.drop 1) with|some x=>Except.ok x|none=>.error 0)=_;rw[zck (by decide)];rfl
theorem z8u:nextL x13X 1=.ok (⟨2,2,[],[]⟩,4):=by
 rw[zaz,show x13X.drop 1=32::60::x13X.drop 3 from rfl,zal (by decide),zam (by decide) (by decide)];show(match tokL 2 (60::x13X.drop 3) with|some x=>Except.ok x|none=>.error 2)=_;rw[zb2 (by decide) (by decide)]
theorem z8v:nextL x13X 4=.ok (⟨1,5,[66],[]⟩,6):=by
 rw[zaz,show x13X.drop 4=32::66::x13X.drop 6 from rfl,zal (by decide),zam (by decide) (by decide)];show(match tokL 5 (66::x13X.drop 6) with|some x=>Except.ok x|none=>.error 5)=_;rw[zck (by decide)];rfl
theorem z8w:nextL x13X 6=.ok (⟨12,7,[120],[]⟩,10):=by
 rw[zaz,show x13X.drop 6=32::39::x13X.drop 8 from rfl,zal (by decide),zam (by decide) (by decide)];show(match tokL 7 (39::120::x13X.drop 9) with|some x=>Except.ok x|none=>.error _)=_;rw[zc3 (Or.inl rfl),zcg (c:=120) (n:=1) rfl (by decide),show(120::x13X.drop 9).drop 1=39::x13X.drop 10 from rfl,zc2];rfl
theorem z6o:nextL x13X 10=.ok (⟨1,11,[66],[]⟩,12):=by
 rw[zaz,show x13X.drop 10=10::66::x13X.drop 12 from rfl,zal (by decide),zam (by decide) (by decide)];show(match tokL 11 (66::x13X.drop 12) with|some x=>Except.ok x|none=>.error 11)=_;rw[zck (by decide)];rfl
theorem z6p:nextL x13X 12=.ok (⟨2,13,[],[]⟩,15):=by
 rw[zaz,show x13X.drop 12=32::60::x13X.drop 14 from rfl,zal (by decide),zam (by decide) (by decide)];show(match tokL 13 (60::x13X.drop 14) with|some x=>Except.ok x|none=>.error 13)=_;rw[zb2 (by decide) (by decide)]
theorem z6q:nextL x13X 15=.ok (⟨12,16,[121],[]⟩,19):=by
 rw[zaz,show x13X.drop 15=32::39::x13X.drop 17 from rfl,zal (by decide),zam (by decide) (by decide)];show(match tokL 16 (39::121::x13X.drop 18) with|some x=>Except.ok x|none=>.error _)=_;rw[zc3 (Or.inl rfl),zcg (c:=121) (n:=1) rfl (by decide),show(121::x13X.drop 18).drop 1=39::x13X.drop 19 from rfl,zc2];rfl
theorem z6r:nextL x13X 19=.ok (⟨6,19,[],[]⟩,20):=by
 rw[zaz,show x13X.drop 19=63::x13X.drop 20 from rfl,zam (by decide) (by decide)];show(match tokL 19 (63::x13X.drop 20) with|some x=>Except.ok x|none=>.error 19)=_;rw[zea (i:=6) (by decide) (by decide) rfl]
theorem z6s:nextL x13X 20=.ok (⟨1,21,[65],[]⟩,22):=by
 rw[zaz,show x13X.drop 20=32::65::x13X.drop 22 from rfl,zal (by decide),zam (by decide) (by decide)];show(match tokL 21 (65::x13X.drop 22) with|some x=>Except.ok x|none=>.error 21)=_;rw[zck (by decide)];rfl
theorem z6t:nextL x13X 22=.ok (⟨3,23,[],[]⟩,24):=by
 rw[zaz,show x13X.drop 22=32::47::x13X.drop 24 from rfl,zal (by decide),zam (by decide) (by decide)];show(match tokL 23 (47::x13X.drop 24) with|some x=>Except.ok x|none=>.error 23)=_;rw[zea (i:=3) (by decide) (by decide) rfl]
theorem z6u:nextL x13X 24=.ok (⟨1,25,[67],[]⟩,26):=by
 rw[zaz,show x13X.drop 24=32::67::x13X.drop 26 from rfl,zal (by decide),zam (by decide) (by decide)];show(match tokL 25 (67::x13X.drop 26) with|some x=>Except.ok x|none=>.error 25)=_;rw[zck (by decide)];rfl
theorem z6v:nextL x13X 26=.ok (⟨1,27,[67],[]⟩,28):=by
 rw[zaz,show x13X.drop 26=10::67::x13X.drop 28 from rfl,zal (by decide),zam (by decide) (by decide)];show(match tokL 27 (67::x13X.drop 28) with|some x=>Except.ok x|none=>.error 27)=_;rw[zck (by decide)];rfl
theorem z6w:nextL x13X 28=.ok (⟨2,29,[],[]⟩,31):=by
 rw[zaz,show x13X.drop 28=32::60::x13X.drop 30 from rfl,zal (by decide),zam (by decide) (by decide)];show(match tokL 29 (60::x13X.drop 30) with|some x=>Except.ok x|none=>.error 29)=_;rw[zb2 (by decide) (by decide)]
theorem z6x:nextL x13X 31=.ok (⟨12,32,[99],[]⟩,35):=by
 rw[zaz,show x13X.drop 31=32::39::x13X.drop 33 from rfl,zal (by decide),zam (by decide) (by decide)];show(match tokL 32 (39::99::x13X.drop 34) with|some x=>Except.ok x|none=>.error _)=_;rw[zc3 (Or.inl rfl),zcg (c:=99) (n:=1) rfl (by decide),show(99::x13X.drop 34).drop 1=39::x13X.drop 35 from rfl,zc2];rfl
theorem z6y:nextL x13X 35=.ok (⟨0,35,[],[]⟩,35):=by
 rw[zaz,show x13X.drop 35=[] from rfl,zd9];rfl
theorem zyb:strm x13X 0=[⟨1,0,[65],[]⟩,⟨2,2,[],[]⟩,⟨1,5,[66],[]⟩,⟨12,7,[120],[]⟩,⟨1,11,[66],[]⟩,⟨2,13,[],[]⟩,⟨12,16,[121],[]⟩,⟨6,19,[],[]⟩,⟨1,21,[65],[]⟩,⟨3,23,[],[]⟩,⟨1,25,[67],[]⟩,⟨1,27,[67],[]⟩,⟨2,29,[],[]⟩,⟨12,32,[99],[]⟩,⟨0,35,[],[]⟩]:=by
 rw[zao z8t (by decide) (by decide),zao z8u (by decide) (by decide),zao z8v (by decide) (by decide),zao z8w (by decide) (by decide),zao z6o (by decide) (by decide),zao z6p (by decide) (by decide),zao z6q (by decide) (by decide),zao z6r (by decide) (by decide),zao z6s (by decide) (by decide),zao z6t (by decide) (by decide),zao z6u (by decide) (by decide),zao z6v (by decide) (by decide),zao z6w (by decide) (by decide),zao z6x (by decide) (by decide),zcp z6y rfl]
def x13H:List Nat:=[65,32,60,45,32,66,32,39,120,39,10,66,32,60,45,32,39,121,39]
def x13Hb:ByteArray:=⟨#[65,32,60,45,32,66,32,39,120,39,10,66,32,60,45,32,39,121,39]⟩
theorem z17:bts x13Hb=x13H:=rfl
theorem z8x:nextL x13H 0=.ok (⟨1,0,[65],[]⟩,1):=by
 rw[zaz,show x13H.drop 0=65::x13H.drop 1 from rfl,zam (by decide) (by decide)];show(match tokL 0 (65::x13H.drop 1) with|some x=>Except.ok x|none=>.error 0)=_;rw[zck (by decide)];rfl
theorem z8y:nextL x13H 1=.ok (⟨2,2,[],[]⟩,4):=by
 rw[zaz,show x13H.drop 1=32::60::x13H.drop 3 from rfl,zal (by decide),zam (by decide) (by decide)];show(match tokL 2 (60::x13H.drop 3) with|some x=>Except.ok x|none=>.error 2)=_;rw[zb2 (by decide) (by decide)]
theorem z8z:nextL x13H 4=.ok (⟨1,5,[66],[]⟩,6):=by
 rw[zaz,show x13H.drop 4=32::66::x13H.drop 6 from rfl,zal (by decide),zam (by decide) (by decide)];show(match tokL 5 (66::x13H.drop 6) with|some x=>Except.ok x|none=>.error 5)=_;rw[zck (by decide)];rfl
theorem z80:nextL x13H 6=.ok (⟨12,7,[120],[]⟩,10):=by
 rw[zaz,show x13H.drop 6=32::39::x13H.drop 8 from rfl,zal (by decide),zam (by decide) (by decide)];show(match tokL 7 (39::120::x13H.drop 9) with|some x=>Except.ok x|none=>.error _)=_;rw[zc3 (Or.inl rfl),zcg (c:=120) (n:=1) rfl (by decide),show(120::x13H.drop 9).drop 1=39::x13H.drop 10 from rfl,zc2];rfl
theorem z6z:nextL x13H 10=.ok (⟨1,11,[66],[]⟩,12):=by
 rw[zaz,show x13H.drop 10=10::66::x13H.drop 12 from rfl,zal (by decide),zam (by decide) (by decide)];show(match tokL 11 (66::x13H.drop 12) with|some x=>Except.ok x|none=>.error 11)=_;rw[zck (by decide)];rfl
theorem z60:nextL x13H 12=.ok (⟨2,13,[],[]⟩,15):=by
 rw[zaz,show x13H.drop 12=32::60::x13H.drop 14 from rfl,zal (by decide),zam (by decide) (by decide)];show(match tokL 13 (60::x13H.drop 14) with|some x=>Except.ok x|none=>.error 13)=_;rw[zb2 (by decide) (by decide)]
theorem z61:nextL x13H 15=.ok (⟨12,16,[121],[]⟩,19):=by
 rw[zaz,show x13H.drop 15=32::39::x13H.drop 17 from rfl,zal (by decide),zam (by decide) (by decide)];show(match tokL 16 (39::121::x13H.drop 18) with|some x=>Except.ok x|none=>.error _)=_;rw[zc3 (Or.inl rfl),zcg (c:=121) (n:=1) rfl (by decide),show(121::x13H.drop 18).drop 1=39::x13H.drop 19 from rfl,zc2];rfl
theorem z62:nextL x13H 19=.ok (⟨0,19,[],[]⟩,19):=by
 rw[zaz,show x13H.drop 19=[] from rfl,zd9];rfl
theorem zyc:strm x13H 0=[⟨1,0,[65],[]⟩,⟨2,2,[],[]⟩,⟨1,5,[66],[]⟩,⟨12,7,[120],[]⟩,⟨1,11,[66],[]⟩,⟨2,13,[],[]⟩,⟨12,16,[121],[]⟩,⟨0,19,[],[]⟩]:=by
 rw[zao z8x (by decide) (by decide),zao z8y (by decide) (by decide),zao z8z (by decide) (by decide),zao z80 (by decide) (by decide),zao z6z (by decide) (by decide),zao z60 (by decide) (by decide),zao z61 (by decide) (by decide),zcp z62 rfl]
def rsX:List (List Nat × Nat × Int):=[([65],0,2),([66],11,8),([67],27,9)]
def mfX:MF:=⟨[callN 0,clsN (fun i=>decide (i=120)),mkN 3 [0,1],clsN (fun i=>decide (i=121)),mkN 7 [3],callN 1,mkN 3 [4,5],callN 2,mkN 4 [6,7],clsN (fun i=>decide (i=99))],[([66],5),([65],21),([67],25)]⟩
def rsH:List (List Nat × Nat × Int):=[([65],0,2),([66],11,3)]
def mfH:MF:=⟨[callN 0,clsN (fun i=>decide (i=120)),mkN 3 [0,1],clsN (fun i=>decide (i=121))],[([66],5)]⟩
theorem zyd:zfb x13X=.ok rsX mfX:=by
 unfold zfb;rw[zyb];rfl
theorem zye:zfb x13H=.ok rsH mfH:=by
 unfold zfb;rw[zyc];rfl
theorem z18:dupO rsX=none:=by kernel_rfl
theorem z19:undO (nmR rsX) mfX=none:=by kernel_rfl
theorem z2a:dupO rsH=none:=by kernel_rfl
theorem z2b:undO (nmR rsH) mfH=none:=by kernel_rfl
def gX:List PR:=zbh rsX
def nX:List PN:=zbg (nmR rsX) (nmC mfX) mfX.nodes
def gH:List PR:=zbh rsH
def nH:List PN:=zbg (nmR rsH) (nmC mfH) mfH.nodes
theorem zr4:chkL gX nX=.ok:=by kernel_rfl
theorem zr5:chkL gH nH=.ok:=by kernel_rfl
theorem zr6 {rs:List PR}{ns:List PN}(h:(fewB rs ns&&okB (chkL rs ns))=true):LeftOk rs ns/\∀r,r ∈ rs->r.name.size<=1000:=by
 obtain⟨a,b,c⟩:=z59 h;rw[Bool.and_eq_true] at h;exact⟨⟨a,(zum (zrr h.2)).2.2.2.2.2.1,b,c⟩,fun r hr=>Nat.le_trans ((zfy h.1).1 r hr) (by decide)⟩
theorem zde:LeftOk gX nX/\∀r,r ∈ gX->r.name.size<=1000:=zr6 (by rw[zr4];kernel_rfl)
theorem zgv:LeftOk gH nH/\∀r,r ∈ gH->r.name.size<=1000:=zr6 (by rw[zr5];kernel_rfl)
def lcN (need:Nat->List Nat)(cl:Nat->Option Nat):Nat->Nat->List Nat
 |0,_=>[]
 |f+1,i=>match cl i with
  |some b=>[b]
  |none=>(need i).flatMap (lcN need cl f)
theorem zpt {need:Nat->List Nat}{cl:Nat->Option Nat}(hless:∀i j,cl i=none->j ∈ need i->j<i)(x:Nat):∀f i,i<f->(x ∈ lcN need cl f i↔LcG need cl i x)
 |0,i,h=>absurd h (Nat.not_lt_zero _)
 |f+1,i,h=>by
  cases hi:cl i with
  |some b=>
   have e:lcN need cl (f+1) i=[b]:=by unfold lcN;rw[hi]
   rw[e,List.mem_singleton];refine⟨fun g=>.here (by rw[hi,g]),fun g=>?_⟩;cases g with
   |here g=>rw[hi] at g;exact(Option.some.inj g).symm
   |more g=>rw[hi] at g;cases g
  |none=>
   have e:lcN need cl (f+1) i=(need i).flatMap (lcN need cl f):=by conv=>lhs;unfold lcN;rw[hi]
   rw[e,List.mem_flatMap];constructor
   ·rintro⟨j,hj,hx⟩
    have:=hless i j hi hj;exact .more hi hj ((zpt hless x f j (by omega)).1 hx)
   ·intro g
    cases g with
    |here g=>rw[hi] at g;cases g
    |more _ hj g=>
     have:=hless i _ hi hj;exact⟨_,hj,(zpt hless x f _ (by omega)).2 g⟩
theorem zds {rs:List PR}{ns:List PN}(h:LeftOk rs ns)(L:List Fc)(hL:lfp rs ns=L)(r q:Nat)(hq:(rootF rs (r:Int)).toNat=q):zai rs ns r=(List.range rs.length).filter fun x=>decide (x ∈ lcN (needW rs ns L) (clW ns) (q+1) q):=by
 subst hL hq;unfold zai;refine List.filter_congr fun x _=>?_
 rw[Bool.eq_iff_iff,zwx,decide_eq_true_eq,zpt (fun i j hi hj=>(zls (rs:=rs) (L:=lfp rs ns) h.ex).less i j (zcz.2 ⟨hi,hj⟩)) x _ _ (Nat.lt_succ_self _)]
def lX:List Fc:=[⟨false,false,false⟩,⟨false,true,true⟩,⟨false,false,false⟩,⟨false,true,true⟩,⟨true,true,false⟩,⟨false,false,false⟩,⟨false,false,false⟩,⟨false,true,true⟩,⟨false,false,false⟩,⟨false,true,true⟩]
def lH:List Fc:=[⟨false,true,true⟩,⟨false,true,true⟩,⟨false,true,true⟩,⟨false,true,true⟩]
theorem zl7:lfp gX nX=lX:=by kernel_rfl
theorem zr7:lfp gH nH=lH:=by kernel_rfl
theorem zd2:zai gX nX 0=[1]:=(zds zde.1 lX zl7 0 2 rfl).trans (by kernel_rfl)
theorem zd3:zai gX nX 1=[0,2]:=(zds zde.1 lX zl7 1 8 rfl).trans (by kernel_rfl)
theorem zyf:zai gX nX 2=[]:=(zds zde.1 lX zl7 2 9 rfl).trans (by kernel_rfl)
theorem zl8:zai gH nH 0=[1]:=(zds zgv.1 lH zr7 0 2 rfl).trans (by kernel_rfl)
theorem zpu:zai gH nH 1=[]:=(zds zgv.1 lH zr7 1 3 rfl).trans (by kernel_rfl)
theorem cyc2 {calls:Nat->List Nat}{a b:Nat}(ha:a ∉ calls a)(hab:b ∈ calls a)(hba:a ∈ calls b)(hun:∀c,c ∈ calls a->a ∈ calls c->c=b):cycW calls a=[a,b]:=by
 refine zpc ⟨⟨rfl,fun i x y hx hy=>?_⟩,fun m hm=>?_⟩
 ·match i,hx,hy with
  |0,hx,hy=>cases hx;cases hy;exact hab
  |1,hx,hy=>cases hx;cases hy;exact hba
  |i+2,hx,hy=>simp at hy
 ·match m,hm with
  | [],hm=>exact absurd hm.1 (by simp)
  | [x],hm=>
   obtain rfl:x=a:=Option.some.inj hm.1;exact absurd (hm.2 0 x x rfl rfl) ha
  | [x,y],hm=>
   obtain rfl:x=a:=Option.some.inj hm.1;have:=hun y (hm.2 0 x y rfl rfl) (hm.2 1 y x rfl rfl);exact .inr ⟨rfl,.inl (by rw[this])⟩
  |x::y::z::t,hm=>exact .inl (by simp)
theorem recX0:recB gX nX 0=true:=zda.2 (.more (by rw[zd2];simp) (.one (j:=0) (i:=1) (by rw[zd3];simp)))
theorem recX1:recB gX nX 1=true:=zda.2 (.more (by rw[zd3];simp) (.one (i:=0) (j:=1) (by rw[zd2];simp)))
theorem zyg {calls:Nat->List Nat}{a b:Nat}(h:calls a=[]):¬RchG calls a b:=fun g=>by
 cases g with
 |one g=>rw[h] at g;exact absurd g List.not_mem_nil
 |more g _=>rw[h] at g;exact absurd g List.not_mem_nil
theorem recX2:recB gX nX 2=false:=Bool.eq_false_iff.2 fun h=>zyg zyf (zda.1 h)
theorem recH1:recB gH nH 1=false:=Bool.eq_false_iff.2 fun h=>zyg zpu (zda.1 h)
theorem recH0:recB gH nH 0=false:=Bool.eq_false_iff.2 fun h=>by
 have g:=zda.1 h;cases g with
 |one g=>rw[zl8] at g;simp at g
 |more g g'=>rw[zl8] at g;obtain rfl:=List.mem_singleton.1 g;exact zyg zpu g'
theorem recX:recW gX nX=[0,1]:=by
 unfold recW;show(List.range 3).filter _=_;rw[show List.range 3=[0,1,2] from rfl,List.filter_cons_of_pos recX0,List.filter_cons_of_pos recX1,List.filter_cons_of_neg (by rw[recX2];decide)];rfl
theorem cycX1:cycW (zai gX nX) 1=[1,0]:=cyc2 (by rw[zd3];decide) (by rw[zd3];decide) (by rw[zd2];decide) fun c hc h=>by
 rw[zd3] at hc;simp only[List.mem_cons,List.not_mem_nil,or_false] at hc;rcases hc with rfl|rfl
 ·rfl
 ·rw[zyf] at h;exact absurd h List.not_mem_nil
theorem cycX0:cycW (zai gX nX) 0=[0,1]:=cyc2 (by rw[zd2];decide) (by rw[zd2];decide) (by rw[zd3];decide) fun c hc h=>by
 rw[zd2] at hc;exact List.mem_singleton.1 hc
theorem explX:explW gX nX=⟨#[65,32,60,45,32,66,32,60,45,32,65]⟩:=by
 rw[zil (k:=0) (by decide) (fun j hj=>absurd hj (Nat.not_lt_zero _)) recX0,cycX0];kernel_rfl
theorem explH:explW gH nH=⟨#[]⟩:=zj1 fun j hj=>by
 match j,hj with
 |0,_=>exact recH0
 |1,_=>exact recH1
 |j+2,hj=>exact absurd hj (by show ¬j+2<2;omega)
theorem ordX {l:List Nat}(h:OrdG (zai gX nX) 3 l):¬l.length=3:=fun hl=>by
 match l,hl with
 |x::y::t,hl=>
  obtain⟨⟨a1,a2,a3⟩,-⟩:=h 0 x rfl;obtain⟨⟨b1,b2,b3⟩,-⟩:=h 1 y rfl;have hx:x=2:=by
   match x,a1,a3 with
   |0,_,a3=>exact absurd (a3 1 (by rw[zd2];decide)) List.not_mem_nil
   |1,_,a3=>exact absurd (a3 0 (by rw[zd3];decide)) List.not_mem_nil
   |2,_,_=>rfl
   |x+3,a1,_=>exact absurd a1 (by omega)
  subst hx;have b2:y ∉ [2]:=b2;have b3:∀c,c ∈ zai gX nX y->c ∈ [2]:=b3
  match y,b1,b2,b3 with
  |0,_,_,b3=>exact absurd (b3 1 (by rw[zd2];decide)) (by decide)
  |1,_,_,b3=>exact absurd (b3 0 (by rw[zd3];decide)) (by decide)
  |2,_,b2,_=>exact absurd (by decide) b2
  |y+3,b1,_,_=>exact absurd b1 (by omega)
theorem ordH:OrdG (zai gH nH) 2 [1,0]:=by
 have h1:OrdG (zai gH nH) 2 ([]++[1]):=OrdG.nil.snoc ⟨by decide,by decide,fun c hc=>by rw[zpu] at hc;exact absurd hc List.not_mem_nil⟩ fun y hy=>by
  match y,hy with
  |0,hy=>exact absurd (hy.2.2 1 (by rw[zl8];decide)) List.not_mem_nil
  |y+1,_=>omega
 exact h1.snoc ⟨by decide,by decide,fun c hc=>by rw[zl8] at hc;exact hc⟩ fun y hy=>Nat.zero_le _
end
section
open Go.RowKit
theorem eqI13 (u v:Value)(l:List Int)(w:World)(hl:l.length<=maxLen)(hu:IntsAt w u l)(hv:IntsAt w v l):Calls Tryz.prog 10 #[u,v] w fun e w'=>e=.returned (.bool true)/\Below w.heap.size w w':=
 (zjc u v l l w hl hu hv).mono fun e w' ⟨h1,q,h2⟩=>⟨by rw[h1,decide_eq_true rfl],by rw[h2];exact zak (Below.refl _ _)⟩
theorem zn6 (w:World)(l:List Int)(cs:Array Value)(n:Nat)(h:cs=(intsV l).toArray)(hn:n=l.length):IntsAt (w.alloc (.cells cs 3)) (.slice (some ⟨w.heap.size,0,none⟩) n n) l:=by
 subst h hn;refine⟨_,_,rfl,.inr ⟨_,0,rfl,fun i x hx=>?_⟩⟩;rw[Nat.zero_add];exact(Bl.new w 3 _).cell (by rw[List.getElem?_toArray];unfold intsV;rw[List.getElem?_map,hx];rfl)
theorem NRow.caps13 {base:Nat}{v:Value}{ns:List PN}{qs:List Value}{w:World}(h:NRow base v ns qs w):CapsAt w v ns.length:=fun b off n c e i hi a m d hc=>by
 subst e;obtain⟨hq,ho,hk⟩:=h;obtain⟨y,hy⟩:∃y,ns[i]?=some y:=⟨_,List.getElem?_eq_getElem hi⟩;obtain⟨q,hqq⟩:∃q,qs[i]?=some q:=⟨_,List.getElem?_eq_getElem (by omega)⟩;rcases ho.2 with⟨e,-⟩|⟨g,cap,cur,e,-⟩
 ·injection e with e;cases e
 ·have e2:=e
  injection e2 with e1;injection e1 with e1;injection e1 with e3 e4;subst e3 e4;have:=ho.cells rfl (i*7+1) q (by rw[zcj (z3l hy hqq) (by decide)];rfl);rw[Addr.add_lit] at this;rw[Nat.add_assoc] at hc;rw[this] at hc;have hc:=Option.some.inj hc;subst hc;rcases(hk i y _ hy hqq).2 with⟨e,-⟩|⟨_,cap2,_,e,-,-,hcap,-⟩
  ·injection e with _ e1 e2;omega
  ·injection e with _ e1 e2;omega
def GA (w:World)(rv nv:Value)(rs:List PR)(ns:List PN):Prop:=RulesIn w rv rs/\NodesAt w nv ns/\CapsAt w nv ns.length
theorem GA.below {w w':World}{rv nv:Value}{rs:List PR}{ns:List PN}(h:GA w rv nv rs ns)(hb:Below w.heap.size w w'):GA w' rv nv rs ns:=⟨h.1.kept hb (Nat.le_refl _),h.2.1.kept hb (Nat.le_refl _),h.2.2.kept h.2.1 rfl hb⟩
theorem zy4 {rs:List PR}{ns:List PN}{w w':World}{e:Ending}(hr:rs.length<=1000)(hn:ns.length<=1000)(hk:∀n,n ∈ ns->n.kids.length<=1000)(h:zym rs ns w e w'):∃ra rc na nc,e=.returned (.tuple #[.agg #[.slice ra rs.length rc,.slice na ns.length nc],.nilIface])/\GA w' (.slice ra rs.length rc) (.slice na ns.length nc) rs ns/\Below w.heap.size w w':=by
 obtain⟨rv,nv,qs,rfl,h1,h2,h3⟩:=h;have hG:GA w' rv nv rs ns:=⟨RulesIn.of_own h1 (by unfold maxLen;omega),h2.nodes (by unfold maxLen;omega) fun n hn=>by have:=hk n hn;unfold maxLen;omega,h2.caps13⟩;obtain⟨ra,rc,rfl⟩:=zad h1;obtain⟨na,nc,rfl⟩:=zad h2.2.1;exact⟨ra,rc,na,nc,rfl,hG,h3⟩
theorem z89 (W:World)(hl:SignsAt W):Calls Tryz.prog 28 #[.string ⟨#[65,32,60,45,32,66,32,39,120,39,10,66,32,60,45,32,39,121,39,63,32,65,32,47,32,67,10,67,32,60,45,32,39,99,39]⟩] W fun e w'=>∃ra rc na nc,e=.returned (.tuple #[.agg #[.slice ra 3 rc,.slice na 10 nc],.nilIface])/\GA w' (.slice ra 3 rc) (.slice na 10 nc) gX nX/\Below W.heap.size W w':=
 (z4a x13Xb W hl (by decide) (by rw[z16];exact zyd) z18 z19 zr4).mono fun e w' h=>zy4 (rs:=gX) (ns:=nX) (by decide) (by decide) (fun n hn=>Nat.le_trans (zde.1.flow.kl n hn) (by decide)) h
theorem z9a (W:World)(hl:SignsAt W):Calls Tryz.prog 28 #[.string ⟨#[65,32,60,45,32,66,32,39,120,39,10,66,32,60,45,32,39,121,39]⟩] W fun e w'=>∃ra rc na nc,e=.returned (.tuple #[.agg #[.slice ra 2 rc,.slice na 4 nc],.nilIface])/\GA w' (.slice ra 2 rc) (.slice na 4 nc) gH nH/\Below W.heap.size W w':=
 (z4a x13Hb W hl (by decide) (by rw[z17];exact zye) z2a z2b zr5).mono fun e w' h=>zy4 (rs:=gH) (ns:=nH) (by decide) (by decide) (fun n hn=>Nat.le_trans (zgv.1.flow.kl n hn) (by decide)) h
theorem z9b {rv nv:Value}{W:World}(h:GA W rv nv gX nX):Calls Tryz.prog 20 #[.agg #[rv,nv]] W fun e w'=>e=.returned (.tuple #[.slice none 0 0,.bool false])/\Below W.heap.size W w':=
 (zj0 rv nv gX nX W h.1 h.2.1 h.2.2 zde.1).mono fun e w' h=>by
  rcases h with⟨a,c,l,-,h1,h2,-⟩|⟨h1,-,h2⟩
  ·exact absurd h2 (ordX h1)
  ·exact⟨h1,h2⟩
theorem row13 {l:List Nat}{w w':World}{e:Ending}(h:zb5 l w e w'):∃a c,e=.returned (.slice a l.length c)/\IntsAt w' (.slice a l.length c) (l.map fun k:Nat=>(k:Int))/\Below w.heap.size w w':=by
 obtain⟨u,rfl,ho,hb⟩:=h;obtain⟨a,c,rfl⟩:=zad ho;refine⟨a,c,rfl,IntsAt.of_own (base:=w.heap.size) ?_,hb⟩;rw[List.length_map];exact ho
theorem z9c {rv nv:Value}{W:World}(h:GA W rv nv gH nH):Calls Tryz.prog 20 #[.agg #[rv,nv]] W fun e w'=>∃a c,e=.returned (.tuple #[.slice a 2 c,.bool true])/\IntsAt w' (.slice a 2 c) [1,0]/\Below W.heap.size W w':=
 (zj0 rv nv gH nH W h.1 h.2.1 h.2.2 zgv.1).mono fun e w' h=>by
  rcases h with⟨a,c,l,rfl,h1,h2,h3,h4⟩|⟨-,⟨l,h1,h2,h3⟩,-⟩
  ·obtain rfl:l=[1,0]:=h1.unique ordH (h2.trans rfl)
   exact⟨a,c,rfl,IntsAt.of_own (l:=[1,0]) h3,h4⟩
  ·exact absurd (OrdG.ends ordH h1 rfl h3) (Nat.ne_of_lt h2)
theorem zy5 {rv nv:Value}{W:World}(r:Nat)(l:List Nat)(hr:r<gX.length)(hl:zai gX nX r=l)(h:GA W rv nv gX nX):Calls Tryz.prog 11 #[.agg #[rv,nv],.int .i64 (r:Int)] W fun e w'=>∃a c,e=.returned (.slice a l.length c)/\IntsAt w' (.slice a l.length c) (l.map fun k:Nat=>(k:Int))/\Below W.heap.size W w':=
 (ze1 rv nv gX nX r W h.1 h.2.1 h.2.2 zde.1 hr).mono fun e w' h=>by rw[hl] at h;exact row13 h
theorem zy6 {rv nv:Value}{W:World}(h:GA W rv nv gX nX):Calls Tryz.prog 11 #[.agg #[rv,nv],.int .i64 0] W fun e w'=>∃a c,e=.returned (.slice a 1 c)/\IntsAt w' (.slice a 1 c) [1]/\Below W.heap.size W w':=zy5 0 [1] (by decide) zd2 h
theorem zy7 {rv nv:Value}{W:World}(h:GA W rv nv gX nX):Calls Tryz.prog 11 #[.agg #[rv,nv],.int .i64 1] W fun e w'=>∃a c,e=.returned (.slice a 2 c)/\IntsAt w' (.slice a 2 c) [0,2]/\Below W.heap.size W w':=zy5 1 [0,2] (by decide) zd3 h
theorem z9d {rv nv:Value}{W:World}(h:GA W rv nv gX nX):Calls Tryz.prog 13 #[.agg #[rv,nv]] W fun e w'=>∃a c,e=.returned (.slice a 2 c)/\IntsAt w' (.slice a 2 c) [0,1]/\Below W.heap.size W w':=
 (zlu rv nv gX nX W h.1 h.2.1 h.2.2 zde.1).mono fun e w' h=>by rw[recX] at h;exact row13 h
theorem z9e {rv nv:Value}{W:World}(h:GA W rv nv gX nX):Calls Tryz.prog 15 #[.agg #[rv,nv],.int .i64 1] W fun e w'=>∃a c,e=.returned (.slice a 2 c)/\IntsAt w' (.slice a 2 c) [1,0]/\Below W.heap.size W w':=
 (z1m rv nv gX nX 1 W h.1 h.2.1 h.2.2 zde.1 (by decide)).mono fun e w' h=>by rw[cycX1] at h;exact row13 h
theorem z9f {rv nv:Value}{W:World}(h:GA W rv nv gX nX):Calls Tryz.prog 18 #[.agg #[rv,nv]] W fun e w'=>e=.returned (.string ⟨#[65,32,60,45,32,66,32,60,45,32,65]⟩)/\Below W.heap.size W w':=
 (zg5 rv nv gX nX W h.1 h.2.1 h.2.2 zde.1 zde.2).mono fun e w' h=>by rw[explX] at h;exact h
theorem z9g {rv nv:Value}{W:World}(h:GA W rv nv gH nH):Calls Tryz.prog 18 #[.agg #[rv,nv]] W fun e w'=>e=.returned (.string ⟨#[]⟩)/\Below W.heap.size W w':=
 (zg5 rv nv gH nH W h.1 h.2.1 h.2.2 zgv.1 zgv.2).mono fun e w' h=>by rw[explH] at h;exact h
theorem ziw (w:World)(hl:SignsAt w):Calls Tryz.prog 8 #[] w fun e w'=>e=.returned (.bool true)/\Below w.heap.size w w':=by
 have HX:=Lib.hid (z89 w hl);have HH:=Lib.hid fun(W:World) (hb:Below w.heap.size w W)=>z9a W (hl.kept hb (Nat.le_refl _))
 clear hl;go_enter Tryz.func8,Tryz.ntmps8
 go_upto_region 4 with(go_at_call 28;(with_reducible refine HX.out.mono ?_);rintro e w1 ⟨ra,rc,na,nc,rfl,hG,hb⟩;have hn:=zab w1 (.cells #[.slice ra 3 rc,.slice na 10 nc] 25);have HG1:=Lib.hid (hG.below hn);have HF1:=Lib.hid (Bl.new w1 25 #[.slice ra 3 rc,.slice na 10 nc]);have HB1:=Lib.hid (bl_on hb hn);clear hG hb hn)
 obtain⟨W1,hW1⟩:∃W1,w1.alloc (.cells #[.slice ra 3 rc,.slice na 10 nc] 25)=W1:=⟨_,rfl⟩;obtain⟨F,hF⟩:∃F,w1.heap.size=F:=⟨_,rfl⟩;rw[hW1] at HG1 HF1 HB1;rw[hF] at HF1;rw[hW1,hF];clear hW1 hF;have c0:=HF1.out.cell (o:=0) (u:=.slice ra 3 rc) rfl;have c1:=HF1.out.cell (o:=1) (u:=.slice na 10 nc) rfl;have cl:=HF1.out.lt
 go_upto_region 8 with(first
  |(go_at_call 20;(with_reducible refine(z9b HG1.out).mono ?_);rintro e w2 ⟨rfl,hb⟩;have HG2:=Lib.hid (HG1.out.below hb);have HF2:=Lib.hid (HF1.out.below hb);have HB2:=Lib.hid (bl_on HB1.out hb);clear hb c0 c1 cl)
  |(go_at_call 28;(with_reducible refine(HH.out _ HB2.out).mono ?_);rintro e w3 ⟨ra',rc',na',nc',rfl,hG,hb⟩;have hn:=zab w3 (.cells #[.slice ra' 2 rc',.slice na' 4 nc'] 25);have hbn:=bl_on hb hn;have HH3:=Lib.hid (hG.below hn);have HG3:=Lib.hid (HG2.out.below hbn);have HF3:=Lib.hid (HF2.out.below hbn);have HE3:=Lib.hid (Bl.new w3 25 #[.slice ra' 2 rc',.slice na' 4 nc']);have HB3:=Lib.hid (bl_on HB2.out hbn);clear hG hb hn hbn))
 obtain⟨W3,hW3⟩:∃W3,w3.alloc (.cells #[.slice ra' 2 rc',.slice na' 4 nc'] 25)=W3:=⟨_,rfl⟩;obtain⟨E,hE⟩:∃E,w3.heap.size=E:=⟨_,rfl⟩;rw[hW3] at HG3 HF3 HB3 HE3 HH3;rw[hE] at HE3;rw[hW3,hE];clear hW3 hE HG1 HF1 HB1 HG2 HF2 HB2 HX HH;have HBc:=Lib.hid (Below.refl W3.heap.size W3);have c0:=HF3.out.cell (o:=0) (u:=.slice ra 3 rc) rfl;have c1:=HF3.out.cell (o:=1) (u:=.slice na 10 nc) rfl;have cl:=HF3.out.lt;have d0:=HE3.out.cell (o:=0) (u:=.slice ra' 2 rc') rfl;have d1:=HE3.out.cell (o:=1) (u:=.slice na' 4 nc') rfl;have dl:=HE3.out.lt;have HC:=Lib.hid fun(V:World) (hb:Below W3.heap.size W3 V)=>show V.cell? ⟨F,0,none⟩=some (.slice ra 3 rc)/\V.cell? ⟨F,1,none⟩=some (.slice na 10 nc)/\F<V.heap.size/\V.cell? ⟨E,0,none⟩=some (.slice ra' 2 rc')/\V.cell? ⟨E,1,none⟩=some (.slice na' 4 nc')/\E<V.heap.size from⟨(HF3.out.below hb).cell (o:=0) rfl,(HF3.out.below hb).cell (o:=1) rfl,(HF3.out.below hb).lt,(HE3.out.below hb).cell (o:=0) rfl,(HE3.out.below hb).cell (o:=1) rfl,(HE3.out.below hb).lt⟩
 go_upto_region 9 with(go_at_call 20;(with_reducible refine(z9c HH3.out).mono ?_);rintro e w4 ⟨oa,oc,rfl,hi,hb⟩;have HO:=Lib.hid hi;have HBc:=Lib.hid (bl_on HBc.out hb);obtain⟨c0,c1,cl,d0,d1,dl⟩:=HC.out _ HBc.out;have HD:=Lib.hid (Below.refl w4.heap.size w4);clear hi hb)
 go_wp2_with (first
  |(go_at_call 11;(with_reducible refine(zy6 (HG3.out.below HBc.out)).mono ?_);rintro e w5 ⟨a5,c5,rfl,hi,hb⟩;have HI:=Lib.hid hi;have HD:=Lib.hid (bl_on HD.out hb);have HBc:=Lib.hid (bl_on HBc.out hb);clear hi hb)
  |(go_at_call 10;(with_reducible refine(eqI13 _ _ [1] _ (by decide) (HI.out.kept (zab _ _) (Nat.le_refl _)) (zn6 _ _ #[.int .i64 1] 1 rfl rfl)).mono ?_);rintro e w6 ⟨rfl,hb⟩;have HD:=Lib.hid (bl_on (zar HD.out) hb);have HBc:=Lib.hid (bl_on (zar HBc.out) hb);clear hb HI;obtain⟨c0,c1,cl,d0,d1,dl⟩:=HC.out _ HBc.out)
  |(go_at_call 11;(with_reducible refine(zy7 (HG3.out.below HBc.out)).mono ?_);rintro e w7 ⟨a7,c7,rfl,hi,hb⟩;have HI:=Lib.hid hi;have HD:=Lib.hid (bl_on HD.out hb);have HBc:=Lib.hid (bl_on HBc.out hb);clear hi hb)
  |(go_at_call 10;(with_reducible refine(eqI13 _ _ [0,2] _ (by decide) (HI.out.kept (zab _ _) (Nat.le_refl _)) (zn6 _ _ #[.int .i64 0,.int .i64 2] 2 rfl rfl)).mono ?_);rintro e w8 ⟨rfl,hb⟩;have HD:=Lib.hid (bl_on (zar HD.out) hb);have HBc:=Lib.hid (bl_on (zar HBc.out) hb);clear hb HI;obtain⟨c0,c1,cl,d0,d1,dl⟩:=HC.out _ HBc.out)
  |(go_at_call 13;(with_reducible refine(z9d (HG3.out.below HBc.out)).mono ?_);rintro e w9 ⟨a9,c9,rfl,hi,hb⟩;have HI:=Lib.hid hi;have HD:=Lib.hid (bl_on HD.out hb);have HBc:=Lib.hid (bl_on HBc.out hb);clear hi hb)
  |(go_at_call 10;(with_reducible refine(eqI13 _ _ [0,1] _ (by decide) (HI.out.kept (zab _ _) (Nat.le_refl _)) (zn6 _ _ #[.int .i64 0,.int .i64 1] 2 rfl rfl)).mono ?_);rintro e wa ⟨rfl,hb⟩;have HD:=Lib.hid (bl_on (zar HD.out) hb);have HBc:=Lib.hid (bl_on (zar HBc.out) hb);clear hb HI;obtain⟨c0,c1,cl,d0,d1,dl⟩:=HC.out _ HBc.out)
  |(go_at_call 15;(with_reducible refine(z9e (HG3.out.below HBc.out)).mono ?_);rintro e wb ⟨ab,cb,rfl,hi,hb⟩;have HI:=Lib.hid hi;have HD:=Lib.hid (bl_on HD.out hb);have HBc:=Lib.hid (bl_on HBc.out hb);clear hi hb)
  |(go_at_call 10;(with_reducible refine(eqI13 _ _ [1,0] _ (by decide) (HI.out.kept (zab _ _) (Nat.le_refl _)) (zn6 _ _ #[.int .i64 1,.int .i64 0] 2 rfl rfl)).mono ?_);rintro e wc ⟨rfl,hb⟩;have HD:=Lib.hid (bl_on (zar HD.out) hb);have HBc:=Lib.hid (bl_on (zar HBc.out) hb);clear hb HI;obtain⟨c0,c1,cl,d0,d1,dl⟩:=HC.out _ HBc.out)
  |(go_at_call 18;(with_reducible refine(z9f (HG3.out.below HBc.out)).mono ?_);rintro e wd ⟨rfl,hb⟩;have HD:=Lib.hid (bl_on HD.out hb);have HBc:=Lib.hid (bl_on HBc.out hb);have HOd:=Lib.hid (HO.out.kept HD.out (Nat.le_refl _));clear hb)
  |(go_at_call 10;(with_reducible refine(eqI13 _ _ [1,0] _ (by decide) (HOd.out.kept (zab _ _) (Nat.le_refl _)) (zn6 _ _ #[.int .i64 1,.int .i64 0] 2 rfl rfl)).mono ?_);rintro e we ⟨rfl,hb⟩;have HBc:=Lib.hid (bl_on (zar HBc.out) hb);clear hb;obtain⟨c0,c1,cl,d0,d1,dl⟩:=HC.out _ HBc.out)
  |(go_at_call 18;(with_reducible refine(z9g (HH3.out.below HBc.out)).mono ?_);rintro e wf ⟨rfl,hb⟩;have HBc:=Lib.hid (bl_on HBc.out hb);clear hb))
 go_ret;exact⟨rfl,bl_on HB3.out HBc.out⟩
end
section
open Go.RowKit
theorem yaa1 (w:World)(ty:TypeId)(base base2:Nat)(i:TypeInfo)(hi:Tryz.prog.info? 3=some i)(hz:i.zero=some (.int .i64 0))(h1:i.size=1)(h2:i.bytes=8)(v src:Value)(n m:Nat)(xs ys:List Value)(hown:w.ownsRow base 3 1 v n xs)(hsrc:w.ownsRow base2 3 1 src m ys)(hy:∀u ∈ ys,u.oneCell'=true)(hnm:n+m<=100000)(hbase:base<=w.heap.size) :
  ∃a' c' w',(Builtin.append_ #[29,29] ty #[v,src]).run Tryz.prog w=.ok (.slice a' (n+m) c') w'/\w'.ownsRow base 3 1 (.slice a' (n+m) c') (n+m) (xs++ys)/\w.grownBy w' v.ownBlock/\((Value.slice a' (n+m) c').ownBlock=v.ownBlock∨(Value.slice a' (n+m) c').ownBlock=some w.heap.size):=by
 rcases hsrc.2 with⟨rfl,h0⟩|⟨g,cap,cur,rfl,-⟩
 ·obtain rfl:m=0:=h0
  obtain rfl:ys=[]:=List.length_eq_zero_iff.1 (by rw[hsrc.1,Nat.zero_mul]);obtain⟨a',c',rfl⟩:=zad hown;exact⟨a',c',w,run_append_owned_none w base 29 ty 3 i 1 Tryz.underlying29 hi _ _ _ hown,by rw[List.append_nil];exact hown,⟨rfl,rfl,rfl,Nat.le_refl _,fun _ _ _=>rfl⟩,.inl rfl⟩
 ·obtain⟨v',w',hr,h3,h4,-,h5⟩:=run_append_own_at (P:=Tryz.prog) w base 29 ty 3 i (.int .i64 0) 1 8 Tryz.underlying29 hi hz h1 h2 rfl (by decide) v n xs hown ⟨g,0,none⟩ m cap ys hsrc.1 (fun j u hu=>by
   exact hsrc.cells rfl j u hu) hy (by unfold maxLen;omega) (by omega) hbase
  obtain⟨a',c',rfl⟩:=zad h3;exact⟨a',c',w',hr,h3,h4,h5⟩
theorem yaav {ops:Array Oper}{o:Oper}{a:Act}{w:World}{K:Act->World->Prop}{Q:Exit->Act->World->Prop}{E:Prop}(hgd:o.guard=none)(s x:Operand)
  (ho:o.op=.call { callee:=.builtin .append,args:=#[s,x],argTypes:=#[29,29] })
  (base base2:Nat) (i:TypeInfo) (hi:Tryz.prog.info? 3=some i) (hz:i.zero=some (.int .i64 0)) (h1:i.size=1) (h2:i.bytes=8) (v src:Value) (n m:Nat) (xs ys:List Value) (hs:a.eval s=v) (hx:a.eval x=src) (hown:w.ownsRow base 3 1 v n xs) (hsrc:w.ownsRow base2 3 1 src m ys) (hy:∀u ∈ ys,u.oneCell'=true) (hnm:n+m<=100000) (hbase:base<=w.heap.size)
  (h:∀a' cap' w',w'.ownsRow base 3 1 (.slice a' (n+m) cap') (n+m) (xs++ys)->w.grownBy w' v.ownBlock->((Value.slice a' (n+m) cap').ownBlock=v.ownBlock∨(Value.slice a' (n+m) cap').ownBlock=some w.heap.size)->K (a.put o.dst (.slice a' (n+m) cap')) w') :
  if Region.wanted o (yielded ops a.tmps)=true then Oper.wp Tryz.prog o a w K Q else E:=by
 have hw:Region.wanted o (yielded ops a.tmps)=true:=by simp[Region.wanted,hgd]
 rw[if_pos hw];obtain⟨a',cap',w',hr,h2,h3,h5⟩:=yaa1 w o.type base base2 i hi hz h1 h2 v src n m xs ys hown hsrc hy hnm hbase;unfold Oper.wp execOp;simp only[ho,resolve,invoke,builtin,Sem.run_bind,Sem.run_pure,Result.andThen_ok,List.map_toArray,List.map_cons,List.map_nil,hs,hx,hr];exact h a' cap' w' h2 h3 h5
theorem yaa2 (l m:List Nat):natsV (l++m)=natsV l++natsV m:=by unfold natsV intsV;rw[List.map_append,List.map_append]
structure CwS (w:World) (rv nv:Value) (n:Nat) (m:Nat->Bool) (vl:Value) (sn:List Nat) (W:World):Prop where
 lo:Below w.heap.size w W
 g:Bl W w.heap.size 25 #[rv,nv]
 b:BolAt m n (w.heap.size+2) W
 o:W.ownsRow w.heap.size 3 1 vl sn.length (natsV sn)
section
variable {w W W1 W':World} {rv nv vl v5:Value} {n:Nat} {m:Nat->Bool} {sn l:List Nat}
theorem CwS.below (h:CwS w rv nv n m vl sn W)(hb:Below W.heap.size W W'):CwS w rv nv n m vl sn W':=
 ⟨h.lo.trans (hb.mono h.lo.size),h.g.below hb,h.b.below hb,zaa h.o hb⟩
theorem CwS.app (h:CwS w rv nv n m vl sn W)(hb:Below W.heap.size W W1)(ho:W'.ownsRow w.heap.size 3 1 v5 (sn.length+l.length) (natsV sn++natsV l))(hg:W1.grownBy W' vl.ownBlock):CwS w rv nv n m v5 (sn++l) W':=by
 refine⟨(h.lo.trans (hb.mono h.lo.size)).grown hg (Nat.le_trans h.lo.size hb.size) (fun g e=>(h.o.lt g e).1),?_,h.b |>.below hb |> fun hB=>?_,by rw[List.length_append,yaa2];exact ho⟩
 ·exact(h.g.below hb).grown hg (fun g e=>by obtain⟨c,fz,hc⟩:=Lib.ownsRow_kind (zaa h.o hb) g e;exact⟨c,3,fz,hc,by decide⟩)
 ·obtain⟨cs,h1,h2⟩:=hB
  exact⟨cs,h1.grown hg (fun g e=>by obtain⟨c,fz,hc⟩:=Lib.ownsRow_kind (zaa h.o hb) g e;exact⟨c,3,fz,hc,by decide⟩),h2⟩
theorem CwS.put {k:Nat}(h:CwS w rv nv n m vl sn W)(hk:k<n):CwS w rv nv n (ins m k) vl sn (W.setCell ⟨w.heap.size+2,k,none⟩ (.bool true)):=by
 obtain⟨h1,h2,h3,h4⟩:=h;obtain⟨cs,hB,-⟩:=id h3;exact⟨h1.setCell (p:=⟨w.heap.size+2,k,none⟩) (by show _<=w.heap.size+2;omega) _,h2.other (h2.ne hB (by decide)) _,h3.put hk,ownsRow_setCell_other h4 (a:=⟨w.heap.size+2,k,none⟩) (za9 h4 ⟨_,_,hB⟩ (by decide)) _⟩
end
def MkI (cl:Nat->Option Nat)(m:Nat->Bool)(sn:List Nat)(k:Nat):Prop:=∀x,m x=true↔∃t y,t<k/\sn[t]?=some y/\cl y=some x
theorem MkI.call {cl:Nat->Option Nat}{m:Nat->Bool}{sn:List Nat}{k y x:Nat}(h:MkI cl m sn k)(hy:sn[k]?=some y)(hx:cl y=some x):MkI cl (ins m x) sn (k+1):=fun z=>by
 constructor
 ·intro g
  rcases zfk g with g|rfl
  ·obtain⟨t,y',a,b,c⟩:=(h z).1 g
   exact⟨t,y',by omega,b,c⟩
  ·exact⟨k,y,by omega,hy,hx⟩
 ·rintro⟨t,y',a,b,c⟩
  rcases Nat.lt_or_ge t k with e|e
  ·exact zby ((h z).2 ⟨t,y',e,b,c⟩)
  ·obtain rfl:t=k:=by omega
   rw[hy] at b;cases b;rw[hx] at c;cases c;exact zcf m _
theorem MkI.none {cl:Nat->Option Nat}{m:Nat->Bool}{sn l:List Nat}{k y:Nat}(h:MkI cl m sn k)(hy:sn[k]?=some y)(hx:cl y=none):MkI cl m (sn++l) (k+1):=fun z=>by
 have hkl:=(List.getElem?_eq_some_iff.1 hy).1;rw[h z];constructor
 ·rintro⟨t,y',a,b,c⟩
  exact⟨t,y',by omega,by rw[List.getElem?_append_left (by omega)];exact b,c⟩
 ·rintro⟨t,y',a,b,c⟩
  rw[List.getElem?_append_left (by omega)] at b;rcases Nat.lt_or_ge t k with e|e
  ·exact⟨t,y',e,b,c⟩
  ·obtain rfl:t=k:=by omega
   rw[hy] at b;cases b;rw[hx] at c;cases c
theorem MkI.over {rs:List PR}{ns:List PN}{m:Nat->Bool}{sn:List Nat}{k r q:Nat}(h:MkI (clW ns) m sn k)(hk:sn.length<=k)(hW:WkG (ndC (needW rs ns (lfp rs ns)) (clW ns)) q sn k)(hq:(rootF rs (r:Int)).toNat=q):memb m rs.length=zai rs ns r:=by
 unfold memb zai;refine List.filter_congr fun x _=>?_
 rw[Bool.eq_iff_iff,zwx,hq,LcG.iff,h x];constructor
 ·rintro⟨t,y,-,b,c⟩
  exact⟨y,(hW.over hk y).1 (List.mem_of_getElem? b),c⟩
 ·rintro⟨c,a,b⟩
  obtain⟨t,ht,e⟩:=List.mem_iff_getElem.1 ((hW.over hk c).2 a);exact⟨t,c,by omega,by rw[List.getElem?_eq_getElem ht,e],b⟩
theorem yaa3 {rs:List PR}{ns:List PN}{k:Nat}{n:PN}(hO:FlowOk rs ns)(hn:ns[k]?=some n):intsV (needN rs (lfp rs ns) n)=natsV (needW rs ns (lfp rs ns) k)/\(needN rs (lfp rs ns) n).length=(needW rs ns (lfp rs ns) k).length:=by
 obtain⟨-,hl,hr⟩:=zgn hO hn;refine⟨?_,hl.symm⟩;unfold natsV;congr 1;apply List.ext_getElem?;intro t;rw[List.getElem?_map];cases hx:(needN rs (lfp rs ns) n)[t]? with
 |none=>
  rw[List.getElem?_eq_none_iff] at hx;rw[List.getElem?_eq_none (by omega)];rfl
 |some x=>
  obtain⟨i,rfl,-,hi⟩:=hr t x hx;rw[hi];rfl
theorem z9s (rv nv:Value)(rs:List PR)(ns:List PN)(r:Nat)(w:World)(hR:RulesIn w rv rs)(hN:NodesAt w nv ns)(hO:LeftOk rs ns)(hr:r<rs.length) :
  Calls Tryz.prog 12 #[.agg #[rv,nv],.int .i64 (r:Int)] w (zb5 (zai rs ns r) w):=by
 obtain⟨x,hx⟩:∃x,rs[r]?=some x:=⟨_,List.getElem?_eq_getElem hr⟩;obtain⟨hx0,hx1⟩:=hO.root hx;obtain⟨q,hq⟩:∃q:Nat,x.root=(q:Int):=⟨x.root.toNat,by omega⟩;have hrl:=hO.rl;have hnl:=hO.flow.nl;have hqn:q<ns.length:=by omega
 have hroot:(rootF rs (r:Int)).toNat=q:=by rw[zcn hx,hq];rfl
 have HT:=Lib.hid (zls (rs:=rs) (L:=lfp rs ns) hO.ex);have HROOT:=Lib.hid hroot;have HFL:=Lib.hid hO.flow;obtain⟨ii,hii,hz0,hz1,hz2⟩:=info_parts za3;have HND:=Lib.hid (fun(W:World) (hb:Below w.heap.size w W) (i:Nat) (n:PN) (hn:ns[i]?=some n)=>yaab rv nv rs ns i n W (hR.kept hb (Nat.le_refl _)) (hN.kept hb (Nat.le_refl _)) hO.flow hn);have HNV:=Lib.hid (fun(i:Nat) (n:PN) (hn:ns[i]?=some n)=>yaa3 hO.flow hn);have HRO:=Lib.hid (fun(n:PN) (hn:n ∈ ns)=>(hO.flow.ok n hn).root);unfold z3w at HND;obtain⟨-,ra,rc,rfl,hra⟩:=hR;obtain⟨-,na,nc,rfl,hna⟩:=hN;have hnp:0<ns.length:=by omega
 rcases hra with h0|⟨rb,ro,rfl,hca⟩
 ·rw[h0] at hr;exact absurd hr (Nat.not_lt_zero _)
 rcases hna with h0|⟨nb,no,rfl,hcn⟩
 ·rw[h0] at hnp;exact absurd hnp (Nat.lt_irrefl _)
 obtain⟨r0,r1⟩:=hca r x hx;rw[hq] at r1;have lr:=zac r1;have k2:(r:Int)<(rs.length:Int):=by omega
 have hmk:=fun w=>run_make_row' (P:=Tryz.prog) 58 4 (.bool false) 1 Tryz.underlying58 Tryz.infoBool rfl .i64 .i64 rs.length (by omega) (by omega) w
 have HCN:=Lib.hid hcn;clear hO hca hcn r0 hx hx0 hx1 hroot;go_enter Tryz.func12,Tryz.ntmps12
 go_upto_region 3 with fail
 generalize hW:World.alloc (World.alloc (World.alloc w _) _) _=W;have hS:CwS w (.slice (some ⟨rb,ro,none⟩) rs.length rc) (.slice (some ⟨nb,no,none⟩) ns.length nc) rs.length (fun _=>false) (.slice (some ⟨w.heap.size+1,0,none⟩) 1 1) [q] W:=by
  refine⟨by rw[<-hW];exact(zat _ _ _).alloc (by simp;omega) _,?_,⟨madeCells #[.bool false] rs.length,?_,fun j hj=>?_⟩,?_⟩
  ·rw[<-hW];repeat (first|(refine Bl.new' ?_;simp;done)|refine Bl.past ?_)
  ·rw[<-hW];repeat (first|(refine Bl.new' ?_;simp;done)|refine Bl.past ?_)
  ·simp[madeCells,hj,Nat.mod_one]
  ·rw[<-hW]
   have h:=z95 (w.alloc (.cells #[.slice (some ⟨rb,ro,none⟩) rs.length rc,.slice (some ⟨nb,no,none⟩) ns.length nc] 25)) w.heap.size (q:Int) (by simp);simp only[World.size_alloc] at h;exact zaa h (zab _ _)
 have hk0:MkI (clW ns) (fun _=>false) [q] 0:=fun x=>⟨fun h=>(by cases h),fun⟨_,_,h,_⟩=>absurd h (Nat.not_lt_zero _)⟩
 have HS:=Lib.hid hS;clear hS hW;go_wp2
 go_loopw [7,5] (fun c v wr=>∃(k:Nat) (m:Nat->Bool) (sn:List Nat) (a:Option Addr) (c5:Nat),k<=sn.length/\c=.int .i64 (k:Int)/\v=.slice a sn.length c5/\CwS w (.slice (some ⟨rb,ro,none⟩) rs.length rc) (.slice (some ⟨nb,no,none⟩) ns.length nc) rs.length m (.slice a sn.length c5) sn wr/\WkG (ndC (needW rs ns (lfp rs ns)) (clW ns)) q sn k/\MkI (clW ns) m sn k/\sn.length<=q+1) (fun c _ _=>q+1-(intOf c).toNat)
 case atStart=>exact⟨0,_,[q],_,_,Nat.zero_le _,rfl,rfl,HS.out,WkG.start,hk0,by simp⟩
 case round=>
  obtain⟨k,m,sn,a,c5,hk,rfl,rfl,hs,hwk,hmi,hle⟩:=hrel;by_cases hlt:k<sn.length
  ·have k1:(k:Int)<(sn.length:Int):=by omega
   obtain⟨y,hy⟩:∃y,sn[k]?=some y:=⟨_,List.getElem?_eq_getElem hlt⟩;have hyq:y<=q:=hwk.le y (List.mem_of_getElem? hy);have hyn:y<ns.length:=by omega
   obtain⟨n,hn⟩:∃n,ns[y]?=some n:=⟨_,List.getElem?_eq_getElem hyn⟩;have y1:(y:Int)<(ns.length:Int):=by omega
   have hia:IntsAt wr (.slice a sn.length c5) (sn.map fun k:Nat=>(k:Int)):=IntsAt.of_own (base:=w.heap.size) (by rw[List.length_map];exact hs.o);obtain⟨ab,ao,rfl,rx⟩:=hia.cell (i:=k) (x:=(y:Int)) (by rw[List.getElem?_map,hy];rfl);obtain⟨kv,n0,n1,n2,n3,n4,n5,n6,ni,-⟩:=(HCN.out y n hn).kept hs.lo (Nat.le_refl _);obtain⟨ka,kc,rfl,-⟩:=ni;have g0:wr.cell? ⟨w.heap.size,0,none⟩=some (.slice (some ⟨rb,ro,none⟩) rs.length rc):=hs.g.cell (o:=0) rfl;have g1:wr.cell? ⟨w.heap.size,1,none⟩=some (.slice (some ⟨nb,no,none⟩) ns.length nc):=hs.g.cell (o:=1) rfl;have lg:=hs.g.lt;have lx:=zac rx;have ln:=zac n0;have HSr:=Lib.hid hs;have HWK:=Lib.hid hwk;have HMI:=Lib.hid hmi;have HY:=Lib.hid hy;have HN:=Lib.hid hn;clear hs hwk hmi hy hn hia HS
   go_upto_region 6 with fail
   go_cut [8] from 28 to 36 (fun v wx=>v=.pointer (some ⟨wr.heap.size,0,none⟩)/\Bl wx wr.heap.size 51 #[.int .i64 n.op,.slice ka n.kids.length kc,.int .i64 n.rule,.int .u64 n.s0,.int .u64 n.s1,.int .u64 n.s2,.int .u64 n.s3]/\Below wr.heap.size wr wx)
   case first=>
    go_region_with fail
    all_goals go_wp2_with fail
    all_goals
     go_meet
     case rel=>exact⟨rfl,by repeat (first|(refine Bl.new' ?_;simp;done)|refine Bl.drew ?_|refine Bl.past ?_),by repeat (first|exact Below.refl _ _|refine Below.drew ?_|refine zae ?_ rfl _)⟩
   case rest=>
   obtain⟨rfl,hx2,hb2⟩:=hcut;have HX2:=Lib.hid hx2;have HS2:=Lib.hid (HSr.out.below hb2);have d1:wc.cell? ⟨ab,ao+k,none⟩=some (.int .i64 (y:Int)):=((bcell hb2).1 _ _ lx).trans rx;clear n0 n1 n2 n3 n4 n5 n6 g0 g1 lg lx ln rx hx2 hb2 HSr;have g0:wc.cell? ⟨w.heap.size,0,none⟩=some (.slice (some ⟨rb,ro,none⟩) rs.length rc):=HS2.out.g.cell (o:=0) rfl;have g1:wc.cell? ⟨w.heap.size,1,none⟩=some (.slice (some ⟨nb,no,none⟩) ns.length nc):=HS2.out.g.cell (o:=1) rfl;have lg:=HS2.out.g.lt;have ld:=zac d1;generalize wr.heap.size=R at *;have m0:wc.cell? ⟨R,0,none⟩=some (.int .i64 n.op):=HX2.out.cell (o:=0) rfl;have m2:wc.cell? ⟨R,2,none⟩=some (.int .i64 n.rule):=HX2.out.cell (o:=2) rfl;have lm:=HX2.out.lt;by_cases e2:n.op=2
   ·obtain⟨z,x',hz,hxz,-,-⟩:=HRO.out n (List.mem_of_getElem? HN.out) e2
    have hzl:=(List.getElem?_eq_some_iff.1 hxz).1;have z1:(z:Int)<(rs.length:Int):=by omega
    have hcl:clW ns y=some z:=by rw[zdz HN.out e2,hz];rfl
    have HP:=Lib.hid (HS2.out.put hzl);have HM2:=Lib.hid (HMI.out.call HY.out hcl);have HW2:=Lib.hid (show WkG (ndC (needW rs ns (lfp rs ns)) (clW ns)) q sn (k+1) from by
     have:=HWK.out.step HT.out HY.out;rw[zlr hcl,List.append_nil] at this;exact this)
    have b0:wc.cell? ⟨w.heap.size+1+1,z,none⟩=some (.bool (m z)):=HS2.out.b.cell hzl;have bf:wc.frozen? ⟨w.heap.size+1+1,z,none⟩=false:=HS2.out.b.free z;have lb:=zac b0;rw[e2] at m0;rw[hz] at m2;clear hcl hxz;go_wp2;go_roundw
    case rel=>exact⟨k+1,_,sn,_,_,by omega,by go_num,rfl,HP.out,HW2.out,HM2.out,hle⟩
    case measure=>simp[intOf];omega
   ·have e2':(n.op == 2)=false:=zaj e2
    have hcl:clW ns y=none:=zii HN.out e2;have HW2:=Lib.hid (show WkG (ndC (needW rs ns (lfp rs ns)) (clW ns)) q (sn++needW rs ns (lfp rs ns) y) (k+1) from by
     have:=HWK.out.step HT.out HY.out;rw[zlq hcl] at this;exact this)
    have HM2:=Lib.hid (HMI.out.none (l:=needW rs ns (lfp rs ns) y) HY.out hcl);have HL2:=Lib.hid HW2.out.len;obtain⟨hv1,hv2⟩:=HNV.out y n HN.out;have HNC:=Lib.hid (fun(W:World) (hb:Below w.heap.size w W)=>HND.out W hb y n HN.out);rw[hv1,hv2] at HNC;generalize needW rs ns (lfp rs ns) y=nd at *;clear hcl hv1 hv2 HND HNV m2
    go_upto_region 9 with fail
    go_region_law (first
     |(go_simp;go_at_call 35;(refine(HNC.out _ (HS2.out.lo.trans (Below.mono (by repeat (first|exact Below.refl _ _|refine Below.drew ?_)) HS2.out.lo.size))).mono ?_);rintro e w6 ⟨a6,c6,rfl,ho,hb⟩;have hb6:Below wc.heap.size wc w6:=Below.trans (by repeat (first|exact Below.refl _ _|refine Below.drew ?_)) (hb.mono (by simp));have HS6:=Lib.hid (HS2.out.below hb6);have HO6:=Lib.hid ho;clear ho hb hb6)
     |(refine yaav (by rfl) _ _ (by rfl) w.heap.size _ ii hii hz0 hz1 hz2 (.slice (some ⟨ab,ao,none⟩) sn.length c5) (.slice a6 nd.length c6) sn.length nd.length (natsV sn) (natsV nd) (by simp[Act.eval]) (by simp[Act.eval]) HS6.out.o HO6.out (ints_oneCell .i64 _) (by have:=HL2.out;rw[List.length_append] at this;omega) HS6.out.lo.size ?_;intro a7 c7 w7 hown hgrow _;have HS7:=Lib.hid (HS6.out.app (Below.refl _ _) hown hgrow);clear hown hgrow))
    all_goals
     go_wp2;go_roundw
     case rel=>exact⟨k+1,m,sn++nd,a7,c7,by rw[List.length_append];omega,by go_num,by rw[List.length_append],by rw[List.length_append];exact HS7.out,HW2.out,HM2.out,HL2.out⟩
     case measure=>simp[intOf];omega
  ·obtain rfl:k=sn.length:=by omega
   have k1:¬(sn.length:Int)<(sn.length:Int):=by omega
   have HD:=Lib.hid (hmi.over (Nat.le_refl _) hwk HROOT.out);have HB0:=Lib.hid hs.lo;have HM0:=Lib.hid hs.b;clear hs hwk hmi HS HND HNV HRO HT HROOT HFL HCN hk0 r1 hk hle hlt hmk;go_wp2
   go_loopw [10,9] (fun c u wq=>∃k:Nat,k<=rs.length/\c=.int .i64 k/\wq.ownsRow w.heap.size 3 1 u (memb m k).length (natsV (memb m k))/\Below w.heap.size w wq/\BolAt m rs.length (w.heap.size+1+1) wq) (fun c _ _=>rs.length-(intOf c).toNat)
   case atStart=>exact⟨0,Nat.zero_le _,rfl,World.ownsRow_nil _ _ _ _,HB0.out,HM0.out⟩
   case round=>
    obtain⟨k,hk,rfl,ho,hb,hm⟩:=hrel;obtain⟨ua,uc,rfl⟩:=zad ho;by_cases hlt:k<rs.length
    ·have k2:(k:Int)<(rs.length:Int):=by omega
     have c0:=hm.cell hlt;have HB:=Lib.hid hb;have HO:=Lib.hid ho;have HM:=Lib.hid hm;have HS:=Lib.hid (zms m k);have hle:=Lib.hid (zk5 m k);clear ho hb hm;cases hmk:m k with
     |false=>
      rw[hmk] at c0 HS;clear hmk;go_wp2;go_roundw
      case rel=>exact⟨k+1,by omega,by go_num,by rw[HS.out];simpa using HO.out,HB.out,HM.out⟩
      case measure=>simp[intOf];omega
     |true=>
      rw[hmk] at c0 HS;clear hmk
      go_wp2_with (at_builtin;refine wpList_append_own _ rfl _ _ 29 rfl w.heap.size 3 ii _ 1 8 Tryz.underlying29 hii hz0 hz1 hz2 rfl (by decide) _ (memb m k).length _ rfl (zaa HO.out (zab _ _)) ⟨_,0,none⟩ 1 1 [.int .i64 (k:Int)] rfl rfl (zh8 (by simp) _ _) (by simp[Value.oneCell']) (by have:=hle.out;unfold maxLen;omega) (by have:=hle.out;omega) (by have:=HB.out.size;simp;omega) ?_;intro v5 w5 hown' hgrow _;have HO5:=Lib.hid hown';have HB5:=Lib.hid ((HB.out.trans ((zab _ _).mono HB.out.size)).grown hgrow (Nat.le_trans HB.out.size (zab _ _).size) (fun g e=>(HO.out.lt g e).1));have HM5:=Lib.hid ((HM.out.below (zab _ _)).grown HO.out (zab _ _) hgrow);clear hown' hgrow)
      go_roundw
      case rel=>exact⟨k+1,by omega,by go_num,by rw[HS.out];have:=HO5.out;simpa [zjk] using this,HB5.out,HM5.out⟩
      case measure=>simp[intOf];omega
    ·obtain rfl:k=rs.length:=by omega
     have k2:¬(rs.length:Int)<(rs.length:Int):=by omega
     have HO:=Lib.hid ho;have HB:=Lib.hid hb;clear ho hb hm;go_wp2;go_ret;rw[<-HD.out];exact⟨_,rfl,HO.out,HB.out⟩
end
section
open Go.RowKit
theorem z91 (u:Value)(l:List Int)(x:Int)(b:Bool)(w:World)(hl:l.length<=1000000)(hu:IntsAt w u l)(hb:decide (x ∈ l)=b) :
  Calls Tryz.prog 38 #[u,.int .i64 x] w fun e w'=>e=.returned (.bool b)/\w'=w:=by
 have HU:=Lib.hid hu;have HB:=Lib.hid hb;obtain⟨a,ca,rfl,-⟩:=hu;clear hb;go_enter Tryz.func38,Tryz.ntmps38;go_wp2
 go_loopw [5] (fun c wr=>∃k:Nat,k<=l.length/\c=.int .i64 (k:Int)/\wr=w/\x ∉ l.take k) (fun c _=>l.length-(intOf c).toNat)
 case atStart=>exact⟨0,Nat.zero_le _,by first|rfl|trivial,by first|rfl|trivial,by simp⟩
 case round=>
  obtain⟨k,hk,rfl,hwr,hj⟩:=hrel;obtain rfl:=hwr.symm;by_cases hlt:k<l.length
  ·have k1:(k:Int)<(l.length:Int):=by omega
   obtain⟨y,hy⟩:∃y,l[k]?=some y:=⟨_,List.getElem?_eq_getElem hlt⟩;obtain⟨ob,oo,rfl,ox⟩:=HU.out.cell hy;have lo:=zac ox;have HJ:=Lib.hid hj;have HY:=Lib.hid hy;clear hj hy;by_cases e:y=x
   ·subst e
    have HM:=Lib.hid (List.mem_of_getElem? HY.out);go_wp2;go_ret;exact⟨by rw[<-HB.out,decide_eq_true HM.out];rfl,by first|rfl|trivial⟩
   ·have e':(y == x)=false:=by simpa using e
    have HN:=Lib.hid e;clear e;go_wp2;go_roundw
    case rel=>
     refine⟨k+1,by omega,by go_num,by first|rfl|trivial,?_⟩;rw[List.take_add_one,HY.out,List.mem_append];rintro(h|h)
     ·exact HJ.out h
     ·exact HN.out (by simp at h;exact h.symm)
    case measure=>simp[intOf];omega
  ·obtain rfl:k=l.length:=by omega
   have k1:¬(l.length:Int)<(l.length:Int):=by omega
   rw[List.take_length] at hj;have HN:=Lib.hid hj;clear hj;go_wp2;go_ret;exact⟨by rw[<-HB.out,decide_eq_false HN.out];rfl,by first|rfl|trivial⟩
theorem z92:(Tryz.prog.info? 29).map (fun i=>(i.zero,i.size,i.bytes))=some (some (.slice none 0 0),1,24):=by kernel_rfl
def GRows (cs:Nat->List Nat)(base:Nat)(qs:List Value)(w:World):Prop:=∀(i:Nat) (q:Value),qs[i]?=some q->w.ownsRow base 3 1 q (cs i).length (natsV (cs i))
def GrIs (cs:Nat->List Nat)(N:Nat)(w:World)(e:Ending)(w':World):Prop:=∃(v:Value) (qs:List Value),e=.returned v/\qs.length=N/\w'.ownsRow w.heap.size 29 1 v N qs/\GRows cs w.heap.size qs w'/\Below w.heap.size w w'
theorem GRows.below {cs:Nat->List Nat}{base:Nat}{qs:List Value}{w w':World}(h:GRows cs base qs w)(hb:Below w.heap.size w w'):GRows cs base qs w':=fun i q hq=>zaa (h i q hq) hb
theorem GRows.app {cs:Nat->List Nat}{base k vc:Nat}{va:Option Addr}{qs xs:List Value}{q:Value}{o:Obj}{w4 w5:World}(hQ:GRows cs base qs w4)(hq:qs.length=k)(hV:w4.ownsRow base 29 1 (.slice va k vc) k xs)(h4:w4.ownsRow base 3 1 q (cs k).length (natsV (cs k)))(hg:(w4.alloc o).grownBy w5 (Value.slice va k vc).ownBlock):GRows cs base (qs++[q]) w5:=fun i q' hi=>by
 refine zbi (e':=29) (zaa (W:=w4) ?_ (zab w4 o)) hg (fun g e=>Lib.ownsRow_kind (zaa hV (zab w4 o)) g e) (by decide);rcases Nat.lt_or_ge i qs.length with h|h
 ·rw[List.getElem?_append_left h] at hi
  exact hQ i q' hi
 ·rw[List.getElem?_append_right h] at hi
  cases hj:i-qs.length with
  |zero=>
   rw[hj] at hi;obtain rfl:i=k:=by omega
   cases hi;exact h4
  |succ j=>rw[hj] at hi;simp at hi
theorem yabc {base k vc G:Nat}{va:Option Addr}{xs:List Value}{cs:Array Value}{o:Obj}{w4 w5:World}(hV:w4.ownsRow base 29 1 (.slice va k vc) k xs)(h:Bl w4 G 25 cs)(hg:(w4.alloc o).grownBy w5 (Value.slice va k vc).ownBlock):Bl w5 G 25 cs:=
 (h.past (o:=o)).grown hg (fun g e=>by obtain⟨c,fz,hc⟩:=Lib.ownsRow_kind (zaa hV (zab w4 o)) g e;exact⟨c,29,fz,hc,by decide⟩)
theorem z9m (rv nv:Value)(rs:List PR)(ns:List PN)(w:World)(hR:RulesIn w rv rs)(hN:NodesAt w nv ns)(hO:LeftOk rs ns) :
  Calls Tryz.prog 17 #[.agg #[rv,nv]] w (GrIs (zai rs ns) rs.length w):=by
 have hrl:=hO.rl;obtain⟨ii,hii,hz0,hz1,hz2⟩:=info_parts z92;have HC:=Lib.hid (fun(W:World) (hb:Below w.heap.size w W) (r:Nat) (hr:r<rs.length)=>z9s rv nv rs ns r W (hR.kept hb (Nat.le_refl _)) (hN.kept hb (Nat.le_refl _)) hO hr);unfold zb5 at HC;obtain⟨-,ra,rc,rfl,-⟩:=hR;obtain⟨-,na,nc,rfl,-⟩:=hN;have HG0:=Lib.hid (Bl.new w 25 #[.slice ra rs.length rc,.slice na ns.length nc]);have HB0:=Lib.hid (zab w (.cells #[.slice ra rs.length rc,.slice na ns.length nc] 25));clear hO;go_enter Tryz.func17,Tryz.ntmps17;go_wp2
 go_loopw [4,3] (fun c v wr=>∃(k:Nat) (qs:List Value),k<=rs.length/\qs.length=k/\c=.int .i64 (k:Int)/\wr.ownsRow w.heap.size 29 1 v k qs/\GRows (zai rs ns) w.heap.size qs wr/\Below w.heap.size w wr/\Bl wr w.heap.size 25 #[.slice ra rs.length rc,.slice na ns.length nc]) (fun c _ _=>rs.length-(intOf c).toNat)
 case atStart=>exact⟨0,[],Nat.zero_le _,rfl,rfl,World.ownsRow_nil _ _ _ _,fun i q h=>by simp at h,HB0.out,HG0.out⟩
 case round=>
  obtain⟨k,qs,hk,hq,rfl,ho,hg,hb,hG⟩:=hrel;obtain⟨va,vc,rfl⟩:=zad ho;have HO:=Lib.hid ho;have HQ:=Lib.hid hg;have HB:=Lib.hid hb;have HG:=Lib.hid hG;have g0:wr.cell? ⟨w.heap.size,0,none⟩=some (.slice ra rs.length rc):=hG.cell (o:=0) rfl;have g1:wr.cell? ⟨w.heap.size,1,none⟩=some (.slice na ns.length nc):=hG.cell (o:=1) rfl;have lg:=hG.lt;clear ho hg hb hG;by_cases hlt:k<rs.length
  ·have k1:(k:Int)<(rs.length:Int):=by omega
   have HCk:=Lib.hid (fun(W:World) (hb:Below w.heap.size w W)=>HC.out W hb k hlt)
   go_wp2_with (first
    |(go_at_call 12;(with_reducible refine(HCk.out _ HB.out).mono ?_);rintro e w4 ⟨u4,rfl,ho,hb⟩;obtain⟨a4,c4,rfl⟩:=zad ho;have HO4:=Lib.hid (zax ho HB.out.size);have HV4:=Lib.hid (zaa HO.out hb);have HQ4:=Lib.hid (HQ.out.below hb);have HG4:=Lib.hid (HG.out.below hb);have HB4:=Lib.hid (bl_on HB.out hb);clear ho hb)
    |(at_builtin;refine wpList_append_own _ rfl _ _ 33 rfl w.heap.size 29 ii _ 1 24 Tryz.underlying33 hii hz0 hz1 hz2 rfl (by decide) _ k _ rfl (zaa HV4.out (zab _ _)) ⟨_,0,none⟩ 1 1 [.slice a4 (zai rs ns k).length c4] rfl rfl (zh8 (by simp) _ _) (by simp[Value.oneCell']) (by unfold maxLen;omega) (by omega) (by have:=HB4.out.size;simp;omega) ?_;intro v5 w5 hown' hgrow _;have HO5:=Lib.hid hown';have HQ5:=Lib.hid (HQ4.out.app hq HV4.out HO4.out hgrow);have HB5:=Lib.hid ((zar HB4.out).grown hgrow (zar HB4.out).size (fun g e=>(HO.out.lt g e).1));have HG5:=Lib.hid (yabc HV4.out HG4.out hgrow);clear hown' hgrow))
   go_roundw
   case rel=>exact⟨k+1,_,by omega,by rw[List.length_append,hq];rfl,by go_num,HO5.out,HQ5.out,HB5.out,HG5.out⟩
   case measure=>simp[intOf];omega
  ·obtain rfl:k=rs.length:=by omega
   have k1:¬(rs.length:Int)<(rs.length:Int):=by omega
   go_wp2;go_ret;exact⟨_,qs,rfl,hq,HO.out,HQ.out,HB.out⟩
end
end Go.Proofs.YthhppmehhdlmnaaGreatDoor
