/- The reference: prefixed, with a suffix. Made of XSynRPre7 (wip/gen/synrpx.py) by hand: one walk for the three suffixes. -/
import Derived.Deep.Cut
import Derived.Test.YtmopdlbpkiaoeaaGreatDoorPqS
set_option maxRecDepth 100000
set_option maxHeartbeats 16000000
open Go.IntKind renaming i64->jd, u64->jg
open Go.Value renaming int->je, slice->jf, bool->ji
namespace Go.Proofs.YtmopdlbpkiaoeaaGreatDoor
open Go.IntWalk renaming i64_in->qaq
open Go.Lib renaming hid->qaa
open Go.Proofs.Tryz renaming prog->qab, results133->qcn
open Go.RowKit.Below renaming drew->qak, refl->qaf
open Nat renaming le_refl->qac
section
open Go.RowKit
section
variable {R:RC} {rs:List (List Nat × Nat × Int)} {f:MF} {qs:List Value} {w:World} (la:Option Addr) (lc:Nat) (i:Int) (ra:Option Addr) (rn rc:Nat) (na:Option Addr) (nn nc:Nat) (ca:Option Addr) (cn cc:Nat) (d:Nat) (t:Tok) (tl TS:List Tok) (opv:Int)
theorem yamf (sop:Int)(hp:PreK t opv)(u:Tok)(us:List Tok)(g g2:MF)(hg2:(opv=0->g2=(addN g (mkN sop [lastI g])))/\(0<opv->g2=addN (addN g (mkN sop [lastI g])) (mkN opv [lastI (addN g (mkN sop [lastI g]))])))(hEc:Endy (u::us))(hm:g.nodes.length+2<=100000000)(hu:(u.kind=6/\sop=7)∨(u.kind=7/\sop=5)∨(u.kind=8/\sop=6))(hbase:R.base<=w.heap.size)(h:RSt R rs (t::tl) f qs ⟨la,lc,i,ra,rn,rc,na,nn,nc,ca,cn,cc,-1,false⟩ w)
  (hst:∀n:Nat,i=n->∃iv:Int,(0<opv->iv=(n:Int)+1)/\(opv=0->iv=n)/\RSt R rs TS f qs ⟨la,lc,iv,ra,rn,rc,na,nn,nc,ca,cn,cc,-1,false⟩ w)
  (hC:∀(x:SV) (W:World),Below w.heap.size w W->RSt R rs TS f qs x W->Calls qab 151 #[x.v R,je jd (d:Int)] W (RRes R (lastI g) (RF R rs (u::us) g qs W.heap.size) W)) :
  Calls qab 133 #[.agg #[jf la R.T.length lc,je jd i,jf ra rn rc,jf na nn nc,jf ca cn cc,je jd (-1),ji false,ji R.one],je jd (d:Int)] w (RRes R (lastI g2) (RF R rs us g2 qs w.heap.size) w):=by
 obtain⟨h1,-,-,⟨n,hi,hn⟩,-⟩:=h;have hi:i=n:=hi;obtain⟨iv,hv1,hv2,hst2⟩:=hst n hi;have hnl:=(h1.tok hn).1;have hTl:=h1.2;have hKD:=fun(W:World) (hb:Below w.heap.size w W)=>za9 R ⟨la,lc,i,ra,rn,rc,na,nn,nc,ca,cn,cc,-1,false⟩ W n t tl (h1.below hb) hi hn
 unfold SV.v at hKD;dsimp only at hKD;subst hi;have v1:IntKind.i64.wrap ((n:Int)+1)=(n:Int)+1:=qaq _ U;have HP:=qaa fun(W:World) (hb:Below w.heap.size w W)=>(show Calls qab 151 #[.agg #[jf la R.T.length lc,je jd iv,jf ra rn rc,jf na nn nc,jf ca cn cc,je jd (-1),ji false,ji R.one],je jd (d:Int)] W (RRes R (lastI g) (RF R rs (u::us) g qs w.heap.size) W) from(hC ⟨la,lc,iv,ra,rn,rc,na,nn,nc,ca,cn,cc,-1,false⟩ W hb (hst2.below hb)).mono fun e w' k=>k.mono fun x W2 q=>q.lo hb.size)
 obtain⟨op1,ho1,ho2,ho3,ho4,ho5⟩:=hp.two;obtain⟨kk,hkk⟩:∃y,kI t.kind=y:=⟨_,rfl⟩;rw[hkk] at hKD ho1 ho2 ho3 ho4;have HKD:=qaa hKD;have HBASE:=qaa hbase;clear h1 hn hnl hKD hst hst2 hC hbase hkk hp;go_enter Tryz.func133,Tryz.ntmps133
 go_upto_region 2 with fail
 obtain⟨W0,hW0⟩:∃W0,(w.alloc (.cells #[jf la R.T.length lc,je jd (n:Int),jf ra rn rc,jf na nn nc,jf ca cn cc,je jd (-1),ji false,ji R.one] 167)).alloc (.cells zeroV 167)=W0:=⟨_,rfl⟩;have hb0:Below w.heap.size w W0:=by rw[<-hW0];exact zac (zac (qaf _ _) rfl _) rfl _
 have hX:Bl W0 w.heap.size 167 #[jf la R.T.length lc,je jd (n:Int),jf ra rn rc,jf na nn nc,jf ca cn cc,je jd (-1),ji false,ji R.one]:=by rw[<-hW0];repeat (first|(refine Bl.new' ?_;simp;done)|refine Bl.past ?_)
 have hO:Bl W0 (w.heap.size+1) 167 zeroV:=by rw[<-hW0];repeat (first|(refine Bl.new' ?_;simp;done)|refine Bl.past ?_)
 unfold zeroV at hW0;rw[hW0];obtain⟨⟨x0,x1,x2,x3,x4,x5,x6,x7⟩,xf,xl⟩:=zad hX;obtain⟨⟨z0,z1,z2,z3,z4,z5,z6,z7⟩,zf,zl⟩:=zad hO;have HX0:=qaa hX;have HO0:=qaa hO;have HB0:=qaa hb0;clear hX hO hb0 hW0;have hne:¬w.heap.size+1=w.heap.size:=U
 have hne':¬w.heap.size=w.heap.size+1:=U
 go_upto_if 11 with(go_at_call 105;(with_reducible refine(HKD.out _ HB0.out).mono ?_);rintro e w1 ⟨rfl,hb⟩;have hx:=HX0.out.below hb;have ho:=HO0.out.below hb;have hbb:=HB0.out.trans (hb.mono HB0.out.size);clear x0 x1 x2 x3 x4 x5 x6 x7 xf xl z0 z1 z2 z3 z4 z5 z6 z7 zf zl;obtain⟨⟨x0,x1,x2,x3,x4,x5,x6,x7⟩,xf,xl⟩:=zad hx;obtain⟨⟨z0,z1,z2,z3,z4,z5,z6,z7⟩,zf,zl⟩:=zad ho;have HX1:=qaa hx;have HO1:=qaa ho;have HB1:=qaa hbb;clear hx ho hbb hb)
 go_cut [6] (fun v wx=>v=je jd op1/\wx=w1)
 case first=>
  by_cases h4:kk=4
  ·have e4:(kk == 4)=true:=by rw[h4];rfl
   have o1:=ho1 h4;go_wp2
   go_meet
   exact⟨by rw[o1],rfl⟩
  ·have e4:(kk == 4)=false:=zae h4
   have o1:=ho2 h4;go_wp2
   go_meet
   exact⟨by rw[o1],rfl⟩
 case rest=>
 obtain⟨rfl,rfl⟩:=hcut
 go_upto_if 14 with(go_at_call 105;(with_reducible refine(HKD.out _ HB1.out).mono ?_);rintro e w2 ⟨rfl,hb⟩;have hx:=HX1.out.below hb;have ho:=HO1.out.below hb;have hbb:=HB1.out.trans (hb.mono HB1.out.size);clear x0 x1 x2 x3 x4 x5 x6 x7 xf xl z0 z1 z2 z3 z4 z5 z6 z7 zf zl;obtain⟨⟨x0,x1,x2,x3,x4,x5,x6,x7⟩,xf,xl⟩:=zad hx;obtain⟨⟨z0,z1,z2,z3,z4,z5,z6,z7⟩,zf,zl⟩:=zad ho;have HX2:=qaa hx;have HO2:=qaa ho;have HB2:=qaa hbb;clear hx ho hbb hb)
 go_cut [6] (fun v wx=>v=je jd opv/\wx=w2)
 case first=>
  by_cases h5:kk=5
  ·have e5:(kk == 5)=true:=by rw[h5];rfl
   have o1:=ho3 h5;go_wp2
   go_meet
   exact⟨by rw[o1],rfl⟩
  ·have e5:(kk == 5)=false:=zae h5
   have o1:=ho4 h5;go_wp2
   go_meet
   exact⟨by rw[o1],rfl⟩
 case rest=>
 obtain⟨rfl,rfl⟩:=hcut
 go_upto_if 16 with fail
 go_cut [] (fun wx=>Bl wx w.heap.size 167 #[jf la R.T.length lc,je jd iv,jf ra rn rc,jf na nn nc,jf ca cn cc,je jd (-1),ji false,ji R.one]/\Bl wx (w.heap.size+1) 167 zeroV/\Below w.heap.size w wx)
 case first=>
  rcases ho5 with h0|h0
  ·have e0:¬(0:Int)<opv:=U
   have HV:=qaa (hv2 h0);clear h0 hv1 hv2;go_wp2
   go_meet
   exact⟨by rw[HV.out];exact HX2.out,HO2.out,HB2.out⟩
  ·have HV:=qaa (hv1 h0)
   clear hv1 hv2;go_wp2
   go_meet
   exact⟨by rw[HV.out];exact Bl.put (i:=1) HX2.out (je jd ((n:Int)+1)),HO2.out.other (o:=1) hne (je jd ((n:Int)+1)),HB2.out.setCell (p:=⟨w.heap.size,1,none⟩) (qac _) (je jd ((n:Int)+1))⟩
 case rest=>
 obtain⟨hx,ho,hb⟩:=hcut;clear x0 x1 x2 x3 x4 x5 x6 x7 xf xl z0 z1 z2 z3 z4 z5 z6 z7 zf zl;obtain⟨⟨x0,x1,x2,x3,x4,x5,x6,x7⟩,xf,xl⟩:=zad hx;obtain⟨⟨z0,z1,z2,z3,z4,z5,z6,z7⟩,zf,zl⟩:=zad ho;have HX3:=qaa hx;have HO3:=qaa ho;have HB3:=qaa hb;clear hx ho hb HX0 HX1 HX2 HO0 HO1 HO2 HB0 HB1 HB2 hv1 hv2 ho1 ho2 ho3 ho4
 go_upto_region 9 with(go_at_call 151;(with_reducible refine(HP.out _ HB3.out).mono ?_);rintro e w4 ⟨la4,lc4,i4,ra4,rn4,rc4,na4,nn4,nc4,ca4,cn4,cc4,bad4,dp4,rfl,hb,hq⟩;have hbd:bad4=-1:=hq.choose_spec.1.2.1;have hdp:dp4=false:=hq.choose_spec.1.2.2.1;subst hbd hdp;have hx:=HX3.out.below hb;have ho:=HO3.out.below hb;have hbb:=HB3.out.trans (hb.mono HB3.out.size);clear x0 x1 x2 x3 x4 x5 x6 x7 xf xl z0 z1 z2 z3 z4 z5 z6 z7 zf zl;obtain⟨⟨x0,x1,x2,x3,x4,x5,x6,x7⟩,xf,xl⟩:=zad hx;obtain⟨⟨z0,z1,z2,z3,z4,z5,z6,z7⟩,zf,zl⟩:=zad ho;have HX4:=qaa hx;have HO4:=qaa ho;have HB4:=qaa hbb;have HQ4:=qaa hq;clear hx ho hbb hb hq)
 have hx:=zay HX4.out (jf la4 R.T.length lc4) (je jd i4) (jf ra4 rn4 rc4) (jf na4 nn4 nc4) (jf ca4 cn4 cc4) (je jd (-1)) (ji false) (ji R.one);have ho:=Bl.other8 HO4.out hne (jf la4 R.T.length lc4) (je jd i4) (jf ra4 rn4 rc4) (jf na4 nn4 nc4) (jf ca4 cn4 cc4) (je jd (-1)) (ji false) (ji R.one);have hq:=RF.low8 HQ4.out HX4.out (jf la4 R.T.length lc4) (je jd i4) (jf ra4 rn4 rc4) (jf na4 nn4 nc4) (jf ca4 cn4 cc4) (je jd (-1)) (ji false) (ji R.one);have hb:=zbh HB4.out (qac _) (jf la4 R.T.length lc4) (je jd i4) (jf ra4 rn4 rc4) (jf na4 nn4 nc4) (jf ca4 cn4 cc4) (je jd (-1)) (ji false) (ji R.one);obtain⟨W5,hW5⟩:∃W5,((((((((w4.setCell ⟨w.heap.size,0,none⟩ (jf la4 R.T.length lc4)).setCell ⟨w.heap.size,1,none⟩ (je jd i4)).setCell ⟨w.heap.size,2,none⟩ (jf ra4 rn4 rc4)).setCell ⟨w.heap.size,3,none⟩ (jf na4 nn4 nc4)).setCell ⟨w.heap.size,4,none⟩ (jf ca4 cn4 cc4)).setCell ⟨w.heap.size,5,none⟩ (je jd (-1))).setCell ⟨w.heap.size,6,none⟩ (ji false)).setCell ⟨w.heap.size,7,none⟩ (ji R.one))=W5:=⟨_,rfl⟩;rw[hW5] at hx ho hq hb ⊢;clear x0 x1 x2 x3 x4 x5 x6 x7 xf xl z0 z1 z2 z3 z4 z5 z6 z7 zf zl hW5;obtain⟨⟨x0,x1,x2,x3,x4,x5,x6,x7⟩,xf,xl⟩:=zad hx;obtain⟨⟨z0,z1,z2,z3,z4,z5,z6,z7⟩,zf,zl⟩:=zad ho;have HX5:=qaa hx;have HO5:=qaa ho;have HQ5:=qaa hq;have HB5:=qaa hb;clear hx ho hq hb HX4 HO4 HQ4 HB4;obtain⟨tq,⟨q1,-,-,⟨m,hmi,hmT⟩,-,-⟩,-⟩:=HQ5.out;have hmi:i4=(m:Int):=hmi;subst hmi;have hK3:=fun(W:World) (hb:Below W5.heap.size W5 W)=>za9 R ⟨la4,lc4,(m:Int),ra4,rn4,rc4,na4,nn4,nc4,ca4,cn4,cc4,-1,false⟩ W m u us (q1.below hb) rfl hmT
 unfold SV.v at hK3;dsimp only at hK3;have hml:=(q1.tok hmT).1;have v3:IntKind.i64.wrap ((m:Int)+1)=(m:Int)+1:=qaq _ U;obtain⟨kv,hkv⟩:∃kv,kI u.kind=kv:=⟨_,rfl⟩;have hks:(kv=6/\sop=7)∨(kv=7/\sop=5)∨(kv=8/\sop=6):=by
  rw[<-hkv];rcases hu with⟨h,e⟩|⟨h,e⟩|⟨h,e⟩<;>rw[h,e]<;>decide
 rw[hkv] at hK3;have hu6:u.kind≠0/\u.kind≠99:=U
 have htl3:=hEc.tail hu6.1 hu6.2;have HDR:Hid (R.T.drop (m+1)=us):=qaa (by rw[<-List.tail_drop,hmT];rfl);have HNE:=qaa htl3.ne;have HKU:=qaa hK3;have HBR:=qaa (qaf W5.heap.size W5);have kneg:¬((0:Int) <= -1):=ja
 have ke6:(6:Int)<=kv:=U
 have ke8:kv<=(8:Int):=U
 have HKS:=qaa hks;clear q1 hmT hK3 hml hu hu6 hEc hkv hks htl3
 go_upto_region 14 with(go_at_call 105;(with_reducible refine(HKU.out _ HBR.out).mono ?_);rintro e w6 ⟨rfl,hb⟩;have hx:=HX5.out.below hb;have ho:=HO5.out.below hb;have hq:=HQ5.out.below hb;have hbb:=HB5.out.trans (hb.mono HB5.out.size);clear x0 x1 x2 x3 x4 x5 x6 x7 xf xl z0 z1 z2 z3 z4 z5 z6 z7 zf zl;obtain⟨⟨x0,x1,x2,x3,x4,x5,x6,x7⟩,xf,xl⟩:=zad hx;obtain⟨⟨z0,z1,z2,z3,z4,z5,z6,z7⟩,zf,zl⟩:=zad ho;have HX6:=qaa hx;have HO6:=qaa ho;have HQ6:=qaa hq;have HB6:=qaa hbb;clear hx ho hq hbb hb)
 have hx:Bl (w6.setCell ⟨w.heap.size,1,none⟩ (je jd ((m:Int)+1))) w.heap.size 167 #[jf la4 R.T.length lc4,je jd ((m:Int)+1),jf ra4 rn4 rc4,jf na4 nn4 nc4,jf ca4 cn4 cc4,je jd (-1),ji false,ji R.one]:=Bl.put (i:=1) HX6.out (je jd ((m:Int)+1));have ho:=HO6.out.other (o:=1) hne (je jd ((m:Int)+1));have hb:=HB6.out.setCell (p:=⟨w.heap.size,1,none⟩) (qac _) (je jd ((m:Int)+1));have hq0:=HQ6.out.low HX6.out 1 (je jd ((m:Int)+1));have hq:RF R rs us g qs w.heap.size ⟨la4,lc4,(m:Int)+1,ra4,rn4,rc4,na4,nn4,nc4,ca4,cn4,cc4,-1,false⟩ (w6.setCell ⟨w.heap.size,1,none⟩ (je jd ((m:Int)+1))):=by
  obtain⟨tq,⟨s1,s2,s3,-,-,s6⟩,ht⟩:=hq0;exact⟨tq,⟨s1,s2,s3,⟨m+1,by show(m:Int)+1=_;omega,HDR.out⟩,HNE.out,s6⟩,ht⟩
 obtain⟨W7,hW7⟩:∃W7,w6.setCell ⟨w.heap.size,1,none⟩ (je jd ((m:Int)+1))=W7:=⟨_,rfl⟩;rw[hW7] at hx ho hb hq ⊢;clear x0 x1 x2 x3 x4 x5 x6 x7 xf xl z0 z1 z2 z3 z4 z5 z6 z7 zf zl hW7 hq0;obtain⟨⟨x0,x1,x2,x3,x4,x5,x6,x7⟩,xf,xl⟩:=zad hx;obtain⟨⟨z0,z1,z2,z3,z4,z5,z6,z7⟩,zf,zl⟩:=zad ho;have HX7:=qaa hx;have HO7:=qaa ho;have HB7:=qaa hb;have HA7:=qaa (show ∀(W:World) (B:Nat),Below W7.heap.size W7 W->Bl W B 3 #[je jd (lastI g)]->W7.heap.size<=B->Calls qab 152 #[.agg #[jf la4 R.T.length lc4,je jd ((m:Int)+1),jf ra4 rn4 rc4,jf na4 nn4 nc4,jf ca4 cn4 cc4,je jd (-1),ji false,ji R.one],.agg #[je jd sop,jf (some ⟨B,0,none⟩) 1 1,je jd 0,je jg 0,je jg 0,je jg 0,je jg 0]] W (RRes R (lastI (addN g (mkN sop [lastI g]))) (RF R rs us (addN g (mkN sop [lastI g])) qs w.heap.size) W) from zfa hq (mkN sop [lastI g]) rfl HBASE.out hb U);clear hx ho hb hq HX6 HO6 HB6 HQ6 HX5 HO5 HB5 HQ5 HX3 HO3 HB3
 go_cut [7] (fun kk wx=>kk=je jd (lastI (addN g (mkN sop [lastI g])))/\∃x:SV,RF R rs us (addN g (mkN sop [lastI g])) qs w.heap.size x wx/\Bl wx w.heap.size 167 #[jf x.la R.T.length x.lc,je jd x.i,jf x.ra x.rn x.rc,jf x.na x.nn x.nc,jf x.ca x.cn x.cc,je jd (-1),ji false,ji R.one]/\Bl wx (w.heap.size+1) 167 zeroV/\Below w.heap.size w wx)
 case first=>
  clear HP HKD HKU HBR HDR HNE z0 z1 z2 z3 z4 z5 z6 z7 zf zl kneg v1 v3 hTl hg2 ho5 ke6 ke8;have hks:=HKS.out;clear HKS;rcases hks with⟨rfl,rfl⟩|⟨rfl,rfl⟩|⟨rfl,rfl⟩
  all_goals go_region_with (go_at_call 152;(refine(HA7.out _ _ ?_ ?_ ?_).mono ?_);(· repeat (first|exact qaf _ _|refine qak ?_|refine zac ?_ rfl _));(· repeat (first|(refine Bl.new' ?_;simp;done)|refine Bl.drew ?_|refine Bl.past ?_));(· simp);rintro e w8 ⟨la8,lc8,i8,ra8,rn8,rc8,na8,nn8,nc8,ca8,cn8,cc8,bad8,dp8,rfl,hb,hq⟩;have hbd:bad8=-1:=hq.choose_spec.1.2.1;have hdp:dp8=false:=hq.choose_spec.1.2.2.1;subst hbd hdp;have hb7:Below W7.heap.size W7 w8:=Below.trans (by repeat (first|exact qaf _ _|refine qak ?_|refine zac ?_ rfl _)) (hb.mono (by simp<;>omega));have hx:=HX7.out.below hb7;have ho:=HO7.out.below hb7;have hbb:=HB7.out.trans (hb7.mono HB7.out.size);clear x0 x1 x2 x3 x4 x5 x6 x7 xf xl;obtain⟨⟨x0,x1,x2,x3,x4,x5,x6,x7⟩,xf,xl⟩:=zad hx;have HX8:=qaa hx;have HO8:=qaa ho;have HB8:=qaa hbb;have HQ8:=qaa hq;clear hx ho hbb hb hb7 hq)
  all_goals
   have hx:=qaa (zay HX8.out (jf la8 R.T.length lc8) (je jd i8) (jf ra8 rn8 rc8) (jf na8 nn8 nc8) (jf ca8 cn8 cc8) (je jd (-1)) (ji false) (ji R.one));have ho:=qaa (Bl.other8 HO8.out hne (jf la8 R.T.length lc8) (je jd i8) (jf ra8 rn8 rc8) (jf na8 nn8 nc8) (jf ca8 cn8 cc8) (je jd (-1)) (ji false) (ji R.one));have hq:=qaa (RF.low8 HQ8.out HX8.out (jf la8 R.T.length lc8) (je jd i8) (jf ra8 rn8 rc8) (jf na8 nn8 nc8) (jf ca8 cn8 cc8) (je jd (-1)) (ji false) (ji R.one));have hb:=qaa (zbh HB8.out (qac _) (jf la8 R.T.length lc8) (je jd i8) (jf ra8 rn8 rc8) (jf na8 nn8 nc8) (jf ca8 cn8 cc8) (je jd (-1)) (ji false) (ji R.one));clear x0 x1 x2 x3 x4 x5 x6 x7 xf xl;go_wp2
   go_meet
   exact⟨rfl,⟨la8,lc8,i8,ra8,rn8,rc8,na8,nn8,nc8,ca8,cn8,cc8,-1,false⟩,hq.out,hx.out,ho.out,hb.out⟩
 case rest=>
 obtain⟨rfl,⟨la8,lc8,i8,ra8,rn8,rc8,na8,nn8,nc8,ca8,cn8,cc8,bad8,dp8⟩,hq,hx,ho,hb⟩:=hcut;have hbd:bad8=-1:=hq.choose_spec.1.2.1;have hdp:dp8=false:=hq.choose_spec.1.2.2.1;subst hbd hdp;dsimp only at hx;clear x0 x1 x2 x3 x4 x5 x6 x7 xf xl z0 z1 z2 z3 z4 z5 z6 z7 zf zl;obtain⟨⟨x0,x1,x2,x3,x4,x5,x6,x7⟩,xf,xl⟩:=zad hx;obtain⟨⟨z0,z1,z2,z3,z4,z5,z6,z7⟩,zf,zl⟩:=zad ho;have HX9:=qaa hx;have HO9:=qaa ho;have HQ9:=qaa hq;have HB9:=qaa hb;clear hx ho hq hb;rcases ho5 with h0|h0
 ·have e0:¬(0:Int)<opv:=U
  have HG:=qaa (hg2.1 h0);clear h0 hg2;go_wp2;have hS8:=zay HO9.out (jf la8 R.T.length lc8) (je jd i8) (jf ra8 rn8 rc8) (jf na8 nn8 nc8) (jf ca8 cn8 cc8) (je jd (-1)) (ji false) (ji R.one);clear x0 x1 x2 x3 x4 x5 x6 x7 xf xl z0 z1 z2 z3 z4 z5 z6 z7 zf zl;obtain⟨⟨c0,c1,c2,c3,c4,c5,c6,c7⟩,cf,-⟩:=zad hS8;refine bodyPost_ret (v:=.tuple #[.agg #[jf la8 R.T.length lc8,je jd i8,jf ra8 rn8 rc8,jf na8 nn8 nc8,jf ca8 cn8 cc8,je jd (-1),ji false,ji R.one],je jd (lastI (addN g (mkN sop [lastI g])))]) (by simp[results,qcn,go_sem,c0,c1,c2,c3,c4,c5,c6,c7]) rfl ?_;rw[HG.out];exact⟨la8,lc8,i8,ra8,rn8,rc8,na8,nn8,nc8,ca8,cn8,cc8,-1,false,rfl,zbh HB9.out U _ _ _ _ _ _ _ _,RF.low8 HQ9.out HO9.out _ _ _ _ _ _ _ _⟩
 ·have HG:=qaa (hg2.2 h0)
  clear hg2;have HA2:=qaa (show ∀(W:World) (B:Nat),Below wc.heap.size wc W->Bl W B 3 #[je jd (lastI (addN g (mkN sop [lastI g])))]->wc.heap.size<=B->Calls qab 152 #[.agg #[jf la8 R.T.length lc8,je jd i8,jf ra8 rn8 rc8,jf na8 nn8 nc8,jf ca8 cn8 cc8,je jd (-1),ji false,ji R.one],.agg #[je jd opv,jf (some ⟨B,0,none⟩) 1 1,je jd 0,je jg 0,je jg 0,je jg 0,je jg 0]] W (RRes R (lastI g2) (RF R rs us g2 qs w.heap.size) W) from by
   rw[HG.out];exact zfa HQ9.out (mkN opv [lastI (addN g (mkN sop [lastI g]))]) rfl HBASE.out HB9.out (by first|omega|(show(g.nodes++[_]).length<=_;rw[List.length_append,List.length_singleton];omega)))
  go_wp2_with (go_at_call 152;(refine(HA2.out _ _ ?_ ?_ ?_).mono ?_);(· repeat (first|exact qaf _ _|refine qak ?_|refine zac ?_ rfl _));(· repeat (first|(refine Bl.new' ?_;simp;done)|refine Bl.drew ?_|refine Bl.past ?_));(· simp);rintro e w10 ⟨la10,lc10,i10,ra10,rn10,rc10,na10,nn10,nc10,ca10,cn10,cc10,bad10,dp10,rfl,hb,hq⟩;have hb7:Below wc.heap.size wc w10:=Below.trans (by repeat (first|exact qaf _ _|refine qak ?_|refine zac ?_ rfl _)) (hb.mono (by simp<;>omega));have ho:=HO9.out.below hb7;have hbb:=HB9.out.trans (hb7.mono HB9.out.size);clear x0 x1 x2 x3 x4 x5 x6 x7 xf xl z0 z1 z2 z3 z4 z5 z6 z7 zf zl;obtain⟨⟨z0,z1,z2,z3,z4,z5,z6,z7⟩,zf,zl⟩:=zad ho;have HO10:=qaa ho;have HB10:=qaa hbb;have HQ10:=qaa hq;clear ho hbb hb hb7 hq)
  have hS8:=zay HO10.out (jf la10 R.T.length lc10) (je jd i10) (jf ra10 rn10 rc10) (jf na10 nn10 nc10) (jf ca10 cn10 cc10) (je jd bad10) (ji dp10) (ji R.one);clear z0 z1 z2 z3 z4 z5 z6 z7 zf zl;obtain⟨⟨c0,c1,c2,c3,c4,c5,c6,c7⟩,cf,-⟩:=zad hS8;refine bodyPost_ret (v:=.tuple #[.agg #[jf la10 R.T.length lc10,je jd i10,jf ra10 rn10 rc10,jf na10 nn10 nc10,jf ca10 cn10 cc10,je jd bad10,ji dp10,ji R.one],je jd (lastI g2)]) (by simp[results,qcn,go_sem,c0,c1,c2,c3,c4,c5,c6,c7]) rfl ?_;exact⟨la10,lc10,i10,ra10,rn10,rc10,na10,nn10,nc10,ca10,cn10,cc10,bad10,dp10,rfl,zbh HB10.out U _ _ _ _ _ _ _ _,RF.low8 HQ10.out HO10.out _ _ _ _ _ _ _ _⟩
end
end
