/- The reference: prefixed, PreA. -/
import Derived.Deep.Cut
import Derived.Test.YtmopdlbpkiaoeaaGreatDoorPqS
set_option maxRecDepth 100000
set_option maxHeartbeats 4000000
open Go.IntKind renaming i64->jd, u64->jg
open Go.Value renaming int->je, slice->jf, bool->ji, tuple->jk
namespace Go.Proofs.YtmopdlbpkiaoeaaGreatDoor
open Go.IntWalk renaming i64_in->qaq
open Go.Lib renaming hid->qaa
open Go.Proofs.Tryz renaming func133->qfi, ntmps133->qe8, prog->qab, results133->qcn
open Go.Proofs.YtmopdlbpkiaoeaaGreatDoor.Bl renaming new'->qa7, past->qbb
open Go.RowKit.Below renaming drew->qak, refl->qaf
open List renaming length_append->qad, length_singleton->qai
open Nat renaming le_refl->qac
section
open Go.RowKit
section
variable {R:RC} {rs:List (List Nat × Nat × Int)} {f:MF} {qs:List Value} {w:World} (la:Option Addr) (lc:Nat) (i:Int) (ra:Option Addr) (rn rc:Nat) (na:Option Addr) (nn nc:Nat) (ca:Option Addr) (cn cc:Nat) (d:Nat) (t:Tok) (tl TS:List Tok) (opv:Int)
theorem z0z (hp:PreK t opv)(c:List Tok)(dp:Bool)(hbase:R.base<=w.heap.size)(h:RSt R rs (t::tl) f qs ⟨la,lc,i,ra,rn,rc,na,nn,nc,ca,cn,cc,-1,false⟩ w)
  (hst:∀n:Nat,i=n->∃iv:Int,(0<opv->iv=(n:Int)+1)/\(opv=0->iv=n)/\RSt R rs TS f qs ⟨la,lc,iv,ra,rn,rc,na,nn,nc,ca,cn,cc,-1,false⟩ w)
  (hC:∀(x:SV) (W:World),Below w.heap.size w W->RSt R rs TS f qs x W->Calls qab 151 #[x.v R,je jd (d:Int)] W (RRes R 0 (RBad R rs c dp) W)) :
  Calls qab 133 #[.agg #[jf la R.T.length lc,je jd i,jf ra rn rc,jf na nn nc,jf ca cn cc,je jd (-1),ji false,ji R.one],je jd (d:Int)] w (RRes R 0 (RBad R rs c dp) w):=by
 obtain⟨h1,-,-,⟨n,hi,hn⟩,-⟩:=h;have hi:i=n:=hi;obtain⟨iv,hv1,hv2,hst2⟩:=hst n hi;have hnl:=(h1.tok hn).1;have hTl:=h1.2;have hKD:=fun(W:World) (hb:Below w.heap.size w W)=>za9 R ⟨la,lc,i,ra,rn,rc,na,nn,nc,ca,cn,cc,-1,false⟩ W n t tl (h1.below hb) hi hn
 unfold SV.v at hKD;dsimp only at hKD;subst hi;have v1:IntKind.i64.wrap ((n:Int)+1)=(n:Int)+1:=qaq _ U;have HP:=qaa fun(W:World) (hb:Below w.heap.size w W)=>(show Calls qab 151 #[.agg #[jf la R.T.length lc,je jd iv,jf ra rn rc,jf na nn nc,jf ca cn cc,je jd (-1),ji false,ji R.one],je jd (d:Int)] W (RRes R 0 (RBad R rs c dp) W) from hC ⟨la,lc,iv,ra,rn,rc,na,nn,nc,ca,cn,cc,-1,false⟩ W hb (hst2.below hb))
 obtain⟨op1,ho1,ho2,ho3,ho4,ho5⟩:=hp.two;obtain⟨kk,hkk⟩:∃y,kI t.kind=y:=⟨_,rfl⟩;rw[hkk] at hKD ho1 ho2 ho3 ho4;have HKD:=qaa hKD;have HBASE:=qaa hbase;clear h1 hn hnl hKD hst hst2 hC hbase hkk hp;go_enter qfi,qe8
 go_upto_region 2 with fail
 obtain⟨W0,hW0⟩:∃W0,(w.alloc (.cells #[jf la R.T.length lc,je jd (n:Int),jf ra rn rc,jf na nn nc,jf ca cn cc,je jd (-1),ji false,ji R.one] 167)).alloc (.cells zeroV 167)=W0:=⟨_,rfl⟩;have hb0:Below w.heap.size w W0:=by rw[<-hW0];exact zac (zac (qaf _ _) rfl _) rfl _
 have hX:Bl W0 w.heap.size 167 #[jf la R.T.length lc,je jd (n:Int),jf ra rn rc,jf na nn nc,jf ca cn cc,je jd (-1),ji false,ji R.one]:=by rw[<-hW0];repeat (first|(refine qa7 ?_;simp;done)|refine qbb ?_)
 have hO:Bl W0 (w.heap.size+1) 167 zeroV:=by rw[<-hW0];repeat (first|(refine qa7 ?_;simp;done)|refine qbb ?_)
 unfold zeroV at hW0;rw[hW0];obtain⟨⟨x0,x1,x2,x3,x4,x5,x6,x7⟩,xf,xl⟩:=zad hX;obtain⟨⟨z0,z1,z2,z3,z4,z5,z6,z7⟩,zf,zl⟩:=zad hO;have HX0:=qaa hX;have HO0:=qaa hO;have HB0:=qaa hb0;clear hX hO hb0 hW0;have hne:¬w.heap.size+1=w.heap.size:=U
 have hne':¬w.heap.size=w.heap.size+1:=U
 go_upto_if 11 with(go_at_call 105;(with_reducible refine(HKD.out _ HB0.out).mono ?_);rintro e w1 ⟨rfl,hb⟩;have hx:=HX0.out.below hb;have ho:=HO0.out.below hb;have hbb:=HB0.out.trans (hb.mono HB0.out.size);clear x0 x1 x2 x3 x4 x5 x6 x7 xf xl z0 z1 z2 z3 z4 z5 z6 z7 zf zl;obtain⟨⟨x0,x1,x2,x3,x4,x5,x6,x7⟩,xf,xl⟩:=zad hx;obtain⟨⟨z0,z1,z2,z3,z4,z5,z6,z7⟩,zf,zl⟩:=zad ho;have HX1:=qaa hx;have HO1:=qaa ho;have HB1:=qaa hbb;clear hx ho hbb hb)
 go_cut [6] (fun v wx=>v=je jd op1/\wx=w1)
 case first=>
  by_cases h4:kk=4
  ·have e4:(kk == 4)=true:=by rw[h4];rfl
   have o1:=ho1 h4;go_wp2
   go_meet
   exact⟨by rw[o1],rfl⟩
  ·have e4:(kk == 4)=false:=zae h4
   have o1:=ho2 h4;go_wp2
   go_meet
   exact⟨by rw[o1],rfl⟩
 case rest=>
 obtain⟨rfl,rfl⟩:=hcut
 go_upto_if 14 with(go_at_call 105;(with_reducible refine(HKD.out _ HB1.out).mono ?_);rintro e w2 ⟨rfl,hb⟩;have hx:=HX1.out.below hb;have ho:=HO1.out.below hb;have hbb:=HB1.out.trans (hb.mono HB1.out.size);clear x0 x1 x2 x3 x4 x5 x6 x7 xf xl z0 z1 z2 z3 z4 z5 z6 z7 zf zl;obtain⟨⟨x0,x1,x2,x3,x4,x5,x6,x7⟩,xf,xl⟩:=zad hx;obtain⟨⟨z0,z1,z2,z3,z4,z5,z6,z7⟩,zf,zl⟩:=zad ho;have HX2:=qaa hx;have HO2:=qaa ho;have HB2:=qaa hbb;clear hx ho hbb hb)
 go_cut [6] (fun v wx=>v=je jd opv/\wx=w2)
 case first=>
  by_cases h5:kk=5
  ·have e5:(kk == 5)=true:=by rw[h5];rfl
   have o1:=ho3 h5;go_wp2
   go_meet
   exact⟨by rw[o1],rfl⟩
  ·have e5:(kk == 5)=false:=zae h5
   have o1:=ho4 h5;go_wp2
   go_meet
   exact⟨by rw[o1],rfl⟩
 case rest=>
 obtain⟨rfl,rfl⟩:=hcut
 go_upto_if 16 with fail
 go_cut [] (fun wx=>Bl wx w.heap.size 167 #[jf la R.T.length lc,je jd iv,jf ra rn rc,jf na nn nc,jf ca cn cc,je jd (-1),ji false,ji R.one]/\Bl wx (w.heap.size+1) 167 zeroV/\Below w.heap.size w wx)
 case first=>
  rcases ho5 with h0|h0
  ·have e0:¬(0:Int)<opv:=U
   have HV:=qaa (hv2 h0);clear h0 hv1 hv2;go_wp2
   go_meet
   exact⟨by rw[HV.out];exact HX2.out,HO2.out,HB2.out⟩
  ·have HV:=qaa (hv1 h0)
   clear hv1 hv2;go_wp2
   go_meet
   exact⟨by rw[HV.out];exact Bl.put (i:=1) HX2.out (je jd ((n:Int)+1)),HO2.out.other (o:=1) hne (je jd ((n:Int)+1)),HB2.out.setCell (p:=⟨w.heap.size,1,none⟩) (qac _) (je jd ((n:Int)+1))⟩
 case rest=>
 obtain⟨hx,ho,hb⟩:=hcut;clear x0 x1 x2 x3 x4 x5 x6 x7 xf xl z0 z1 z2 z3 z4 z5 z6 z7 zf zl;obtain⟨⟨x0,x1,x2,x3,x4,x5,x6,x7⟩,xf,xl⟩:=zad hx;obtain⟨⟨z0,z1,z2,z3,z4,z5,z6,z7⟩,zf,zl⟩:=zad ho;have HX3:=qaa hx;have HO3:=qaa ho;have HB3:=qaa hb;clear hx ho hb HX0 HX1 HX2 HO0 HO1 HO2 HB0 HB1 HB2 hv1 hv2 ho1 ho2 ho3 ho4
 go_upto_region 9 with(go_at_call 151;(with_reducible refine(HP.out _ HB3.out).mono ?_);rintro e w4 ⟨la4,lc4,i4,ra4,rn4,rc4,na4,nn4,nc4,ca4,cn4,cc4,bad4,dp4,rfl,hb,hq⟩;obtain⟨m,hm,-⟩:=hq.2.2.1;have hm:bad4=(m:Int):=hm;subst hm;have hx:=HX3.out.below hb;have ho:=HO3.out.below hb;have hbb:=HB3.out.trans (hb.mono HB3.out.size);clear x0 x1 x2 x3 x4 x5 x6 x7 xf xl z0 z1 z2 z3 z4 z5 z6 z7 zf zl;obtain⟨⟨x0,x1,x2,x3,x4,x5,x6,x7⟩,xf,xl⟩:=zad hx;obtain⟨⟨z0,z1,z2,z3,z4,z5,z6,z7⟩,zf,zl⟩:=zad ho;have HX4:=qaa hx;have HO4:=qaa ho;have HB4:=qaa hbb;have HQ4:=qaa hq;clear hx ho hbb hb hq)
 have hx:=zay HX4.out (jf la4 R.T.length lc4) (je jd i4) (jf ra4 rn4 rc4) (jf na4 nn4 nc4) (jf ca4 cn4 cc4) (je jd (m:Int)) (ji dp4) (ji R.one);have ho:=Bl.other8 HO4.out hne (jf la4 R.T.length lc4) (je jd i4) (jf ra4 rn4 rc4) (jf na4 nn4 nc4) (jf ca4 cn4 cc4) (je jd (m:Int)) (ji dp4) (ji R.one);have hq:=RBad.low8 HQ4.out HX4.out (jf la4 R.T.length lc4) (je jd i4) (jf ra4 rn4 rc4) (jf na4 nn4 nc4) (jf ca4 cn4 cc4) (je jd (m:Int)) (ji dp4) (ji R.one);have hb:=zbh HB4.out (qac _) (jf la4 R.T.length lc4) (je jd i4) (jf ra4 rn4 rc4) (jf na4 nn4 nc4) (jf ca4 cn4 cc4) (je jd (m:Int)) (ji dp4) (ji R.one);obtain⟨W5,hW5⟩:∃W5,((((((((w4.setCell ⟨w.heap.size,0,none⟩ (jf la4 R.T.length lc4)).setCell ⟨w.heap.size,1,none⟩ (je jd i4)).setCell ⟨w.heap.size,2,none⟩ (jf ra4 rn4 rc4)).setCell ⟨w.heap.size,3,none⟩ (jf na4 nn4 nc4)).setCell ⟨w.heap.size,4,none⟩ (jf ca4 cn4 cc4)).setCell ⟨w.heap.size,5,none⟩ (je jd (m:Int))).setCell ⟨w.heap.size,6,none⟩ (ji dp4)).setCell ⟨w.heap.size,7,none⟩ (ji R.one))=W5:=⟨_,rfl⟩;rw[hW5] at hx ho hq hb ⊢;clear x0 x1 x2 x3 x4 x5 x6 x7 xf xl z0 z1 z2 z3 z4 z5 z6 z7 zf zl hW5;obtain⟨⟨x0,x1,x2,x3,x4,x5,x6,x7⟩,xf,xl⟩:=zad hx;obtain⟨⟨z0,z1,z2,z3,z4,z5,z6,z7⟩,zf,zl⟩:=zad ho;have HX5:=qaa hx;have HO5:=qaa ho;have HQ5:=qaa hq;have HB5:=qaa hb;clear hx ho hq hb HX4 HO4 HQ4 HB4;have kb:(0:Int)<=(m:Int):=U
 go_wp2;have hS8:=zay HO5.out (jf la4 R.T.length lc4) (je jd i4) (jf ra4 rn4 rc4) (jf na4 nn4 nc4) (jf ca4 cn4 cc4) (je jd m) (ji dp4) (ji R.one);clear x0 x1 x2 x3 x4 x5 x6 x7 xf xl z0 z1 z2 z3 z4 z5 z6 z7 zf zl;obtain⟨⟨c0,c1,c2,c3,c4,c5,c6,c7⟩,cf,-⟩:=zad hS8;refine bodyPost_ret (v:=jk #[.agg #[jf la4 R.T.length lc4,je jd i4,jf ra4 rn4 rc4,jf na4 nn4 nc4,jf ca4 cn4 cc4,je jd (m:Int),ji dp4,ji R.one],je jd 0]) (by simp[results,qcn,go_sem,c0,c1,c2,c3,c4,c5,c6,c7]) rfl ?_;exact⟨la4,lc4,i4,ra4,rn4,rc4,na4,nn4,nc4,ca4,cn4,cc4,m,dp4,rfl,zbh HB5.out U _ _ _ _ _ _ _ _,RBad.low8 HQ5.out HO5.out _ _ _ _ _ _ _ _⟩
theorem z42 (hp:PreK t opv)(u:Tok)(us:List Tok)(g g2:MF)(hg2:(opv=0->g2=g)/\(0<opv->g2=addN g (mkN opv [lastI g])))(hm:g.nodes.length+2<=100000000)(hu:u.kind<6∨u.kind=99)(hbase:R.base<=w.heap.size)(h:RSt R rs (t::tl) f qs ⟨la,lc,i,ra,rn,rc,na,nn,nc,ca,cn,cc,-1,false⟩ w)
  (hst:∀n:Nat,i=n->∃iv:Int,(0<opv->iv=(n:Int)+1)/\(opv=0->iv=n)/\RSt R rs TS f qs ⟨la,lc,iv,ra,rn,rc,na,nn,nc,ca,cn,cc,-1,false⟩ w)
  (hC:∀(x:SV) (W:World),Below w.heap.size w W->RSt R rs TS f qs x W->Calls qab 151 #[x.v R,je jd (d:Int)] W (RRes R (lastI g) (RF R rs (u::us) g qs W.heap.size) W)) :
  Calls qab 133 #[.agg #[jf la R.T.length lc,je jd i,jf ra rn rc,jf na nn nc,jf ca cn cc,je jd (-1),ji false,ji R.one],je jd (d:Int)] w (RRes R (lastI g2) (RF R rs (u::us) g2 qs w.heap.size) w):=by
 obtain⟨h1,-,-,⟨n,hi,hn⟩,-⟩:=h;have hi:i=n:=hi;obtain⟨iv,hv1,hv2,hst2⟩:=hst n hi;have hnl:=(h1.tok hn).1;have hTl:=h1.2;have hKD:=fun(W:World) (hb:Below w.heap.size w W)=>za9 R ⟨la,lc,i,ra,rn,rc,na,nn,nc,ca,cn,cc,-1,false⟩ W n t tl (h1.below hb) hi hn
 unfold SV.v at hKD;dsimp only at hKD;subst hi;have v1:IntKind.i64.wrap ((n:Int)+1)=(n:Int)+1:=qaq _ U;have HP:=qaa fun(W:World) (hb:Below w.heap.size w W)=>(show Calls qab 151 #[.agg #[jf la R.T.length lc,je jd iv,jf ra rn rc,jf na nn nc,jf ca cn cc,je jd (-1),ji false,ji R.one],je jd (d:Int)] W (RRes R (lastI g) (RF R rs (u::us) g qs w.heap.size) W) from(hC ⟨la,lc,iv,ra,rn,rc,na,nn,nc,ca,cn,cc,-1,false⟩ W hb (hst2.below hb)).mono fun e w' k=>k.mono fun x W2 q=>q.lo hb.size)
 obtain⟨op1,ho1,ho2,ho3,ho4,ho5⟩:=hp.two;obtain⟨kk,hkk⟩:∃y,kI t.kind=y:=⟨_,rfl⟩;rw[hkk] at hKD ho1 ho2 ho3 ho4;have HKD:=qaa hKD;have HBASE:=qaa hbase;clear h1 hn hnl hKD hst hst2 hC hbase hkk hp;go_enter qfi,qe8
 go_upto_region 2 with fail
 obtain⟨W0,hW0⟩:∃W0,(w.alloc (.cells #[jf la R.T.length lc,je jd (n:Int),jf ra rn rc,jf na nn nc,jf ca cn cc,je jd (-1),ji false,ji R.one] 167)).alloc (.cells zeroV 167)=W0:=⟨_,rfl⟩;have hb0:Below w.heap.size w W0:=by rw[<-hW0];exact zac (zac (qaf _ _) rfl _) rfl _
 have hX:Bl W0 w.heap.size 167 #[jf la R.T.length lc,je jd (n:Int),jf ra rn rc,jf na nn nc,jf ca cn cc,je jd (-1),ji false,ji R.one]:=by rw[<-hW0];repeat (first|(refine qa7 ?_;simp;done)|refine qbb ?_)
 have hO:Bl W0 (w.heap.size+1) 167 zeroV:=by rw[<-hW0];repeat (first|(refine qa7 ?_;simp;done)|refine qbb ?_)
 unfold zeroV at hW0;rw[hW0];obtain⟨⟨x0,x1,x2,x3,x4,x5,x6,x7⟩,xf,xl⟩:=zad hX;obtain⟨⟨z0,z1,z2,z3,z4,z5,z6,z7⟩,zf,zl⟩:=zad hO;have HX0:=qaa hX;have HO0:=qaa hO;have HB0:=qaa hb0;clear hX hO hb0 hW0;have hne:¬w.heap.size+1=w.heap.size:=U
 have hne':¬w.heap.size=w.heap.size+1:=U
 go_upto_if 11 with(go_at_call 105;(with_reducible refine(HKD.out _ HB0.out).mono ?_);rintro e w1 ⟨rfl,hb⟩;have hx:=HX0.out.below hb;have ho:=HO0.out.below hb;have hbb:=HB0.out.trans (hb.mono HB0.out.size);clear x0 x1 x2 x3 x4 x5 x6 x7 xf xl z0 z1 z2 z3 z4 z5 z6 z7 zf zl;obtain⟨⟨x0,x1,x2,x3,x4,x5,x6,x7⟩,xf,xl⟩:=zad hx;obtain⟨⟨z0,z1,z2,z3,z4,z5,z6,z7⟩,zf,zl⟩:=zad ho;have HX1:=qaa hx;have HO1:=qaa ho;have HB1:=qaa hbb;clear hx ho hbb hb)
 go_cut [6] (fun v wx=>v=je jd op1/\wx=w1)
 case first=>
  by_cases h4:kk=4
  ·have e4:(kk == 4)=true:=by rw[h4];rfl
   have o1:=ho1 h4;go_wp2
   go_meet
   exact⟨by rw[o1],rfl⟩
  ·have e4:(kk == 4)=false:=zae h4
   have o1:=ho2 h4;go_wp2
   go_meet
   exact⟨by rw[o1],rfl⟩
 case rest=>
 obtain⟨rfl,rfl⟩:=hcut
 go_upto_if 14 with(go_at_call 105;(with_reducible refine(HKD.out _ HB1.out).mono ?_);rintro e w2 ⟨rfl,hb⟩;have hx:=HX1.out.below hb;have ho:=HO1.out.below hb;have hbb:=HB1.out.trans (hb.mono HB1.out.size);clear x0 x1 x2 x3 x4 x5 x6 x7 xf xl z0 z1 z2 z3 z4 z5 z6 z7 zf zl;obtain⟨⟨x0,x1,x2,x3,x4,x5,x6,x7⟩,xf,xl⟩:=zad hx;obtain⟨⟨z0,z1,z2,z3,z4,z5,z6,z7⟩,zf,zl⟩:=zad ho;have HX2:=qaa hx;have HO2:=qaa ho;have HB2:=qaa hbb;clear hx ho hbb hb)
 go_cut [6] (fun v wx=>v=je jd opv/\wx=w2)
 case first=>
  by_cases h5:kk=5
  ·have e5:(kk == 5)=true:=by rw[h5];rfl
   have o1:=ho3 h5;go_wp2
   go_meet
   exact⟨by rw[o1],rfl⟩
  ·have e5:(kk == 5)=false:=zae h5
   have o1:=ho4 h5;go_wp2
   go_meet
   exact⟨by rw[o1],rfl⟩
 case rest=>
 obtain⟨rfl,rfl⟩:=hcut
 go_upto_if 16 with fail
 go_cut [] (fun wx=>Bl wx w.heap.size 167 #[jf la R.T.length lc,je jd iv,jf ra rn rc,jf na nn nc,jf ca cn cc,je jd (-1),ji false,ji R.one]/\Bl wx (w.heap.size+1) 167 zeroV/\Below w.heap.size w wx)
 case first=>
  rcases ho5 with h0|h0
  ·have e0:¬(0:Int)<opv:=U
   have HV:=qaa (hv2 h0);clear h0 hv1 hv2;go_wp2
   go_meet
   exact⟨by rw[HV.out];exact HX2.out,HO2.out,HB2.out⟩
  ·have HV:=qaa (hv1 h0)
   clear hv1 hv2;go_wp2
   go_meet
   exact⟨by rw[HV.out];exact Bl.put (i:=1) HX2.out (je jd ((n:Int)+1)),HO2.out.other (o:=1) hne (je jd ((n:Int)+1)),HB2.out.setCell (p:=⟨w.heap.size,1,none⟩) (qac _) (je jd ((n:Int)+1))⟩
 case rest=>
 obtain⟨hx,ho,hb⟩:=hcut;clear x0 x1 x2 x3 x4 x5 x6 x7 xf xl z0 z1 z2 z3 z4 z5 z6 z7 zf zl;obtain⟨⟨x0,x1,x2,x3,x4,x5,x6,x7⟩,xf,xl⟩:=zad hx;obtain⟨⟨z0,z1,z2,z3,z4,z5,z6,z7⟩,zf,zl⟩:=zad ho;have HX3:=qaa hx;have HO3:=qaa ho;have HB3:=qaa hb;clear hx ho hb HX0 HX1 HX2 HO0 HO1 HO2 HB0 HB1 HB2 hv1 hv2 ho1 ho2 ho3 ho4
 go_upto_region 9 with(go_at_call 151;(with_reducible refine(HP.out _ HB3.out).mono ?_);rintro e w4 ⟨la4,lc4,i4,ra4,rn4,rc4,na4,nn4,nc4,ca4,cn4,cc4,bad4,dp4,rfl,hb,hq⟩;have hbd:bad4=-1:=hq.choose_spec.1.2.1;have hdp:dp4=false:=hq.choose_spec.1.2.2.1;subst hbd hdp;have hx:=HX3.out.below hb;have ho:=HO3.out.below hb;have hbb:=HB3.out.trans (hb.mono HB3.out.size);clear x0 x1 x2 x3 x4 x5 x6 x7 xf xl z0 z1 z2 z3 z4 z5 z6 z7 zf zl;obtain⟨⟨x0,x1,x2,x3,x4,x5,x6,x7⟩,xf,xl⟩:=zad hx;obtain⟨⟨z0,z1,z2,z3,z4,z5,z6,z7⟩,zf,zl⟩:=zad ho;have HX4:=qaa hx;have HO4:=qaa ho;have HB4:=qaa hbb;have HQ4:=qaa hq;clear hx ho hbb hb hq)
 have hx:=zay HX4.out (jf la4 R.T.length lc4) (je jd i4) (jf ra4 rn4 rc4) (jf na4 nn4 nc4) (jf ca4 cn4 cc4) (je jd (-1)) (ji false) (ji R.one);have ho:=Bl.other8 HO4.out hne (jf la4 R.T.length lc4) (je jd i4) (jf ra4 rn4 rc4) (jf na4 nn4 nc4) (jf ca4 cn4 cc4) (je jd (-1)) (ji false) (ji R.one);have hq:=RF.low8 HQ4.out HX4.out (jf la4 R.T.length lc4) (je jd i4) (jf ra4 rn4 rc4) (jf na4 nn4 nc4) (jf ca4 cn4 cc4) (je jd (-1)) (ji false) (ji R.one);have hb:=zbh HB4.out (qac _) (jf la4 R.T.length lc4) (je jd i4) (jf ra4 rn4 rc4) (jf na4 nn4 nc4) (jf ca4 cn4 cc4) (je jd (-1)) (ji false) (ji R.one);obtain⟨W5,hW5⟩:∃W5,((((((((w4.setCell ⟨w.heap.size,0,none⟩ (jf la4 R.T.length lc4)).setCell ⟨w.heap.size,1,none⟩ (je jd i4)).setCell ⟨w.heap.size,2,none⟩ (jf ra4 rn4 rc4)).setCell ⟨w.heap.size,3,none⟩ (jf na4 nn4 nc4)).setCell ⟨w.heap.size,4,none⟩ (jf ca4 cn4 cc4)).setCell ⟨w.heap.size,5,none⟩ (je jd (-1))).setCell ⟨w.heap.size,6,none⟩ (ji false)).setCell ⟨w.heap.size,7,none⟩ (ji R.one))=W5:=⟨_,rfl⟩;rw[hW5] at hx ho hq hb ⊢;clear x0 x1 x2 x3 x4 x5 x6 x7 xf xl z0 z1 z2 z3 z4 z5 z6 z7 zf zl hW5;obtain⟨⟨x0,x1,x2,x3,x4,x5,x6,x7⟩,xf,xl⟩:=zad hx;obtain⟨⟨z0,z1,z2,z3,z4,z5,z6,z7⟩,zf,zl⟩:=zad ho;have HX5:=qaa hx;have HO5:=qaa ho;have HQ5:=qaa hq;have HB5:=qaa hb;clear hx ho hq hb HX4 HO4 HQ4 HB4;obtain⟨tq,⟨q1,-,-,⟨m,hmi,hmT⟩,-,-⟩,-⟩:=HQ5.out;have hmi:i4=(m:Int):=hmi;subst hmi;have hK3:=fun(W:World) (hb:Below W5.heap.size W5 W)=>za9 R ⟨la4,lc4,(m:Int),ra4,rn4,rc4,na4,nn4,nc4,ca4,cn4,cc4,-1,false⟩ W m u us (q1.below hb) rfl hmT
 unfold SV.v at hK3;dsimp only at hK3;have hml:=(q1.tok hmT).1;have v3:IntKind.i64.wrap ((m:Int)+1)=(m:Int)+1:=qaq _ U;have e6:¬(6:Int)<=kI u.kind:=by unfold kI;split<;>omega
 obtain⟨ku,hku⟩:∃y,kI u.kind=y:=⟨_,rfl⟩;rw[hku] at hK3 e6;have HKU:=qaa hK3;have HBR:=qaa (qaf W5.heap.size W5);have kneg:¬((0:Int) <= -1):=ja
 clear q1 hmT hK3 hml hu hku
 go_upto_region 15 with(go_at_call 105;(with_reducible refine(HKU.out _ HBR.out).mono ?_);rintro e w6 ⟨rfl,hb⟩;have hx:=HX5.out.below hb;have ho:=HO5.out.below hb;have hq:=HQ5.out.below hb;have hbb:=HB5.out.trans (hb.mono HB5.out.size);clear x0 x1 x2 x3 x4 x5 x6 x7 xf xl z0 z1 z2 z3 z4 z5 z6 z7 zf zl;obtain⟨⟨x0,x1,x2,x3,x4,x5,x6,x7⟩,xf,xl⟩:=zad hx;obtain⟨⟨z0,z1,z2,z3,z4,z5,z6,z7⟩,zf,zl⟩:=zad ho;have HX6:=qaa hx;have HO6:=qaa ho;have HQ6:=qaa hq;have HB6:=qaa hbb;clear hx ho hq hbb hb)
 rcases ho5 with h0|h0
 ·have e0:¬(0:Int)<opv:=U
  have HG:=qaa (hg2.1 h0);clear h0 hg2;go_wp2;have hS8:=zay HO6.out (jf la4 R.T.length lc4) (je jd (m:Int)) (jf ra4 rn4 rc4) (jf na4 nn4 nc4) (jf ca4 cn4 cc4) (je jd (-1)) (ji false) (ji R.one);clear x0 x1 x2 x3 x4 x5 x6 x7 xf xl z0 z1 z2 z3 z4 z5 z6 z7 zf zl;obtain⟨⟨c0,c1,c2,c3,c4,c5,c6,c7⟩,cf,-⟩:=zad hS8;refine bodyPost_ret (v:=jk #[.agg #[jf la4 R.T.length lc4,je jd (m:Int),jf ra4 rn4 rc4,jf na4 nn4 nc4,jf ca4 cn4 cc4,je jd (-1),ji false,ji R.one],je jd (lastI g)]) (by simp[results,qcn,go_sem,c0,c1,c2,c3,c4,c5,c6,c7]) rfl ?_;rw[HG.out];exact⟨la4,lc4,(m:Int),ra4,rn4,rc4,na4,nn4,nc4,ca4,cn4,cc4,-1,false,rfl,zbh HB6.out U _ _ _ _ _ _ _ _,RF.low8 HQ6.out HO6.out _ _ _ _ _ _ _ _⟩
 ·have HG:=qaa (hg2.2 h0)
  clear hg2;have HA2:=qaa (show ∀(W:World) (B:Nat),Below w6.heap.size w6 W->Bl W B 3 #[je jd (lastI g)]->w6.heap.size<=B->Calls qab 152 #[.agg #[jf la4 R.T.length lc4,je jd (m:Int),jf ra4 rn4 rc4,jf na4 nn4 nc4,jf ca4 cn4 cc4,je jd (-1),ji false,ji R.one],.agg #[je jd opv,jf (some ⟨B,0,none⟩) 1 1,je jd 0,je jg 0,je jg 0,je jg 0,je jg 0]] W (RRes R (lastI g2) (RF R rs (u::us) g2 qs w.heap.size) W) from by
   rw[HG.out];exact zfa HQ6.out (mkN opv [lastI g]) rfl HBASE.out HB6.out (by first|omega|(show(g.nodes++[_]).length<=_;rw[qad,qai];omega)))
  go_wp2_with (go_at_call 152;(refine(HA2.out _ _ ?_ ?_ ?_).mono ?_);(· repeat (first|exact qaf _ _|refine qak ?_|refine zac ?_ rfl _));(· repeat (first|(refine qa7 ?_;simp;done)|refine Bl.drew ?_|refine qbb ?_));(· simp);rintro e w10 ⟨la10,lc10,i10,ra10,rn10,rc10,na10,nn10,nc10,ca10,cn10,cc10,bad10,dp10,rfl,hb,hq⟩;have hb7:Below w6.heap.size w6 w10:=Below.trans (by repeat (first|exact qaf _ _|refine qak ?_|refine zac ?_ rfl _)) (hb.mono (by simp<;>omega));have ho:=HO6.out.below hb7;have hbb:=HB6.out.trans (hb7.mono HB6.out.size);clear x0 x1 x2 x3 x4 x5 x6 x7 xf xl z0 z1 z2 z3 z4 z5 z6 z7 zf zl;obtain⟨⟨z0,z1,z2,z3,z4,z5,z6,z7⟩,zf,zl⟩:=zad ho;have HO10:=qaa ho;have HB10:=qaa hbb;have HQ10:=qaa hq;clear ho hbb hb hb7 hq)
  have hS8:=zay HO10.out (jf la10 R.T.length lc10) (je jd i10) (jf ra10 rn10 rc10) (jf na10 nn10 nc10) (jf ca10 cn10 cc10) (je jd bad10) (ji dp10) (ji R.one);clear z0 z1 z2 z3 z4 z5 z6 z7 zf zl;obtain⟨⟨c0,c1,c2,c3,c4,c5,c6,c7⟩,cf,-⟩:=zad hS8;refine bodyPost_ret (v:=jk #[.agg #[jf la10 R.T.length lc10,je jd i10,jf ra10 rn10 rc10,jf na10 nn10 nc10,jf ca10 cn10 cc10,je jd bad10,ji dp10,ji R.one],je jd (lastI g2)]) (by simp[results,qcn,go_sem,c0,c1,c2,c3,c4,c5,c6,c7]) rfl ?_;exact⟨la10,lc10,i10,ra10,rn10,rc10,na10,nn10,nc10,ca10,cn10,cc10,bad10,dp10,rfl,zbh HB10.out U _ _ _ _ _ _ _ _,RF.low8 HQ10.out HO10.out _ _ _ _ _ _ _ _⟩
theorem z43 (hp:PreK t opv)(u:Tok)(us:List Tok)(g g2:MF)(hg2:(opv=0->g2=g)/\(0<opv->g2=addN g (mkN opv [lastI g])))(hm:g.nodes.length+2<=100000000)(hu:8<u.kind/\u.kind≠99)(hbase:R.base<=w.heap.size)(h:RSt R rs (t::tl) f qs ⟨la,lc,i,ra,rn,rc,na,nn,nc,ca,cn,cc,-1,false⟩ w)
  (hst:∀n:Nat,i=n->∃iv:Int,(0<opv->iv=(n:Int)+1)/\(opv=0->iv=n)/\RSt R rs TS f qs ⟨la,lc,iv,ra,rn,rc,na,nn,nc,ca,cn,cc,-1,false⟩ w)
  (hC:∀(x:SV) (W:World),Below w.heap.size w W->RSt R rs TS f qs x W->Calls qab 151 #[x.v R,je jd (d:Int)] W (RRes R (lastI g) (RF R rs (u::us) g qs W.heap.size) W)) :
  Calls qab 133 #[.agg #[jf la R.T.length lc,je jd i,jf ra rn rc,jf na nn nc,jf ca cn cc,je jd (-1),ji false,ji R.one],je jd (d:Int)] w (RRes R (lastI g2) (RF R rs (u::us) g2 qs w.heap.size) w):=by
 obtain⟨h1,-,-,⟨n,hi,hn⟩,-⟩:=h;have hi:i=n:=hi;obtain⟨iv,hv1,hv2,hst2⟩:=hst n hi;have hnl:=(h1.tok hn).1;have hTl:=h1.2;have hKD:=fun(W:World) (hb:Below w.heap.size w W)=>za9 R ⟨la,lc,i,ra,rn,rc,na,nn,nc,ca,cn,cc,-1,false⟩ W n t tl (h1.below hb) hi hn
 unfold SV.v at hKD;dsimp only at hKD;subst hi;have v1:IntKind.i64.wrap ((n:Int)+1)=(n:Int)+1:=qaq _ U;have HP:=qaa fun(W:World) (hb:Below w.heap.size w W)=>(show Calls qab 151 #[.agg #[jf la R.T.length lc,je jd iv,jf ra rn rc,jf na nn nc,jf ca cn cc,je jd (-1),ji false,ji R.one],je jd (d:Int)] W (RRes R (lastI g) (RF R rs (u::us) g qs w.heap.size) W) from(hC ⟨la,lc,iv,ra,rn,rc,na,nn,nc,ca,cn,cc,-1,false⟩ W hb (hst2.below hb)).mono fun e w' k=>k.mono fun x W2 q=>q.lo hb.size)
 obtain⟨op1,ho1,ho2,ho3,ho4,ho5⟩:=hp.two;obtain⟨kk,hkk⟩:∃y,kI t.kind=y:=⟨_,rfl⟩;rw[hkk] at hKD ho1 ho2 ho3 ho4;have HKD:=qaa hKD;have HBASE:=qaa hbase;clear h1 hn hnl hKD hst hst2 hC hbase hkk hp;go_enter qfi,qe8
 go_upto_region 2 with fail
 obtain⟨W0,hW0⟩:∃W0,(w.alloc (.cells #[jf la R.T.length lc,je jd (n:Int),jf ra rn rc,jf na nn nc,jf ca cn cc,je jd (-1),ji false,ji R.one] 167)).alloc (.cells zeroV 167)=W0:=⟨_,rfl⟩;have hb0:Below w.heap.size w W0:=by rw[<-hW0];exact zac (zac (qaf _ _) rfl _) rfl _
 have hX:Bl W0 w.heap.size 167 #[jf la R.T.length lc,je jd (n:Int),jf ra rn rc,jf na nn nc,jf ca cn cc,je jd (-1),ji false,ji R.one]:=by rw[<-hW0];repeat (first|(refine qa7 ?_;simp;done)|refine qbb ?_)
 have hO:Bl W0 (w.heap.size+1) 167 zeroV:=by rw[<-hW0];repeat (first|(refine qa7 ?_;simp;done)|refine qbb ?_)
 unfold zeroV at hW0;rw[hW0];obtain⟨⟨x0,x1,x2,x3,x4,x5,x6,x7⟩,xf,xl⟩:=zad hX;obtain⟨⟨z0,z1,z2,z3,z4,z5,z6,z7⟩,zf,zl⟩:=zad hO;have HX0:=qaa hX;have HO0:=qaa hO;have HB0:=qaa hb0;clear hX hO hb0 hW0;have hne:¬w.heap.size+1=w.heap.size:=U
 have hne':¬w.heap.size=w.heap.size+1:=U
 go_upto_if 11 with(go_at_call 105;(with_reducible refine(HKD.out _ HB0.out).mono ?_);rintro e w1 ⟨rfl,hb⟩;have hx:=HX0.out.below hb;have ho:=HO0.out.below hb;have hbb:=HB0.out.trans (hb.mono HB0.out.size);clear x0 x1 x2 x3 x4 x5 x6 x7 xf xl z0 z1 z2 z3 z4 z5 z6 z7 zf zl;obtain⟨⟨x0,x1,x2,x3,x4,x5,x6,x7⟩,xf,xl⟩:=zad hx;obtain⟨⟨z0,z1,z2,z3,z4,z5,z6,z7⟩,zf,zl⟩:=zad ho;have HX1:=qaa hx;have HO1:=qaa ho;have HB1:=qaa hbb;clear hx ho hbb hb)
 go_cut [6] (fun v wx=>v=je jd op1/\wx=w1)
 case first=>
  by_cases h4:kk=4
  ·have e4:(kk == 4)=true:=by rw[h4];rfl
   have o1:=ho1 h4;go_wp2
   go_meet
   exact⟨by rw[o1],rfl⟩
  ·have e4:(kk == 4)=false:=zae h4
   have o1:=ho2 h4;go_wp2
   go_meet
   exact⟨by rw[o1],rfl⟩
 case rest=>
 obtain⟨rfl,rfl⟩:=hcut
 go_upto_if 14 with(go_at_call 105;(with_reducible refine(HKD.out _ HB1.out).mono ?_);rintro e w2 ⟨rfl,hb⟩;have hx:=HX1.out.below hb;have ho:=HO1.out.below hb;have hbb:=HB1.out.trans (hb.mono HB1.out.size);clear x0 x1 x2 x3 x4 x5 x6 x7 xf xl z0 z1 z2 z3 z4 z5 z6 z7 zf zl;obtain⟨⟨x0,x1,x2,x3,x4,x5,x6,x7⟩,xf,xl⟩:=zad hx;obtain⟨⟨z0,z1,z2,z3,z4,z5,z6,z7⟩,zf,zl⟩:=zad ho;have HX2:=qaa hx;have HO2:=qaa ho;have HB2:=qaa hbb;clear hx ho hbb hb)
 go_cut [6] (fun v wx=>v=je jd opv/\wx=w2)
 case first=>
  by_cases h5:kk=5
  ·have e5:(kk == 5)=true:=by rw[h5];rfl
   have o1:=ho3 h5;go_wp2
   go_meet
   exact⟨by rw[o1],rfl⟩
  ·have e5:(kk == 5)=false:=zae h5
   have o1:=ho4 h5;go_wp2
   go_meet
   exact⟨by rw[o1],rfl⟩
 case rest=>
 obtain⟨rfl,rfl⟩:=hcut
 go_upto_if 16 with fail
 go_cut [] (fun wx=>Bl wx w.heap.size 167 #[jf la R.T.length lc,je jd iv,jf ra rn rc,jf na nn nc,jf ca cn cc,je jd (-1),ji false,ji R.one]/\Bl wx (w.heap.size+1) 167 zeroV/\Below w.heap.size w wx)
 case first=>
  rcases ho5 with h0|h0
  ·have e0:¬(0:Int)<opv:=U
   have HV:=qaa (hv2 h0);clear h0 hv1 hv2;go_wp2
   go_meet
   exact⟨by rw[HV.out];exact HX2.out,HO2.out,HB2.out⟩
  ·have HV:=qaa (hv1 h0)
   clear hv1 hv2;go_wp2
   go_meet
   exact⟨by rw[HV.out];exact Bl.put (i:=1) HX2.out (je jd ((n:Int)+1)),HO2.out.other (o:=1) hne (je jd ((n:Int)+1)),HB2.out.setCell (p:=⟨w.heap.size,1,none⟩) (qac _) (je jd ((n:Int)+1))⟩
 case rest=>
 obtain⟨hx,ho,hb⟩:=hcut;clear x0 x1 x2 x3 x4 x5 x6 x7 xf xl z0 z1 z2 z3 z4 z5 z6 z7 zf zl;obtain⟨⟨x0,x1,x2,x3,x4,x5,x6,x7⟩,xf,xl⟩:=zad hx;obtain⟨⟨z0,z1,z2,z3,z4,z5,z6,z7⟩,zf,zl⟩:=zad ho;have HX3:=qaa hx;have HO3:=qaa ho;have HB3:=qaa hb;clear hx ho hb HX0 HX1 HX2 HO0 HO1 HO2 HB0 HB1 HB2 hv1 hv2 ho1 ho2 ho3 ho4
 go_upto_region 9 with(go_at_call 151;(with_reducible refine(HP.out _ HB3.out).mono ?_);rintro e w4 ⟨la4,lc4,i4,ra4,rn4,rc4,na4,nn4,nc4,ca4,cn4,cc4,bad4,dp4,rfl,hb,hq⟩;have hbd:bad4=-1:=hq.choose_spec.1.2.1;have hdp:dp4=false:=hq.choose_spec.1.2.2.1;subst hbd hdp;have hx:=HX3.out.below hb;have ho:=HO3.out.below hb;have hbb:=HB3.out.trans (hb.mono HB3.out.size);clear x0 x1 x2 x3 x4 x5 x6 x7 xf xl z0 z1 z2 z3 z4 z5 z6 z7 zf zl;obtain⟨⟨x0,x1,x2,x3,x4,x5,x6,x7⟩,xf,xl⟩:=zad hx;obtain⟨⟨z0,z1,z2,z3,z4,z5,z6,z7⟩,zf,zl⟩:=zad ho;have HX4:=qaa hx;have HO4:=qaa ho;have HB4:=qaa hbb;have HQ4:=qaa hq;clear hx ho hbb hb hq)
 have hx:=zay HX4.out (jf la4 R.T.length lc4) (je jd i4) (jf ra4 rn4 rc4) (jf na4 nn4 nc4) (jf ca4 cn4 cc4) (je jd (-1)) (ji false) (ji R.one);have ho:=Bl.other8 HO4.out hne (jf la4 R.T.length lc4) (je jd i4) (jf ra4 rn4 rc4) (jf na4 nn4 nc4) (jf ca4 cn4 cc4) (je jd (-1)) (ji false) (ji R.one);have hq:=RF.low8 HQ4.out HX4.out (jf la4 R.T.length lc4) (je jd i4) (jf ra4 rn4 rc4) (jf na4 nn4 nc4) (jf ca4 cn4 cc4) (je jd (-1)) (ji false) (ji R.one);have hb:=zbh HB4.out (qac _) (jf la4 R.T.length lc4) (je jd i4) (jf ra4 rn4 rc4) (jf na4 nn4 nc4) (jf ca4 cn4 cc4) (je jd (-1)) (ji false) (ji R.one);obtain⟨W5,hW5⟩:∃W5,((((((((w4.setCell ⟨w.heap.size,0,none⟩ (jf la4 R.T.length lc4)).setCell ⟨w.heap.size,1,none⟩ (je jd i4)).setCell ⟨w.heap.size,2,none⟩ (jf ra4 rn4 rc4)).setCell ⟨w.heap.size,3,none⟩ (jf na4 nn4 nc4)).setCell ⟨w.heap.size,4,none⟩ (jf ca4 cn4 cc4)).setCell ⟨w.heap.size,5,none⟩ (je jd (-1))).setCell ⟨w.heap.size,6,none⟩ (ji false)).setCell ⟨w.heap.size,7,none⟩ (ji R.one))=W5:=⟨_,rfl⟩;rw[hW5] at hx ho hq hb ⊢;clear x0 x1 x2 x3 x4 x5 x6 x7 xf xl z0 z1 z2 z3 z4 z5 z6 z7 zf zl hW5;obtain⟨⟨x0,x1,x2,x3,x4,x5,x6,x7⟩,xf,xl⟩:=zad hx;obtain⟨⟨z0,z1,z2,z3,z4,z5,z6,z7⟩,zf,zl⟩:=zad ho;have HX5:=qaa hx;have HO5:=qaa ho;have HQ5:=qaa hq;have HB5:=qaa hb;clear hx ho hq hb HX4 HO4 HQ4 HB4;obtain⟨tq,⟨q1,-,-,⟨m,hmi,hmT⟩,-,-⟩,-⟩:=HQ5.out;have hmi:i4=(m:Int):=hmi;subst hmi;have hK3:=fun(W:World) (hb:Below W5.heap.size W5 W)=>za9 R ⟨la4,lc4,(m:Int),ra4,rn4,rc4,na4,nn4,nc4,ca4,cn4,cc4,-1,false⟩ W m u us (q1.below hb) rfl hmT
 unfold SV.v at hK3;dsimp only at hK3;have hml:=(q1.tok hmT).1;have v3:IntKind.i64.wrap ((m:Int)+1)=(m:Int)+1:=qaq _ U;have e6:(6:Int)<=kI u.kind:=by unfold kI;rw[if_neg hu.2];omega
 have e8:¬kI u.kind<=8:=by unfold kI;rw[if_neg hu.2];omega
 obtain⟨ku,hku⟩:∃y,kI u.kind=y:=⟨_,rfl⟩;rw[hku] at hK3 e6 e8;have HKU:=qaa hK3;have HBR:=qaa (qaf W5.heap.size W5);have kneg:¬((0:Int) <= -1):=ja
 clear q1 hmT hK3 hml hu hku
 go_upto_region 15 with(go_at_call 105;(with_reducible refine(HKU.out _ HBR.out).mono ?_);rintro e w6 ⟨rfl,hb⟩;have hx:=HX5.out.below hb;have ho:=HO5.out.below hb;have hq:=HQ5.out.below hb;have hbb:=HB5.out.trans (hb.mono HB5.out.size);clear x0 x1 x2 x3 x4 x5 x6 x7 xf xl z0 z1 z2 z3 z4 z5 z6 z7 zf zl;obtain⟨⟨x0,x1,x2,x3,x4,x5,x6,x7⟩,xf,xl⟩:=zad hx;obtain⟨⟨z0,z1,z2,z3,z4,z5,z6,z7⟩,zf,zl⟩:=zad ho;have HX6:=qaa hx;have HO6:=qaa ho;have HQ6:=qaa hq;have HB6:=qaa hbb;clear hx ho hq hbb hb)
 rcases ho5 with h0|h0
 ·have e0:¬(0:Int)<opv:=U
  have HG:=qaa (hg2.1 h0);clear h0 hg2;go_wp2;have hS8:=zay HO6.out (jf la4 R.T.length lc4) (je jd (m:Int)) (jf ra4 rn4 rc4) (jf na4 nn4 nc4) (jf ca4 cn4 cc4) (je jd (-1)) (ji false) (ji R.one);clear x0 x1 x2 x3 x4 x5 x6 x7 xf xl z0 z1 z2 z3 z4 z5 z6 z7 zf zl;obtain⟨⟨c0,c1,c2,c3,c4,c5,c6,c7⟩,cf,-⟩:=zad hS8;refine bodyPost_ret (v:=jk #[.agg #[jf la4 R.T.length lc4,je jd (m:Int),jf ra4 rn4 rc4,jf na4 nn4 nc4,jf ca4 cn4 cc4,je jd (-1),ji false,ji R.one],je jd (lastI g)]) (by simp[results,qcn,go_sem,c0,c1,c2,c3,c4,c5,c6,c7]) rfl ?_;rw[HG.out];exact⟨la4,lc4,(m:Int),ra4,rn4,rc4,na4,nn4,nc4,ca4,cn4,cc4,-1,false,rfl,zbh HB6.out U _ _ _ _ _ _ _ _,RF.low8 HQ6.out HO6.out _ _ _ _ _ _ _ _⟩
 ·have HG:=qaa (hg2.2 h0)
  clear hg2;have HA2:=qaa (show ∀(W:World) (B:Nat),Below w6.heap.size w6 W->Bl W B 3 #[je jd (lastI g)]->w6.heap.size<=B->Calls qab 152 #[.agg #[jf la4 R.T.length lc4,je jd (m:Int),jf ra4 rn4 rc4,jf na4 nn4 nc4,jf ca4 cn4 cc4,je jd (-1),ji false,ji R.one],.agg #[je jd opv,jf (some ⟨B,0,none⟩) 1 1,je jd 0,je jg 0,je jg 0,je jg 0,je jg 0]] W (RRes R (lastI g2) (RF R rs (u::us) g2 qs w.heap.size) W) from by
   rw[HG.out];exact zfa HQ6.out (mkN opv [lastI g]) rfl HBASE.out HB6.out (by first|omega|(show(g.nodes++[_]).length<=_;rw[qad,qai];omega)))
  go_wp2_with (go_at_call 152;(refine(HA2.out _ _ ?_ ?_ ?_).mono ?_);(· repeat (first|exact qaf _ _|refine qak ?_|refine zac ?_ rfl _));(· repeat (first|(refine qa7 ?_;simp;done)|refine Bl.drew ?_|refine qbb ?_));(· simp);rintro e w10 ⟨la10,lc10,i10,ra10,rn10,rc10,na10,nn10,nc10,ca10,cn10,cc10,bad10,dp10,rfl,hb,hq⟩;have hb7:Below w6.heap.size w6 w10:=Below.trans (by repeat (first|exact qaf _ _|refine qak ?_|refine zac ?_ rfl _)) (hb.mono (by simp<;>omega));have ho:=HO6.out.below hb7;have hbb:=HB6.out.trans (hb7.mono HB6.out.size);clear x0 x1 x2 x3 x4 x5 x6 x7 xf xl z0 z1 z2 z3 z4 z5 z6 z7 zf zl;obtain⟨⟨z0,z1,z2,z3,z4,z5,z6,z7⟩,zf,zl⟩:=zad ho;have HO10:=qaa ho;have HB10:=qaa hbb;have HQ10:=qaa hq;clear ho hbb hb hb7 hq)
  have hS8:=zay HO10.out (jf la10 R.T.length lc10) (je jd i10) (jf ra10 rn10 rc10) (jf na10 nn10 nc10) (jf ca10 cn10 cc10) (je jd bad10) (ji dp10) (ji R.one);clear z0 z1 z2 z3 z4 z5 z6 z7 zf zl;obtain⟨⟨c0,c1,c2,c3,c4,c5,c6,c7⟩,cf,-⟩:=zad hS8;refine bodyPost_ret (v:=jk #[.agg #[jf la10 R.T.length lc10,je jd i10,jf ra10 rn10 rc10,jf na10 nn10 nc10,jf ca10 cn10 cc10,je jd bad10,ji dp10,ji R.one],je jd (lastI g2)]) (by simp[results,qcn,go_sem,c0,c1,c2,c3,c4,c5,c6,c7]) rfl ?_;exact⟨la10,lc10,i10,ra10,rn10,rc10,na10,nn10,nc10,ca10,cn10,cc10,bad10,dp10,rfl,zbh HB10.out U _ _ _ _ _ _ _ _,RF.low8 HQ10.out HO10.out _ _ _ _ _ _ _ _⟩
end
end
