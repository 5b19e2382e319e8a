/- The reference: primary at a name. -/
import Derived.Deep.Cut
import Derived.Test.YtmopdlbpkiaoeaaGreatDoorPqS
set_option maxRecDepth 100000
set_option maxHeartbeats 4000000
open Go.IntKind renaming i64->jd, u64->jg
open Go.Value renaming int->je, slice->jf, string->jh, bool->ji, pointer->jj, tuple->jk
namespace Go.Proofs.YtmopdlbpkiaoeaaGreatDoor
open Go.IntWalk renaming i64_in->qaq
open Go.Lib renaming hid->qaa
open Go.Proofs.Tryz renaming func151->qdd, ntmps151->qc3, prog->qab, results151->qcm
open Go.Proofs.YtmopdlbpkiaoeaaGreatDoor.Bl renaming new'->qa7, past->qbb
open Go.RowKit.Below renaming refl->qaf
open Go.World renaming grownBy_alloc->qdu
open List renaming cons_ne_nil->qdx, tail_drop->qbw
open Nat renaming le_refl->qac, le_trans->qal
section
open Go.RowKit
def nameK (X K:Nat)(v0:Value)(s:ByteArray)(a:Nat):Nat->TK
 |0=>.row0
 |1=>.eq (jj (some ⟨X,2,none⟩))
 |2=>.eq (jj (some ⟨X,4,none⟩))
 |3=>.eq v0
 |4=>.rowN
 |5=>.eq (jj (some ⟨K,2,none⟩))
 |6=>.eq (jh s)
 |7=>.eq (jj (some ⟨K,1,none⟩))
 |8=>.eq (je jd (a:Int))
 |9=>.eq (.agg #[jh s,je jd (a:Int)])
 |10=>.row1
 |11=>.rowS
 |12=>.eq (jj (some ⟨X,2,none⟩))
 |13=>.eq (jj (some ⟨X,4,none⟩))
 |14=>.any
 |_=>.any
def nameT (X K:Nat)(v0:Value)(s:ByteArray)(a lo n:Nat)(cs elem:List Value)(k:Nat)(v:Value)(W:World):Prop:=tkT lo 176 2 n cs elem (nameK X K v0 s a k) v W
section
variable {R:RC} {rs:List (List Nat × Nat × Int)} {f:MF} {qs:List Value} {w:World} (la:Option Addr) (lc:Nat) (i:Int) (ra:Option Addr) (rn rc:Nat) (na:Option Addr) (nn nc:Nat) (ca:Option Addr) (cn cc:Nat) (d:Nat) (a:Nat) (tx:List Nat) (r:List (Nat × Nat)) (tl:List Tok)
theorem zh4 (u:Tok)(us:List Tok)(hu:u.kind=2)(hE:Endy (⟨1,a,tx,r⟩::u::us))(h:RSt R rs (⟨1,a,tx,r⟩::u::us) f qs ⟨la,lc,i,ra,rn,rc,na,nn,nc,ca,cn,cc,-1,false⟩ w) :
  Calls qab 151 #[.agg #[jf la R.T.length lc,je jd i,jf ra rn rc,jf na nn nc,jf ca cn cc,je jd (-1),ji false,ji R.one],je jd (d:Int)] w (RRes R 0 (RBad R rs (u::us) false) w):=by
 have h0:=h;have hrr0:=h.rrow;obtain⟨h1,-,-,⟨n,hi,hn⟩,-⟩:=h;obtain⟨hlt,b,hla,⟨t0,t1,t2,t3,t4,t5,t6⟩,hbl⟩:=h1.tok hn;have hla:la=some ⟨b,0,none⟩:=hla;have hi:i=n:=hi;subst hla hi;have hTl:=h1.2;have k1:(n:Int)<(R.T.length:Int):=U
 have v1:IntKind.i64.wrap ((n:Int)+1)=(n:Int)+1:=qaq _ U;have htl:=hE.tail (show(1:Nat)≠0 by decide) (show(1:Nat)≠99 by decide);have hn1:R.T.drop (n+1)=u::us:=by rw[<-qbw,hn];rfl
 have hfix:RFix R ⟨some ⟨b,0,none⟩,lc,(n:Int)+1,ra,rn,rc,na,nn,nc,ca,cn,cc,-1,false⟩ w:=⟨h1.1,h1.2⟩;have hrr:DRow R rs ⟨some ⟨b,0,none⟩,lc,(n:Int)+1,ra,rn,rc,na,nn,nc,ca,cn,cc,-1,false⟩ w:=⟨hrr0.1,hrr0.2⟩;have hKD:=fun(W:World) (hb:Below w.heap.size w W)=>(show Calls qab 105 #[.agg #[jf (some ⟨b,0,none⟩) R.T.length lc,je jd ((n:Int)+1),jf ra rn rc,jf na nn nc,jf ca cn cc,je jd (-1),ji false,ji R.one]] W fun e w'=>e=.returned (je jd (kI u.kind))/\Below W.heap.size W w' from za9 R ⟨some ⟨b,0,none⟩,lc,(n:Int)+1,ra,rn,rc,na,nn,nc,ca,cn,cc,-1,false⟩ W (n+1) u us (hfix.below hb) (by show(n:Int)+1=_;omega) hn1)
 have hW:=fun(W:World) (hb:Below w.heap.size w W)=>zdu (some ⟨b,0,none⟩) lc ((n:Int)+1) ra rn rc na nn nc ca cn cc (-1) false (n+1) U hn1 (qdx _ _) (hfix.below hb) (hrr.below hb)
 have ek:kI u.kind=2:=by rw[hu];rfl
 rw[ek] at hKD;have HKD:=qaa hKD;have HW:=qaa hW;have e0:kI 1=1:=rfl;dsimp only at t0 t1 t2 t3 t4 t5 t6;rw[e0] at t0;obtain⟨s,hs⟩:∃s,strOf tx=s:=⟨_,rfl⟩;rw[hs] at t2;clear h1 h0 htl hn hn1 hfix hrr hrr0 hKD hW ek hu hE hs e0;go_enter qdd,qc3
 go_upto_region 5 with fail
 obtain⟨W0,hW0⟩:∃W0,((w.alloc (.cells #[jf (some ⟨b,0,none⟩) R.T.length lc,je jd ((n:Int)+1),jf ra rn rc,jf na nn nc,jf ca cn cc,je jd (-1),ji false,ji R.one] 167)).alloc (.cells zeroV 167)).alloc (.cells #[je jd 1,je jd (a:Int),jh s,je jg (setW (inRs r) 0),je jg (setW (inRs r) 1),je jg (setW (inRs r) 2),je jg (setW (inRs r) 3)] 169)=W0:=⟨_,rfl⟩;have hb0:Below w.heap.size w W0:=by rw[<-hW0];exact zac (zac (zac (qaf _ _) rfl _) rfl _) rfl _
 have hX:Bl W0 w.heap.size 167 #[jf (some ⟨b,0,none⟩) R.T.length lc,je jd ((n:Int)+1),jf ra rn rc,jf na nn nc,jf ca cn cc,je jd (-1),ji false,ji R.one]:=by rw[<-hW0];repeat (first|(refine qa7 ?_;simp;done)|refine qbb ?_)
 have hO:Bl W0 (w.heap.size+1) 167 zeroV:=by rw[<-hW0];repeat (first|(refine qa7 ?_;simp;done)|refine qbb ?_)
 have hK:Bl W0 (w.heap.size+2) 169 #[je jd 1,je jd (a:Int),jh s,je jg (setW (inRs r) 0),je jg (setW (inRs r) 1),je jg (setW (inRs r) 2),je jg (setW (inRs r) 3)]:=by rw[<-hW0];repeat (first|(refine qa7 ?_;simp;done)|refine qbb ?_)
 unfold zeroV at hW0;rw[hW0];obtain⟨⟨x0,x1,x2,x3,x4,x5,x6,x7⟩,xf,xl⟩:=zad hX;obtain⟨⟨z0,z1,z2,z3,z4,z5,z6,z7⟩,zf,zl⟩:=zad hO;have HX0:=qaa hX;have HO0:=qaa hO;have HK0:=qaa hK;have HB0:=qaa hb0;clear hX hO hK hb0 hW0 t0 t1 t2 t3 t4 t5 t6
 go_wp2_with (first
  |(go_at_call 105;(with_reducible refine(HKD.out _ HB0.out).mono ?_);rintro e w1 ⟨rfl,hb⟩;have hx:=HX0.out.below hb;have ho:=HO0.out.below hb;have hkk:=HK0.out.below hb;have hbb:=HB0.out.trans (hb.mono HB0.out.size);clear x0 x1 x2 x3 x4 x5 x6 x7 xf z0 z1 z2 z3 z4 z5 z6 z7 zf xl zl;obtain⟨⟨x0,x1,x2,x3,x4,x5,x6,x7⟩,xf,xl⟩:=zad hx;obtain⟨⟨z0,z1,z2,z3,z4,z5,z6,z7⟩,zf,zl⟩:=zad ho;have HX1:=qaa hx;have HO1:=qaa ho;have HK1:=qaa hkk;have HB1:=qaa hbb;clear hx ho hkk hbb hb)
  |(go_at_call 106;(with_reducible refine(HW.out _ HB1.out).mono ?_);rintro e w5 ⟨la5,lc5,i5,ra5,rn5,rc5,na5,nn5,nc5,ca5,cn5,cc5,bad5,dp5,rfl,hb5,hq5⟩;have ho5:=HO1.out.below hb5;have hbb5:=HB1.out.trans (hb5.mono HB1.out.size);clear x0 x1 x2 x3 x4 x5 x6 x7 xf z0 z1 z2 z3 z4 z5 z6 z7 zf;obtain⟨⟨o0,o1,o2,o3,o4,o5,o6,o7⟩,of,ol⟩:=zad ho5;have HO5:=qaa ho5;have HB5:=qaa hbb5;have HQ5:=qaa hq5;clear ho5 hbb5 hb5 hq5))
 clear o0 o1 o2 o3 o4 o5 o6 o7 of;obtain⟨⟨c0,c1,c2,c3,c4,c5,c6,c7⟩,cf,-⟩:=zad (zay HO5.out (jf la5 R.T.length lc5) (je jd i5) (jf ra5 rn5 rc5) (jf na5 nn5 nc5) (jf ca5 cn5 cc5) (je jd bad5) (ji dp5) (ji R.one));refine bodyPost_ret (v:=jk #[.agg #[jf la5 R.T.length lc5,je jd i5,jf ra5 rn5 rc5,jf na5 nn5 nc5,jf ca5 cn5 cc5,je jd bad5,ji dp5,ji R.one],je jd 0]) (by simp[results,qcm,go_sem,c0,c1,c2,c3,c4,c5,c6,c7]) rfl ?_;exact⟨la5,lc5,i5,ra5,rn5,rc5,na5,nn5,nc5,ca5,cn5,cc5,bad5,dp5,rfl,zbh HB5.out U _ _ _ _ _ _ _ _,RBad.low8 HQ5.out HO5.out _ _ _ _ _ _ _ _⟩
theorem zj4 (u:Tok)(us:List Tok)(hu:u.kind=99)(hE:Endy (⟨1,a,tx,r⟩::u::us))(h:RSt R rs (⟨1,a,tx,r⟩::u::us) f qs ⟨la,lc,i,ra,rn,rc,na,nn,nc,ca,cn,cc,-1,false⟩ w) :
  Calls qab 151 #[.agg #[jf la R.T.length lc,je jd i,jf ra rn rc,jf na nn nc,jf ca cn cc,je jd (-1),ji false,ji R.one],je jd (d:Int)] w (RRes R 0 (RBad R rs (u::us) false) w):=by
 have h0:=h;have hrr0:=h.rrow;obtain⟨h1,-,-,⟨n,hi,hn⟩,-⟩:=h;obtain⟨hlt,b,hla,⟨t0,t1,t2,t3,t4,t5,t6⟩,hbl⟩:=h1.tok hn;have hla:la=some ⟨b,0,none⟩:=hla;have hi:i=n:=hi;subst hla hi;have hTl:=h1.2;have k1:(n:Int)<(R.T.length:Int):=U
 have v1:IntKind.i64.wrap ((n:Int)+1)=(n:Int)+1:=qaq _ U;have htl:=hE.tail (show(1:Nat)≠0 by decide) (show(1:Nat)≠99 by decide);have hn1:R.T.drop (n+1)=u::us:=by rw[<-qbw,hn];rfl
 have hfix:RFix R ⟨some ⟨b,0,none⟩,lc,(n:Int)+1,ra,rn,rc,na,nn,nc,ca,cn,cc,-1,false⟩ w:=⟨h1.1,h1.2⟩;have hrr:DRow R rs ⟨some ⟨b,0,none⟩,lc,(n:Int)+1,ra,rn,rc,na,nn,nc,ca,cn,cc,-1,false⟩ w:=⟨hrr0.1,hrr0.2⟩;have hKD:=fun(W:World) (hb:Below w.heap.size w W)=>(show Calls qab 105 #[.agg #[jf (some ⟨b,0,none⟩) R.T.length lc,je jd ((n:Int)+1),jf ra rn rc,jf na nn nc,jf ca cn cc,je jd (-1),ji false,ji R.one]] W fun e w'=>e=.returned (je jd (kI u.kind))/\Below W.heap.size W w' from za9 R ⟨some ⟨b,0,none⟩,lc,(n:Int)+1,ra,rn,rc,na,nn,nc,ca,cn,cc,-1,false⟩ W (n+1) u us (hfix.below hb) (by show(n:Int)+1=_;omega) hn1)
 have hW:=fun(W:World) (hb:Below w.heap.size w W)=>zdu (some ⟨b,0,none⟩) lc ((n:Int)+1) ra rn rc na nn nc ca cn cc (-1) false (n+1) U hn1 (qdx _ _) (hfix.below hb) (hrr.below hb)
 have ek:kI u.kind=-1:=by rw[hu];rfl
 rw[ek] at hKD;have HKD:=qaa hKD;have HW:=qaa hW;have e0:kI 1=1:=rfl;dsimp only at t0 t1 t2 t3 t4 t5 t6;rw[e0] at t0;obtain⟨s,hs⟩:∃s,strOf tx=s:=⟨_,rfl⟩;rw[hs] at t2;clear h1 h0 htl hn hn1 hfix hrr hrr0 hKD hW ek hu hE hs e0;go_enter qdd,qc3
 go_upto_region 5 with fail
 obtain⟨W0,hW0⟩:∃W0,((w.alloc (.cells #[jf (some ⟨b,0,none⟩) R.T.length lc,je jd ((n:Int)+1),jf ra rn rc,jf na nn nc,jf ca cn cc,je jd (-1),ji false,ji R.one] 167)).alloc (.cells zeroV 167)).alloc (.cells #[je jd 1,je jd (a:Int),jh s,je jg (setW (inRs r) 0),je jg (setW (inRs r) 1),je jg (setW (inRs r) 2),je jg (setW (inRs r) 3)] 169)=W0:=⟨_,rfl⟩;have hb0:Below w.heap.size w W0:=by rw[<-hW0];exact zac (zac (zac (qaf _ _) rfl _) rfl _) rfl _
 have hX:Bl W0 w.heap.size 167 #[jf (some ⟨b,0,none⟩) R.T.length lc,je jd ((n:Int)+1),jf ra rn rc,jf na nn nc,jf ca cn cc,je jd (-1),ji false,ji R.one]:=by rw[<-hW0];repeat (first|(refine qa7 ?_;simp;done)|refine qbb ?_)
 have hO:Bl W0 (w.heap.size+1) 167 zeroV:=by rw[<-hW0];repeat (first|(refine qa7 ?_;simp;done)|refine qbb ?_)
 have hK:Bl W0 (w.heap.size+2) 169 #[je jd 1,je jd (a:Int),jh s,je jg (setW (inRs r) 0),je jg (setW (inRs r) 1),je jg (setW (inRs r) 2),je jg (setW (inRs r) 3)]:=by rw[<-hW0];repeat (first|(refine qa7 ?_;simp;done)|refine qbb ?_)
 unfold zeroV at hW0;rw[hW0];obtain⟨⟨x0,x1,x2,x3,x4,x5,x6,x7⟩,xf,xl⟩:=zad hX;obtain⟨⟨z0,z1,z2,z3,z4,z5,z6,z7⟩,zf,zl⟩:=zad hO;have HX0:=qaa hX;have HO0:=qaa hO;have HK0:=qaa hK;have HB0:=qaa hb0;clear hX hO hK hb0 hW0 t0 t1 t2 t3 t4 t5 t6
 go_wp2_with (first
  |(go_at_call 105;(with_reducible refine(HKD.out _ HB1.out).mono ?_);rintro e w2 ⟨rfl,hb⟩;have hx:=HX1.out.below hb;have ho:=HO1.out.below hb;have hkk:=HK1.out.below hb;have hbb:=HB1.out.trans (hb.mono HB1.out.size);clear x0 x1 x2 x3 x4 x5 x6 x7 xf z0 z1 z2 z3 z4 z5 z6 z7 zf xl zl;obtain⟨⟨x0,x1,x2,x3,x4,x5,x6,x7⟩,xf,xl⟩:=zad hx;obtain⟨⟨z0,z1,z2,z3,z4,z5,z6,z7⟩,zf,zl⟩:=zad ho;have HX2:=qaa hx;have HO2:=qaa ho;have HK2:=qaa hkk;have HB2:=qaa hbb;clear hx ho hkk hbb hb)
  |(go_at_call 105;(with_reducible refine(HKD.out _ HB0.out).mono ?_);rintro e w1 ⟨rfl,hb⟩;have hx:=HX0.out.below hb;have ho:=HO0.out.below hb;have hkk:=HK0.out.below hb;have hbb:=HB0.out.trans (hb.mono HB0.out.size);clear x0 x1 x2 x3 x4 x5 x6 x7 xf z0 z1 z2 z3 z4 z5 z6 z7 zf xl zl;obtain⟨⟨x0,x1,x2,x3,x4,x5,x6,x7⟩,xf,xl⟩:=zad hx;obtain⟨⟨z0,z1,z2,z3,z4,z5,z6,z7⟩,zf,zl⟩:=zad ho;have HX1:=qaa hx;have HO1:=qaa ho;have HK1:=qaa hkk;have HB1:=qaa hbb;clear hx ho hkk hbb hb)
  |(go_at_call 106;(with_reducible refine(HW.out _ HB2.out).mono ?_);rintro e w5 ⟨la5,lc5,i5,ra5,rn5,rc5,na5,nn5,nc5,ca5,cn5,cc5,bad5,dp5,rfl,hb5,hq5⟩;have ho5:=HO2.out.below hb5;have hbb5:=HB2.out.trans (hb5.mono HB2.out.size);clear x0 x1 x2 x3 x4 x5 x6 x7 xf z0 z1 z2 z3 z4 z5 z6 z7 zf;obtain⟨⟨o0,o1,o2,o3,o4,o5,o6,o7⟩,of,ol⟩:=zad ho5;have HO5:=qaa ho5;have HB5:=qaa hbb5;have HQ5:=qaa hq5;clear ho5 hbb5 hb5 hq5))
 clear o0 o1 o2 o3 o4 o5 o6 o7 of;obtain⟨⟨c0,c1,c2,c3,c4,c5,c6,c7⟩,cf,-⟩:=zad (zay HO5.out (jf la5 R.T.length lc5) (je jd i5) (jf ra5 rn5 rc5) (jf na5 nn5 nc5) (jf ca5 cn5 cc5) (je jd bad5) (ji dp5) (ji R.one));refine bodyPost_ret (v:=jk #[.agg #[jf la5 R.T.length lc5,je jd i5,jf ra5 rn5 rc5,jf na5 nn5 nc5,jf ca5 cn5 cc5,je jd bad5,ji dp5,ji R.one],je jd 0]) (by simp[results,qcm,go_sem,c0,c1,c2,c3,c4,c5,c6,c7]) rfl ?_;exact⟨la5,lc5,i5,ra5,rn5,rc5,na5,nn5,nc5,ca5,cn5,cc5,bad5,dp5,rfl,zbh HB5.out U _ _ _ _ _ _ _ _,RBad.low8 HQ5.out HO5.out _ _ _ _ _ _ _ _⟩
theorem ztt (u:Tok)(us:List Tok)(hu:u.kind≠2/\u.kind≠99)(hE:Endy (⟨1,a,tx,r⟩::u::us))(hm:f.nodes.length<=100000000)(hcl:f.calls.length<=100000000)(hbase:R.base<=w.heap.size)(h:RSt R rs (⟨1,a,tx,r⟩::u::us) f qs ⟨la,lc,i,ra,rn,rc,na,nn,nc,ca,cn,cc,-1,false⟩ w) :
  Calls qab 151 #[.agg #[jf la R.T.length lc,je jd i,jf ra rn rc,jf na nn nc,jf ca cn cc,je jd (-1),ji false,ji R.one],je jd (d:Int)] w (RRes R (lastI (callF f ⟨1,a,tx,r⟩)) (RF R rs (u::us) (callF f ⟨1,a,tx,r⟩) qs w.heap.size) w):=by
 obtain rfl:cn=f.calls.length:=h.2.2.2.2.2.2.2.1;have h0:=h;have hrr0:=h.rrow;obtain⟨h1,-,-,⟨n,hi,hn⟩,-⟩:=h;obtain⟨hlt,b,hla,⟨t0,t1,t2,t3,t4,t5,t6⟩,hbl⟩:=h1.tok hn;have hla:la=some ⟨b,0,none⟩:=hla;have hi:i=n:=hi;subst hla hi;have hTl:=h1.2;have k1:(n:Int)<(R.T.length:Int):=U
 have v1:IntKind.i64.wrap ((n:Int)+1)=(n:Int)+1:=qaq _ U;have htl:=hE.tail (show(1:Nat)≠0 by decide) (show(1:Nat)≠99 by decide);have hn1:R.T.drop (n+1)=u::us:=by rw[<-qbw,hn];rfl
 have hfix:RFix R ⟨some ⟨b,0,none⟩,lc,(n:Int)+1,ra,rn,rc,na,nn,nc,ca,f.calls.length,cc,-1,false⟩ w:=⟨h1.1,h1.2⟩;have hrr:DRow R rs ⟨some ⟨b,0,none⟩,lc,(n:Int)+1,ra,rn,rc,na,nn,nc,ca,f.calls.length,cc,-1,false⟩ w:=⟨hrr0.1,hrr0.2⟩;have hKD:=fun(W:World) (hb:Below w.heap.size w W)=>(show Calls qab 105 #[.agg #[jf (some ⟨b,0,none⟩) R.T.length lc,je jd ((n:Int)+1),jf ra rn rc,jf na nn nc,jf ca f.calls.length cc,je jd (-1),ji false,ji R.one]] W fun e w'=>e=.returned (je jd (kI u.kind))/\Below W.heap.size W w' from za9 R ⟨some ⟨b,0,none⟩,lc,(n:Int)+1,ra,rn,rc,na,nn,nc,ca,f.calls.length,cc,-1,false⟩ W (n+1) u us (hfix.below hb) (by show(n:Int)+1=_;omega) hn1)
 have hst:RSt R rs (u::us) f qs ⟨some ⟨b,0,none⟩,lc,(n:Int)+1,ra,rn,rc,na,nn,nc,ca,f.calls.length,cc,-1,false⟩ w:=by
  obtain⟨h1,h2,h3,-,-,h6⟩:=h0;exact⟨h1,h2,h3,⟨n+1,by show(n:Int)+1=_;omega,hn1⟩,htl.ne,h6⟩
 have e2:(kI u.kind == 2)=false:=zae (kI_ne hu.1);have e3:(kI u.kind == -1)=false:=zae (by unfold kI;rw[if_neg hu.2];omega);obtain⟨kk,hkk⟩:∃y,kI u.kind=y:=⟨_,rfl⟩;rw[hkk] at hKD e2 e3;have HKD:=qaa hKD;have HST:=qaa hst;have HBASE:=qaa hbase;obtain⟨ie,hie,hze0,hze1,hze2⟩:=info_parts z0b;have e0:kI 1=1:=rfl;dsimp only at t0 t1 t2 t3 t4 t5 t6;rw[e0] at t0;obtain⟨s,hs⟩:∃s,strOf tx=s:=⟨_,rfl⟩;rw[hs] at t2;have HS:=qaa hs;clear h1 h0 htl hn hn1 hfix hrr hrr0 hKD hu hE hs hst hkk hbase e0;go_enter qdd,qc3
 go_upto_region 5 with fail
 obtain⟨W0,hW0⟩:∃W0,((w.alloc (.cells #[jf (some ⟨b,0,none⟩) R.T.length lc,je jd ((n:Int)+1),jf ra rn rc,jf na nn nc,jf ca f.calls.length cc,je jd (-1),ji false,ji R.one] 167)).alloc (.cells zeroV 167)).alloc (.cells #[je jd 1,je jd (a:Int),jh s,je jg (setW (inRs r) 0),je jg (setW (inRs r) 1),je jg (setW (inRs r) 2),je jg (setW (inRs r) 3)] 169)=W0:=⟨_,rfl⟩;have hb0:Below w.heap.size w W0:=by rw[<-hW0];exact zac (zac (zac (qaf _ _) rfl _) rfl _) rfl _
 have hX:Bl W0 w.heap.size 167 #[jf (some ⟨b,0,none⟩) R.T.length lc,je jd ((n:Int)+1),jf ra rn rc,jf na nn nc,jf ca f.calls.length cc,je jd (-1),ji false,ji R.one]:=by rw[<-hW0];repeat (first|(refine qa7 ?_;simp;done)|refine qbb ?_)
 have hO:Bl W0 (w.heap.size+1) 167 zeroV:=by rw[<-hW0];repeat (first|(refine qa7 ?_;simp;done)|refine qbb ?_)
 have hK:Bl W0 (w.heap.size+2) 169 #[je jd 1,je jd (a:Int),jh s,je jg (setW (inRs r) 0),je jg (setW (inRs r) 1),je jg (setW (inRs r) 2),je jg (setW (inRs r) 3)]:=by rw[<-hW0];repeat (first|(refine qa7 ?_;simp;done)|refine qbb ?_)
 unfold zeroV at hW0;rw[hW0];obtain⟨⟨x0,x1,x2,x3,x4,x5,x6,x7⟩,xf,xl⟩:=zad hX;obtain⟨⟨z0,z1,z2,z3,z4,z5,z6,z7⟩,zf,zl⟩:=zad hO;have HX0:=qaa hX;have HO0:=qaa hO;have HK0:=qaa hK;have HB0:=qaa hb0;clear hX hO hK hb0 hW0 t0 t1 t2 t3 t4 t5 t6
 go_upto_region 7 with(first
  |(go_at_call 105;(with_reducible refine(HKD.out _ HB1.out).mono ?_);rintro e w2 ⟨rfl,hb⟩;have hx:=HX1.out.below hb;have ho:=HO1.out.below hb;have hkk:=HK1.out.below hb;have hbb:=HB1.out.trans (hb.mono HB1.out.size);clear x0 x1 x2 x3 x4 x5 x6 x7 xf z0 z1 z2 z3 z4 z5 z6 z7 zf xl zl;obtain⟨⟨x0,x1,x2,x3,x4,x5,x6,x7⟩,xf,xl⟩:=zad hx;obtain⟨⟨z0,z1,z2,z3,z4,z5,z6,z7⟩,zf,zl⟩:=zad ho;have HX2:=qaa hx;have HO2:=qaa ho;have HK2:=qaa hkk;have HB2:=qaa hbb;clear hx ho hkk hbb hb)
  |(go_at_call 105;(with_reducible refine(HKD.out _ HB0.out).mono ?_);rintro e w1 ⟨rfl,hb⟩;have hx:=HX0.out.below hb;have ho:=HO0.out.below hb;have hkk:=HK0.out.below hb;have hbb:=HB0.out.trans (hb.mono HB0.out.size);clear x0 x1 x2 x3 x4 x5 x6 x7 xf z0 z1 z2 z3 z4 z5 z6 z7 zf xl zl;obtain⟨⟨x0,x1,x2,x3,x4,x5,x6,x7⟩,xf,xl⟩:=zad hx;obtain⟨⟨z0,z1,z2,z3,z4,z5,z6,z7⟩,zf,zl⟩:=zad ho;have HX1:=qaa hx;have HO1:=qaa ho;have HK1:=qaa hkk;have HB1:=qaa hbb;clear hx ho hkk hbb hb))
 have hst4:=HST.out.below HB2.out;have hO4:=hst4.2.2.2.2.2.2.2.2.2.1;have HO:=qaa hO4;have HNE:=qaa (zaq hO4 HX2.out ja);have hln:=hO4.1;have hX:=HX2.out;have hO0:=HO2.out;have HK4:=HK2;have hb2:=HB2.out;clear x0 x1 x2 x3 x4 x5 x6 x7 xf z0 z1 z2 z3 z4 z5 z6 z7 zf zl HX0 HX1 HO0 HO1 HK0 HK1 HB0 HB1;obtain⟨lo,hlo⟩:∃lo,w2.heap.size=lo:=⟨_,rfl⟩;have HLO:=qaa hlo;have hX3:w.heap.size<lo:=by rw[<-hlo];exact hX.lt
 have hX0:w.heap.size<=w.heap.size:=qac _;have hKX:w.heap.size+2≠w.heap.size:=U
 have hn0:w.heap.size<=lo:=U
 obtain⟨cs,hcs⟩:∃cs,zcw f.calls=cs:=⟨_,rfl⟩;have hc1:∀u ∈ cs,u.oneCell'=true:=by rw[<-hcs];exact ztg _
 rw[hcs] at hln HO;obtain⟨sn,hsn⟩:∃sn,f.calls.length=sn:=⟨_,rfl⟩;rw[hsn] at hX HO HNE hln hcl;obtain⟨sa,rfl⟩:∃sa,sa=ca:=⟨_,rfl⟩;obtain⟨sc,rfl⟩:∃sc,sc=cc:=⟨_,rfl⟩;have HCS:=qaa hcs;have HSN:=qaa hsn;have HX:=qaa hX;obtain⟨st,hst⟩:∃st:Value->Array Value,st=fun v=>#[jf (some ⟨b,0,none⟩) R.T.length lc,je jd ((n:Int)+1),jf ra rn rc,jf na nn nc,v,je jd (-1),ji false,ji R.one]:=⟨_,rfl⟩
 obtain⟨elem,hel⟩:∃l:List Value,l=[jh s,je jd (a:Int)]:=⟨_,rfl⟩;have hell:elem.length=2:=by rw[hel];rfl
 have hBk:∀W W',Below lo W W'->Fr lo w.heap.size w2 W->Fr lo w.heap.size w2 W':=fun W W' hb h=>h.below hb
 obtain⟨v0,hv0⟩:∃v0:Value,v0=jf sa sn sc:=⟨_,rfl⟩;obtain⟨K,hK⟩:∃K,K=w.heap.size+2:=⟨_,rfl⟩;subst hv0;refine ze0 jb [2,6] (nameT w.heap.size (w.heap.size+2) (jf sa sn sc) s a lo sn cs elem) (RK lo 176 (sn*2) elem) (AppS w.heap.size lo w.heap.size st (jf sa sn sc) 176 2 (sn+1) (cs++elem) (Fr lo w.heap.size w2) 14 w) jb jb jb jb (fun k=>zrs hln _) ?start ?steps ?done
 case start=>
  refine⟨hb2.trans ((zcz w2).mono hb2.size),by show lo<=w2.heap.size;omega,fun _ _ _=>rfl,fun _=>by rw[hst];exact hX.drew,fun h=>by cases h⟩
 case steps=>
  refine⟨?_,?_,?_,?_,?_,?_,?_,?_,?_,?_,?_,?_,?_,?_,?_,trivial⟩
  ·intro L act W hL hj hS hk hd
   have e10:L 14=false:=hj 14 jb;clear hk hd hj;refine zao rfl ?_;have hb:=(zaa W (.cells #[] 176)).mono hS.2.1;exact zec (jf (some ⟨W.heap.size,0,none⟩) 0 0) (w':=W.alloc (.cells #[] 176)) (by generalize act.eval=ρ at *;simp[go_sem]) ⟨W.heap.size,rfl,⟨rfl,.inr ⟨W.heap.size,0,#[],rfl,hS.2.1,heap_alloc_new W _,qac _,Nat.zero_le _,rfl,rfl⟩⟩⟩ (.of_grown (qdu W _ _)) (hS.next 0 ja e10 hb hn0 hX3 hBk)
  ·intro L act W hL hj hS hk hd
   have p1:act.eval (.tmp 2)=jj (some ⟨w.heap.size,0,none⟩):=hk 2 jc;clear hk hd hj;refine zao rfl ?_;exact zba (jj (some ⟨w.heap.size,2,none⟩)) (by generalize act.eval=ρ at *;simp[go_sem,p1]) rfl .refl (hS.same 1 ja)
  ·intro L act W hL hj hS hk hd
   have p1:act.eval (.tmp 39)=jj (some ⟨w.heap.size,2,none⟩):=hd 1 39 jb;clear hk hd hj;refine zao rfl ?_;exact zba (jj (some ⟨w.heap.size,4,none⟩)) (by generalize act.eval=ρ at *;simp[go_sem,p1]) rfl .refl (hS.same 2 ja)
  ·intro L act W hL hj hS hk hd
   have e10:L 14=false:=hj 14 jb;have p1:act.eval (.tmp 40)=jj (some ⟨w.heap.size,4,none⟩):=hd 2 40 jb;have c0:W.cell? ⟨w.heap.size,4,none⟩=some (jf sa sn sc):=by
    have:=hS.2.2.2.1 e10;rw[hst] at this;exact this.cell rfl
   clear hk hd hj;refine zao rfl ?_;exact zba (jf sa sn sc) (by generalize act.eval=ρ at *;simp[go_sem,p1,c0]) rfl .refl (hS.same 3 ja)
  ·intro L act W hL hj hS hk hd
   have e10:L 14=false:=hj 14 jb;obtain⟨B,p1,hB⟩:=hd 0 38 jb;have p2:act.eval (.tmp 41)=jf sa sn sc:=hd 3 41 jb;rw[p1] at hB;clear hk hd hj;refine zao rfl ?_;have hown:=hS.2.2.1.own HLO.out HO.out HNE.out;obtain⟨a',c',w',hr,h1,h2⟩:=zjf (P:=qab) W lo 131 131 176 ie _ 2 24 Tryz.underlying131 hie hze0 hze1 hze2 rfl B hB sa sn sc cs hln (CellsAt.of_own hown).src hc1 (by unfold maxLen;omega) U hS.2.1;exact zeb (.tmp 38) (.tmp 41) 131 rfl p1 p2 hr ⟨a',c',rfl,h1⟩ (.of_grown h2) (hS.next 4 ja e10 ((zb1 h2).mono hS.2.1) hn0 hX3 hBk)
  ·intro L act W hL hj hS hk hd
   have p1:act.eval (.tmp 6)=jj (some ⟨(w.heap.size+2),0,none⟩):=hk 6 jc;clear hk hd hj;refine zao rfl ?_;exact zba (jj (some ⟨(w.heap.size+2),2,none⟩)) (by generalize act.eval=ρ at *;simp[go_sem,p1]) rfl .refl (hS.same 5 ja)
  ·intro L act W hL hj hS hk hd
   have p1:act.eval (.tmp 43)=jj (some ⟨(w.heap.size+2),2,none⟩):=hd 5 43 jb;have c0:W.cell? ⟨(w.heap.size+2),2,none⟩=some (jh s):=(hS.2.2.1.bl HLO.out HK4.out hKX).cell rfl;clear hk hd hj;refine zao rfl ?_;exact zba (jh s) (by generalize act.eval=ρ at *;simp[go_sem,p1,c0]) rfl .refl (hS.same 6 ja)
  ·intro L act W hL hj hS hk hd
   have p1:act.eval (.tmp 6)=jj (some ⟨(w.heap.size+2),0,none⟩):=hk 6 jc;clear hk hd hj;refine zao rfl ?_;exact zba (jj (some ⟨(w.heap.size+2),1,none⟩)) (by generalize act.eval=ρ at *;simp[go_sem,p1]) rfl .refl (hS.same 7 ja)
  ·intro L act W hL hj hS hk hd
   have p1:act.eval (.tmp 45)=jj (some ⟨(w.heap.size+2),1,none⟩):=hd 7 45 jb;have c0:W.cell? ⟨(w.heap.size+2),1,none⟩=some (je jd (a:Int)):=(hS.2.2.1.bl HLO.out HK4.out hKX).cell rfl;clear hk hd hj;refine zao rfl ?_;exact zba (je jd (a:Int)) (by generalize act.eval=ρ at *;simp[go_sem,p1,c0]) rfl .refl (hS.same 8 ja)
  ·intro L act W hL hj hS hk hd
   have q6:act.eval (.tmp 44)=jh s:=hd 6 44 jb;have q8:act.eval (.tmp 46)=je jd (a:Int):=hd 8 46 jb;clear hk hd hj;refine zao rfl ?_;exact zba (.agg #[jh s,je jd (a:Int)]) (by generalize act.eval=ρ at *;simp[go_sem,q6,q8]) rfl .refl (hS.same 9 ja)
  ·intro L act W hL hj hS hk hd
   have e10:L 14=false:=hj 14 jb;have p1:act.eval (.tmp 47)=.agg #[jh s,je jd (a:Int)]:=hd 9 47 jb;clear hk hd hj;refine zao rfl ?_;have hb:=(zaa W (.cells #[jh s,je jd (a:Int)] 176)).mono hS.2.1;exact zec (jf (some ⟨W.heap.size,0,none⟩) 1 1) (w':=W.alloc (.cells #[jh s,je jd (a:Int)] 176)) (by generalize act.eval=ρ at *;simp[go_sem,p1]) ⟨W.heap.size,rfl,⟨hell,.inr ⟨W.heap.size,1,_,rfl,hS.2.1,heap_alloc_new W _,qac _,by unfold maxLen;omega,rfl,by rw[hel];rfl⟩⟩⟩ (.of_grown (qdu W _ _)) (hS.next 10 ja e10 hb hn0 hX3 hBk)
  ·intro L act W hL hj hS hk hd
   have e10:L 14=false:=hj 14 jb;obtain⟨a4,c4,p1,h4⟩:=hd 4 42 jb;obtain⟨E,p2,hE⟩:=hd 10 48 jb;rw[p1] at h4;rw[p2] at hE;clear hk hd hj;refine zao rfl ?_;obtain⟨a',c',w',hr,h1,h2,h3⟩:=zhg (P:=qab) W lo 131 131 176 ie _ 2 24 Tryz.underlying131 hie hze0 hze1 hze2 rfl a4 sn c4 cs h4 E 1 elem hE (by rw[hel];simp[Value.oneCell']) (by unfold maxLen;omega) U hS.2.1;exact zeb (.tmp 42) (.tmp 48) 131 rfl p1 p2 hr ⟨a',c',rfl,h1⟩ h2 (hS.next 11 ja e10 h3 hn0 hX3 hBk)
  ·intro L act W hL hj hS hk hd
   have p1:act.eval (.tmp 2)=jj (some ⟨w.heap.size,0,none⟩):=hk 2 jc;clear hk hd hj;refine zao rfl ?_;exact zba (jj (some ⟨w.heap.size,2,none⟩)) (by generalize act.eval=ρ at *;simp[go_sem,p1]) rfl .refl (hS.same 12 ja)
  ·intro L act W hL hj hS hk hd
   have p1:act.eval (.tmp 50)=jj (some ⟨w.heap.size,2,none⟩):=hd 12 50 jb;clear hk hd hj;refine zao rfl ?_;exact zba (jj (some ⟨w.heap.size,4,none⟩)) (by generalize act.eval=ρ at *;simp[go_sem,p1]) rfl .refl (hS.same 13 ja)
  ·intro L act W hL hj hS hk hd
   have p1:act.eval (.tmp 51)=jj (some ⟨w.heap.size,4,none⟩):=hd 13 51 jb;obtain⟨a7,c7,p2,h7⟩:=hd 11 49 jb;rw[p2] at h7;clear hk hd hj;refine zao rfl ?_;have hXW:=hS.2.2.2.1 hL;have hX5:=hXW.put (i:=4) (jf a7 (sn+1) c7);have hrow:(W.setCell ⟨w.heap.size,4,none⟩ (jf a7 (sn+1) c7)).ownsRow lo 176 2 (jf a7 (sn+1) c7) (sn+1) (cs++elem):=zaw h7 hX3 _ _;refine zoz (w':=W.setCell ⟨w.heap.size,4,none⟩ (jf a7 (sn+1) c7)) ?_ trivial (.low hX3 _) ⟨hS.1.setCell (p:=⟨w.heap.size,4,none⟩) hX0 _,by simpa using hS.2.1,hS.2.2.1.put _ _,fun h=>by simp at h,fun _=>⟨a7,c7,?_,hrow⟩⟩
   ·rw[hst] at hXW
    have c3:W.cell? ⟨w.heap.size,4,none⟩=some (jf sa sn sc):=hXW.cell rfl;have cf:=hXW.free;clear hS hX5 hrow;generalize act.eval=ρ at *;simp[go_sem,p1,p2,c3,cf]
   ·rw[hst] at hX5 ⊢
    exact hX5
 case done=>
  intro vals w3 hv hS;obtain⟨L2,hL2,hS⟩:=hS;obtain⟨a7,c7,hX7,h7⟩:=hS.2.2.2.2 (hL2 14 jc);rw[hst] at hX7;have hb3:=hS.1;have hFr:=hS.2.2.1;clear hS hv hL2 hBk;have hO7:Bl w3 (w.heap.size+1) 167 zeroV:=hFr.bl hlo hO0 U;have hst7:=RSt.fr hst4 HX2.out hFr hlo;rw[HSN.out] at hst7;have hst8:RSt R rs (u::us) ⟨f.nodes,f.calls++[(tx,a)]⟩ qs ⟨some ⟨b,0,none⟩,lc,(n:Int)+1,ra,rn,rc,na,nn,nc,a7,sn+1,c7,-1,false⟩ w3:=by
   obtain⟨s1,s2,s3,s4,s5,s6,s7,s8,s9,s10,s11⟩:=hst7;have hl:(f.calls++[(tx,a)]).length=sn+1:=by rw[List.length_append,List.length_singleton,HSN.out]
   refine⟨s1,s2,s3,s4,s5,s6,s7,hl.symm,s9,?_,s11⟩;rw[hl];have e:zcw (f.calls++[(tx,a)])=cs++elem:=by
    unfold zcw;rw[List.flatMap_append,hel,<-HCS.out,<-HS.out];rfl
   rw[e];exact za2 h7 (qal HBASE.out hn0)
  have hA:=fun(W:World) (hb:Below w3.heap.size w3 W)=>(show Calls qab 152 #[.agg #[jf (some ⟨b,0,none⟩) R.T.length lc,je jd ((n:Int)+1),jf ra rn rc,jf na nn nc,jf a7 (sn+1) c7,je jd (-1),ji false,ji R.one],.agg #[je jd 2,jf none 0 0,je jd (sn:Int),je jg 0,je jg 0,je jg 0,je jg 0]] W (RRes R (lastI (callF f ⟨1,a,tx,r⟩)) (RF R rs (u::us) (callF f ⟨1,a,tx,r⟩) qs w.heap.size) W) from by
   have e:=(zf3 (hst8.below hb) (callN f.calls.length) none 0 (World.ownsRow_nil _ _ _ _) hm (qal HBASE.out (qal hb3.size hb.size))).mono fun e w' k=>(RRes.of k.1 (by
    obtain⟨x',k1,k2⟩:=k.2;exact⟨x',k1,[jf none 0 0],k2,fun q hq b hb=>by
     obtain rfl:=List.mem_singleton.1 hq;cases hb⟩):RRes R (lastI (callF f ⟨1,a,tx,r⟩)) (RF R rs (u::us) (callF f ⟨1,a,tx,r⟩) qs w.heap.size) W e w')
   rw[HSN.out] at e;exact e)
  have HA:=qaa hA;have HO7:=qaa hO7;have HB7:=qaa hb3;obtain⟨⟨x0,x1,x2,x3,x4,x5,x6,x7⟩,xf,xl7⟩:=zad hX7;obtain⟨⟨z0,z1,z2,z3,z4,z5,z6,z7⟩,zf,zl7⟩:=zad hO7;have w1:IntKind.i64.wrap (((sn+1:Nat):Int)-1)=(sn:Int):=by rw[show((sn+1:Nat):Int)-1=(sn:Int) by omega];exact qaq _ U
  have w2':IntKind.i64.wrap ((sn:Int)+1-1)=(sn:Int):=by rw[show(sn:Int)+1-1=(sn:Int) by omega];exact qaq _ U
  have w3':IntKind.i64.wrap (sn:Int)=(sn:Int):=qaq _ U;clear hA hO7 hb3 hX7 hst8 hst7 hFr h7 hst4 hO4 hX hO0 hb2 HO HNE HK4 HK2 HX2 HX HO2 HST HCS hst hel hell hc1 hln hcs hm;simp only[fill,if_true,Act.put,List.setIfInBounds_toArray,List.set_cons_zero,List.set_cons_succ,Nat.zero_add,Nat.reduceAdd]
  go_wp2_with (go_at_call 152;(with_reducible refine(HA.out _ (qaf _ _)).mono ?_);rintro e w5 ⟨la5,lc5,i5,ra5,rn5,rc5,na5,nn5,nc5,ca5,cn5,cc5,bad5,dp5,rfl,hb5,hq5⟩;have ho5:=HO7.out.below hb5;have hbb5:=HB7.out.trans (hb5.mono HB7.out.size);clear x0 x1 x2 x3 x4 x5 x6 x7 xf z0 z1 z2 z3 z4 z5 z6 z7 zf;obtain⟨⟨o0,o1,o2,o3,o4,o5,o6,o7⟩,of,ol⟩:=zad ho5;have HO5:=qaa ho5;have HB5:=qaa hbb5;have HQ5:=qaa hq5;clear ho5 hbb5 hb5 hq5)
  clear o0 o1 o2 o3 o4 o5 o6 o7 of;obtain⟨⟨c0,c1,c2,c3,c4,c5,c6,c7⟩,cf,-⟩:=zad (zay HO5.out (jf la5 R.T.length lc5) (je jd i5) (jf ra5 rn5 rc5) (jf na5 nn5 nc5) (jf ca5 cn5 cc5) (je jd bad5) (ji dp5) (ji R.one));refine bodyPost_ret (v:=jk #[.agg #[jf la5 R.T.length lc5,je jd i5,jf ra5 rn5 rc5,jf na5 nn5 nc5,jf ca5 cn5 cc5,je jd bad5,ji dp5,ji R.one],je jd (lastI (callF f ⟨1,a,tx,r⟩))]) (by simp[results,qcm,go_sem,c0,c1,c2,c3,c4,c5,c6,c7]) rfl ?_;exact⟨la5,lc5,i5,ra5,rn5,rc5,na5,nn5,nc5,ca5,cn5,cc5,bad5,dp5,rfl,zbh HB5.out U _ _ _ _ _ _ _ _,RF.low8 HQ5.out HO5.out _ _ _ _ _ _ _ _⟩
end
end
