/- The reference: Parse. The reference: Expression. -/
import Derived.Deep.Cut
import Derived.Test.YtmopdlbpkiaoeaaGreatDoorPqU
set_option maxRecDepth 100000
set_option maxHeartbeats 8000000
open Go.IntKind renaming i64->jd, u64->jg
open Go.Value renaming int->je, slice->jf, string->jh, bool->ji, pointer->jj, tuple->jk
namespace Go.Proofs.YtmopdlbpkiaoeaaGreatDoor
open Go.IntWalk renaming i64_in->qaq
open Go.Lib renaming hid->qaa
open Go.Proofs.Tryz renaming prog->qab, results77->qf2
open Go.World renaming grownBy_alloc->qdu, ownsRow_nil->qav
open List renaming cons_ne_nil->qdx, length_cons->qah, tail_drop->qbw
open Nat renaming le_refl->qac, le_trans->qal, lt_succ_self->qas, zero_add->qbc, zero_le->qaj
section
open Go.RowKit
def defK (X K:Nat)(v0:Value)(s9:ByteArray)(p9:Nat)(k9:Int):Nat->TK
 |0=>.row0
 |1=>.eq (jj (some ⟨X,2,none⟩))
 |2=>.eq (jj (some ⟨X,2,none⟩))
 |3=>.eq v0
 |4=>.rowN
 |5=>.eq (jj (some ⟨K,2,none⟩))
 |6=>.eq (jh s9)
 |7=>.eq (jj (some ⟨K,1,none⟩))
 |8=>.eq (je jd (p9:Int))
 |9=>.eq (je jd k9)
 |10=>.eq (.agg #[jh s9,je jd (p9:Int),je jd k9])
 |11=>.row1
 |12=>.rowS
 |13=>.eq (jj (some ⟨X,2,none⟩))
 |14=>.eq (jj (some ⟨X,2,none⟩))
 |15=>.any
 |_=>.any
def defT (X K:Nat)(v0:Value)(s9:ByteArray)(p9:Nat)(k9:Int)(lo n:Nat)(cs elem:List Value)(k:Nat)(v:Value)(W:World):Prop:=tkT lo 173 3 n cs elem (defK X K v0 s9 p9 k9 k) v W
theorem zqd (s:ByteArray)(w:World)(N:Nat){F:List Tok->MF->PO}(hs:s.size<=1050000)(hX:RDo ⟨w.heap.size,strm (bts s) 0,false⟩ N 2 107 0 F)(hG:Grow 0 2 F)(hF0:Fit 2 N [] (strm (bts s) 0) ⟨[],[]⟩) :
  Calls qab 77 #[jh s] w (FinIs w.heap.size (defsL true F ((strm (bts s) 0).length+1) (strm (bts s) 0) ⟨[],[]⟩ []) w):=by
 obtain⟨O,hO⟩:∃O,defsL true F ((strm (bts s) 0).length+1) (strm (bts s) 0) ⟨[],[]⟩ []=O:=⟨_,rfl⟩;rw[hO];have hE0:=znb (bts s) _ 0 (qaj _) (qac _);have hq:=zpz s (w.alloc (.cells zeroF 133)) hs;obtain⟨R,hR⟩:∃R:RC,(⟨w.heap.size,strm (bts s) 0,false⟩:RC)=R:=⟨_,rfl⟩;have hRT:R.T=strm (bts s) 0:=by rw[<-hR]
 have hRb:R.base=w.heap.size:=by rw[<-hR]
 have hRo:R.one=false:=by rw[<-hR]
 rw[hR] at hX;rw[<-hRT] at hO hE0 hF0 hq;have hTl:R.T.length<=2000000:=by
  obtain⟨-,h2,-⟩:=zfl (bts s) _ 0 (qaj _) (qac _);rw[zaj] at h2;rw[hRT];omega
 have hNb:N<=100000000:=hF0.2.2.2.1;have hN0:R.T.length<=N:=by have:=hF0.2.1;exact qal (Nat.le_add_left _ _) this
 obtain⟨ie,hie,hze0,hze1,hze2⟩:=info_parts z4i;have HO:=qaa hO;have HE0:=qaa hE0;have HF0:=qaa hF0;have HRB:=qaa hRb;have HRO:=qaa hRo;have HTL:=qaa hTl;have HN0:=qaa hN0;have HGR:=qaa hG;have HX:=qaa hX;have HT:=qaa hq;have HRT:=qaa hRT;clear hO hE0 hF0 hR hRT hRb hRo hG hX hq hTl hN0 hs;go_enter Tryz.func77,Tryz.ntmps77
 go_upto_region 2 with(go_at_call 104;unfold zeroF at HT;(with_reducible refine HT.out.mono ?_);rintro e w1 ⟨v,rfl,hv,hb1⟩;obtain⟨la,lc,e1⟩:=zag hv;subst e1;have HV:=qaa hv;have HB1:=qaa hb1;clear hv hb1)
 have hwb:Below w.heap.size w w1:=(zaa w _).trans (HB1.out.mono jc);have hF1:Bl w1 w.heap.size 133 zeroF:=(Bl.new w 133 zeroF).below HB1.out;have hwl:=hF1.lt;have hrow:w1.ownsRow R.base 169 7 (jf la R.T.length lc) R.T.length (zgr R.T):=by
  rw[HRB.out];exact za2 HV.out jc
 have H0:Hid (ParR R N w w1.heap.size F O (R.T.length+1) (w1.alloc (.cells #[jf la R.T.length lc,je jd 0,jf none 0 0,jf none 0 0,jf none 0 0,je jd (-1),ji false,ji R.one] 167))):=qaa ⟨⟨la,lc,0,none,0,0,none,0,0,none,0,0,-1,false⟩,⟨Bl.new w1 _ _,hF1.past,hwb.trans ((zaa w1 _).mono hwb.size),hwl⟩,.inl ⟨[],R.T,⟨[],[]⟩,[],⟨⟨zab hrow (zaa w1 _),HTL.out⟩,rfl,rfl,⟨0,rfl,rfl⟩,HE0.out.ne,rfl,rfl,rfl,NRow.nil _ _,qav _ _ _ _,qav _ _ _ _⟩,(if_neg (fun h=>h.1 rfl)).trans HO.out,HF0.out,by show 0+_<=_;rw[qbc];exact HN0.out,qas _,HE0.out⟩⟩;rw[HRO.out] at H0;obtain⟨B,hB⟩:∃B,w1.heap.size=B:=⟨_,rfl⟩;rw[hB] at H0 ⊢;clear hwb hF1 hwl hrow;go_wp2
 go_loopg [] (R.T.length+1) (fun gk wr=>ParR R N w B F O gk wr)
 case atStart=>exact H0.out
 case round=>
  obtain⟨⟨la2,lc2,i2,ra2,rn2,rc2,na2,nn2,nc2,ca2,cn2,cc2,bad2,dp2⟩,hP,hor⟩:=hrel;have hX:=hP.1;unfold Cel at hX;dsimp only at hX;obtain⟨⟨x0,x1,x2,x3,x4,x5,x6,x7⟩,xf,xl⟩:=zad hX;have hwB:=hP.2.2.2;rcases hor with⟨rs,a,g,qs,hS,hO,hF,hNl,hlt,hE⟩|⟨rs,c,dpc,hBad,hO⟩
  ·have hbd:bad2=-1:=hS.2.1
   have hdp:dp2=false:=hS.2.2.1;have hrn:rn2=rs.length:=hS.2.2.2.2.2.1;subst hbd hdp hrn;have kneg:(-1:Int)<0:=ja
   obtain⟨m,rfl⟩:∃m,gk=m+1:=⟨gk-1,U⟩;have HBR:=qaa (Below.refl wr.heap.size wr);have HP2:=qaa hP;by_cases hex:rs.length≠0/\kd a=0
   ·rw[if_pos hex] at hO
    have HS:=qaa hS;have HOO:=qaa hO;obtain⟨h1,-,-,⟨n,hi,hn⟩,-⟩:=hS;have hi:i2=(n:Int):=hi;subst hi
    match a,hE,hex,hn,HS with
    |t::tl,hE,hex,hn,HS=>
    have hk:=fun(W:World) (hb:Below wr.heap.size wr W)=>za9 R ⟨la2,lc2,(n:Int),ra2,rs.length,rc2,na2,nn2,nc2,ca2,cn2,cc2,-1,false⟩ W n t tl (h1.below hb) rfl hn
    have ek:kI t.kind=0:=by rw[show t.kind=0 from hex.2];rfl
    rw[ek] at hk;unfold SV.v at hk;dsimp only at hk;have HKD:=qaa hk;have e0:((rs.length:Int) == 0)=false:=zav (by have:=hex.1;omega);have hfin:=fun(W:World) (hb:Below wr.heap.size wr W)=>zw3 la2 lc2 (n:Int) ra2 rs.length rc2 na2 nn2 nc2 ca2 cn2 cc2 (HS.out.below hb)
    have hfin2:=fun(W:World) (hb:Below wr.heap.size wr W)=>(show Calls qab 108 #[.agg #[jf la2 R.T.length lc2,je jd (n:Int),jf ra2 rs.length rc2,jf na2 nn2 nc2,jf ca2 cn2 cc2,je jd (-1),ji false,ji R.one]] W _ from(hfin W hb).mono fun e w' h=>zil (w:=w) (O:=O) (by
     rw[if_pos (show kd (t::tl)=0 from hex.2),HOO.out,HRB.out] at h;exact h) (HP2.out.below hb).2.2.1 (HP2.out.below hb).2.1)
    have HFI:=qaa hfin2;clear hX hP hF hNl hlt hE hex h1 hn hk ek hfin hfin2 hO
    go_upto_region 13 with(go_at_call 105;(with_reducible refine(HKD.out _ HBR.out).mono ?_);rintro e w3 ⟨rfl,hb⟩;have hp:=HP2.out.below hb;have hbb:=HBR.out.trans (hb.mono HBR.out.size);clear x0 x1 x2 x3 x4 x5 x6 x7 xf xl;obtain⟨⟨x0,x1,x2,x3,x4,x5,x6,x7⟩,xf,xl⟩:=zad hp.1;have HP3:=qaa hp;have HBRR:=qaa hbb;clear hp hbb hb)
    have HFIN:=qaa (HFI.out _ HBRR.out);clear HFI
    go_wp2_with (first
     |(go_at_call 108;(with_reducible refine HFIN.out.mono ?_);rintro e w9 ⟨fa,fn,fc,ga,gn,gc,ha,hn9,hc,co,at9,rfl,hB9,hF9⟩;unfold zeroF at hB9;have o0:w9.cell? ⟨w.heap.size,0,none⟩=some (jf none 0 0):=hB9.cell rfl;have o1:w9.cell? ⟨w.heap.size,1,none⟩=some (jf none 0 0):=hB9.cell rfl;have o2:w9.cell? ⟨w.heap.size,2,none⟩=some (jf none 0 0):=hB9.cell rfl;have of:=hB9.free;have ol:=hB9.lt;have HF9:=qaa hF9;clear hB9 hF9 x0 x1 x2 x3 x4 x5 x6 x7 xf xl))
    have k0:(((w9.setCell ⟨w.heap.size,0,none⟩ (jf fa fn fc)).setCell ⟨w.heap.size,1,none⟩ (jf ga gn gc)).setCell ⟨w.heap.size,2,none⟩ (jf ha hn9 hc)).cell? ⟨w.heap.size,0,none⟩=some (jf fa fn fc):=by rw[cso ja,cso ja];exact css o0
    have k1:(((w9.setCell ⟨w.heap.size,0,none⟩ (jf fa fn fc)).setCell ⟨w.heap.size,1,none⟩ (jf ga gn gc)).setCell ⟨w.heap.size,2,none⟩ (jf ha hn9 hc)).cell? ⟨w.heap.size,1,none⟩=some (jf ga gn gc):=by rw[cso ja];exact css (by rw[cso ja];exact o1)
    have k2:(((w9.setCell ⟨w.heap.size,0,none⟩ (jf fa fn fc)).setCell ⟨w.heap.size,1,none⟩ (jf ga gn gc)).setCell ⟨w.heap.size,2,none⟩ (jf ha hn9 hc)).cell? ⟨w.heap.size,2,none⟩=some (jf ha hn9 hc):=css (by rw[cso ja,cso ja];exact o2);clear o0 o1 o2 of;refine bodyPost_ret (v:=jk #[.agg #[jf fa fn fc,jf ga gn gc,jf ha hn9 hc],je jd co,je jd at9]) (by simp[results,qf2,go_sem,k0,k1,k2]) rfl ?_;exact HF9.out _ _ _
   ·rw[if_neg hex] at hO
    have HS:=qaa hS;have HOO:=qaa hO;have HFF:=qaa hF;have HNL:=qaa hNl;have HLT:=qaa hlt;have HEE:=qaa hE;have hcl:=qaa (show rs.length<=100000000 from qal hF.2.2.1 hNb);obtain⟨h1,-,-,⟨n,hi,hn⟩,-⟩:=hS;have hi:i2=(n:Int):=hi;subst hi
    match a,hE,hex,hn,HS,HOO,HFF,HNL,HLT,HEE with
    |t::tl,hE,hex,hn,HS,HOO,HFF,HNL,HLT,HEE=>
    have hk:=fun(W:World) (hb:Below wr.heap.size wr W)=>za9 R ⟨la2,lc2,(n:Int),ra2,rs.length,rc2,na2,nn2,nc2,ca2,cn2,cc2,-1,false⟩ W n t tl (h1.below hb) rfl hn
    unfold SV.v at hk;dsimp only at hk;have HDN:=qaa hn;clear hX hP hF hNl hlt hE h1 hn hO
    go_upto_region 2 with fail
    go_cut [25] (fun v wx=>v=ji true/\PT R w B ⟨la2,lc2,(n:Int),ra2,rs.length,rc2,na2,nn2,nc2,ca2,cn2,cc2,-1,false⟩ wx/\RSt R rs (t::tl) g qs ⟨la2,lc2,(n:Int),ra2,rs.length,rc2,na2,nn2,nc2,ca2,cn2,cc2,-1,false⟩ wx)
    case first=>
     by_cases h0:rs.length=0
     ·have e0:((rs.length:Int) == 0)=true:=by rw[h0];rfl
      clear hk;go_wp2
      go_meet
      exact⟨rfl,HP2.out,HS.out⟩
     ·have e0:((rs.length:Int) == 0)=false:=zav U
      have ek:(kI t.kind != 0)=true:=zah (kI_ne fun e=>hex ⟨h0,e⟩);obtain⟨kk,hkk⟩:∃y,kI t.kind=y:=⟨_,rfl⟩;rw[hkk] at hk ek;have HKD:=qaa hk;clear hk hkk
      go_wp2_with (go_at_call 105;(with_reducible refine(HKD.out _ HBR.out).mono ?_);rintro e w3 ⟨rfl,hb⟩;have hp:=HP2.out.below hb;have hbb:=HBR.out.trans (hb.mono HBR.out.size);clear x0 x1 x2 x3 x4 x5 x6 x7 xf xl;obtain⟨⟨x0,x1,x2,x3,x4,x5,x6,x7⟩,xf,xl⟩:=zad hp.1;have HP3:=qaa hp;have HBRR:=qaa hbb;clear hp hbb hb)
      go_meet
      exact⟨rfl,HP3.out,HS.out.below HBRR.out⟩
    case rest=>
     obtain⟨rfl,hP3,hS3⟩:=hcut;clear x0 x1 x2 x3 x4 x5 x6 x7 xf xl hk;have hS3':=hS3;obtain⟨h1,-,-,⟨n',hi',hnx⟩,-⟩:=hS3';have hi':(n:Int)=(n':Int):=hi';have hnn:n'=n:=U
     clear hi';subst hnn;obtain⟨hlt,b,hla,⟨t0,t1,t2,t3,t4,t5,t6⟩,hbl⟩:=h1.tok hnx;have hla:la2=some ⟨b,0,none⟩:=hla;subst hla;have hTl:=h1.2;have k1:(n':Int)<(R.T.length:Int):=U
     have v1:IntKind.i64.wrap ((n':Int)+1)=(n':Int)+1:=qaq _ U;have v2:IntKind.i64.wrap ((n':Int)+1+1)=(n':Int)+2:=by rw[show(n':Int)+1+1=(n':Int)+2 by omega];exact qaq _ U
     have k0:(0:Int)<=(n':Int):=U
     have hX:=hP3.1;unfold Cel at hX;dsimp only at hX;obtain⟨⟨x0,x1,x2,x3,x4,x5,x6,x7⟩,xf,xl⟩:=zad hX;clear hX;obtain⟨s9,hs9⟩:∃s,strOf t.text=s:=⟨_,rfl⟩;have HS9:=qaa hs9;rw[hs9] at t2;clear hs9;have HP3:=qaa hP3;have HS3:=qaa hS3;have HFX:=qaa h1;clear hP3 hS3 h1
     go_upto_region 4 with fail
     obtain⟨W4,hW4⟩:∃W4,wc.alloc (.cells #[je jd (kI t.kind),je jd (t.at_:Int),jh s9,je jg (setW (inRs t.rs) 0),je jg (setW (inRs t.rs) 1),je jg (setW (inRs t.rs) 2),je jg (setW (inRs t.rs) 3)] 169)=W4:=⟨_,rfl⟩;have hb4:Below wc.heap.size wc W4:=by rw[<-hW4];exact zaa wc _
     have hK4:Bl W4 wc.heap.size 169 #[je jd (kI t.kind),je jd (t.at_:Int),jh s9,je jg (setW (inRs t.rs) 0),je jg (setW (inRs t.rs) 1),je jg (setW (inRs t.rs) 2),je jg (setW (inRs t.rs) 3)]:=by rw[<-hW4];exact Bl.new wc _ _
     have hP4:=HP3.out.below hb4;have hS4:=HS3.out.below hb4;have hf4:=HFX.out.below hb4;rw[hW4];clear x0 x1 x2 x3 x4 x5 x6 x7 xf xl hW4 t0 t1 t2 t3 t4 t5 t6;obtain⟨⟨x0,x1,x2,x3,x4,x5,x6,x7⟩,xf,xl⟩:=zad hP4.1;have q0:W4.cell? ⟨wc.heap.size,0,none⟩=some (je jd (kI t.kind)):=hK4.cell rfl;have ql:=hK4.lt;have hKB:wc.heap.size≠B:=by have:=HP3.out.1.lt;omega
     have hBK:¬B=wc.heap.size:=fun e=>hKB e.symm
     have HK4:=qaa hK4;have HP4:=qaa hP4;have HS4:=qaa hS4;have HF4:=qaa hf4;clear hK4 hP4 hS4 hf4 hb4;by_cases hk1:t.kind=1
     ·have ek1:kI t.kind=1:=by rw[hk1];rfl
      rw[ek1] at q0;have htl:=HEE.out.tail (show t.kind≠0 by omega) (show t.kind≠99 by omega)
      match tl,htl,hnx,HOO,HFF,HNL,HLT,HEE,HS4,HS3,HS,HDN with
      |u::us,htl,hnx,HOO,HFF,HNL,HLT,HEE,HS4,HS3,HS,HDN=>
      have hn1:R.T.drop (n'+1)=u::us:=by rw[<-qbw,hnx];rfl
      have HN1:=qaa hn1;have HTLE:=qaa htl;clear hnx HS HS3 HP2 HFX htl
      go_upto_region 7 with fail
      have hP5:=HP4.out.put ((n':Int)+1);obtain⟨W5,hW5⟩:∃W5,W4.setCell ⟨B,1,none⟩ (je jd ((n':Int)+1))=W5:=⟨_,rfl⟩;have hK5:=HK4.out.other (o:=1) hKB (je jd ((n':Int)+1));have hS5:=HS4.out.low HP4.out.1 1 (je jd ((n':Int)+1));rw[hW5] at hP5 hK5 hS5;rw[hW5];clear x0 x1 x2 x3 x4 x5 x6 x7 xf xl q0 ql hW5;obtain⟨⟨x0,x1,x2,x3,x4,x5,x6,x7⟩,xf,xl⟩:=zad hP5.1;have hf5:RFix R ⟨some ⟨b,0,none⟩,lc2,((n':Int)+1),ra2,rs.length,rc2,na2,nn2,nc2,ca2,cn2,cc2,-1,false⟩ W5:=⟨hS5.1.1,hS5.1.2⟩;have hk:=za9 R ⟨some ⟨b,0,none⟩,lc2,((n':Int)+1),ra2,rs.length,rc2,na2,nn2,nc2,ca2,cn2,cc2,-1,false⟩ W5 (n'+1) u us hf5 (by show(n':Int)+1=_;omega) hn1;have hr5:=hS5.rrow;have hr5:DRow R rs ⟨some ⟨b,0,none⟩,lc2,((n':Int)+1),ra2,rs.length,rc2,na2,nn2,nc2,ca2,cn2,cc2,-1,false⟩ W5:=⟨hr5.1,hr5.2⟩;unfold SV.v at hk;dsimp only at hk;have HP5:=qaa hP5;have HK5:=qaa hK5;have HS5:=qaa hS5;have HF5:=qaa hf5;have HR5:=qaa hr5;clear hP5 hK5 hS5 hf5 hr5 hn1 HP4 HK4 HS4 HF4;by_cases hk2:u.kind=2
      ·have ek2:kI u.kind=2:=by rw[hk2];rfl
       rw[ek2] at hk;have HKD:=qaa hk;have hEu:=HTLE.out.tail (show u.kind≠0 by omega) (show u.kind≠99 by omega);have hn2:R.T.drop (n'+2)=us:=by
        have:=congrArg List.tail HN1.out;rw[qbw] at this;exact this
       have hFu:Fit 2 N rs us g:=((HFF.out.tail (c':=5) (show t.kind≠0 by omega) U).tail (c':=8) (show u.kind≠0 by omega) U).weak U;have HEu:=qaa hEu;have HN2:=qaa hn2;have HFu:=qaa hFu;have HU2:=qaa hk2;clear hk hEu hn2 hFu ek2 hk2 ek1
       go_upto_region 11 with(go_at_call 105;(with_reducible refine HKD.out.mono ?_);rintro e w6 ⟨rfl,hb⟩;have hP6:=HP5.out.below hb;have hK6:=HK5.out.below hb;clear x0 x1 x2 x3 x4 x5 x6 x7 xf xl;obtain⟨⟨x0,x1,x2,x3,x4,x5,x6,x7⟩,xf,xl⟩:=zad hP6.1;have HP6:=qaa hP6;have HK6:=qaa hK6;have HB6:=qaa hb;clear hP6 hK6 hb)
       have hP7:=HP6.out.put ((n':Int)+2);have hK7:=HK6.out.other (o:=1) hKB (je jd ((n':Int)+2));have hS7:=(HS5.out.below HB6.out).low HP6.out.1 1 (je jd ((n':Int)+2));obtain⟨W7,hW7⟩:∃W7,w6.setCell ⟨B,1,none⟩ (je jd ((n':Int)+2))=W7:=⟨_,rfl⟩;rw[hW7] at hP7 hK7 hS7;rw[hW7];clear x0 x1 x2 x3 x4 x5 x6 x7 xf xl hW7;obtain⟨⟨x0,x1,x2,x3,x4,x5,x6,x7⟩,xf,xl⟩:=zad hP7.1;have hS7:RSt R rs us g qs ⟨some ⟨b,0,none⟩,lc2,((n':Int)+2),ra2,rs.length,rc2,na2,nn2,nc2,ca2,cn2,cc2,-1,false⟩ W7:=by
        obtain⟨s1,s2,s3,-,-,s6⟩:=hS7;exact⟨s1,s2,s3,⟨n'+2,by show(n':Int)+2=_;omega,HN2.out⟩,HEu.out.ne,s6⟩
       have hx:=(HX.out rs qs ⟨some ⟨b,0,none⟩,lc2,((n':Int)+2),ra2,rs.length,rc2,na2,nn2,nc2,ca2,cn2,cc2,-1,false⟩ us g W7 hS7 HEu.out HFu.out (by rw[HRB.out];exact hP7.2.2.1.size)).mono fun e w' h=>RO.eo h
       unfold SV.v at hx;dsimp only at hx;rw[show((0:Nat):Int)=0 from rfl] at hx;have HXX:=qaa hx;have HP7:=qaa hP7;have HK7:=qaa hK7;clear hx hP7 hK7 hS7 HP6 HK6 HP5 HK5 HS5 HF5 HR5 HKD;obtain⟨o,ho⟩:∃o,F us g=o:=⟨_,rfl⟩;rw[ho] at HXX;have hO9:ruleO F m rs t.text t.at_ o=O:=by
        have hdef:defL true F (t::u::us) g=o:=by
         unfold defL;rw[if_pos (show kd (t::u::us)=1 from hk1),za5,PO.bind_ok];show(if kd (u::us)=2 then _ else _)=_;rw[if_pos (show kd (u::us)=2 from(by show u.kind=2;exact HU2.out)),za5];exact ho
        have:=HOO.out
        conv at this=>lhs;unfold defsL
        rw[hdef] at this;exact this
       have hFit9:∀a g,o=.ok a g->Fit 2 N rs a g/\rs.length+1+a.length<=N/\a.length<m/\Endy a:=fun a' g' e=>by
        have hg:=HGR.out us g;rw[ho,e] at hg;have l1:=hg.2.1;have l2:=HNL.out;have l3:=HLT.out;rw[qah,qah] at l2 l3;have hf:=((HFF.out.tail (c':=5) (show t.kind≠0 by omega) U).tail (c':=8) (show u.kind≠0 by have:=HU2.out;omega) U);exact⟨hf.next hg U,U,U,hg.1 Endy zie HEu.out⟩
       have HO9:=qaa hO9;have HFit9:=qaa hFit9;clear ho hO9 hFit9
       go_upto_region 12 with(go_at_call 107;(with_reducible refine HXX.out.mono ?_);rintro e w8 ⟨k9,la8,lc8,i8,ra8,rn8,rc8,na8,nn8,nc8,ca8,cn8,cc8,bad8,dp8,rfl,hb,hr8,hx8⟩;have hrn:rn8=rs.length:=hr8.1;subst hrn;have hP8:=HP7.out.below hb;have hK8:=HK7.out.below hb;clear x0 x1 x2 x3 x4 x5 x6 x7 xf xl;obtain⟨⟨x0,x1,x2,x3,x4,x5,x6,x7⟩,xf,xl⟩:=zad hP8.1;have HP8:=qaa hP8;have HK8:=qaa hK8;have HX8:=qaa hx8;have HR8:=qaa hr8.2;clear hP8 hK8 hx8 hr8 hb)
       have hP9:=HP8.out.st8 ⟨la8,lc8,i8,ra8,rs.length,rc8,na8,nn8,nc8,ca8,cn8,cc8,bad8,dp8⟩;have hx9:=HX8.out.st8 HP8.out.1 ⟨la8,lc8,i8,ra8,rs.length,rc8,na8,nn8,nc8,ca8,cn8,cc8,bad8,dp8⟩;have hr9:(st8 w8 B R ⟨la8,lc8,i8,ra8,rs.length,rc8,na8,nn8,nc8,ca8,cn8,cc8,bad8,dp8⟩).ownsRow R.base 173 3 (jf ra8 rs.length rc8) rs.length (defsC rs):=by
        unfold st8;exact own8 HR8.out HP8.out.1 ja _ _ _ _ _ _ _ _
       have hk9:Bl (st8 w8 B R ⟨la8,lc8,i8,ra8,rs.length,rc8,na8,nn8,nc8,ca8,cn8,cc8,bad8,dp8⟩) wc.heap.size 169 #[je jd (kI t.kind),je jd (t.at_:Int),jh s9,je jg (setW (inRs t.rs) 0),je jg (setW (inRs t.rs) 1),je jg (setW (inRs t.rs) 2),je jg (setW (inRs t.rs) 3)]:=by
        unfold st8;exact Bl.other8 HK8.out hKB _ _ _ _ _ _ _ _
       obtain⟨W9,hW9⟩:∃W9,st8 w8 B R ⟨la8,lc8,i8,ra8,rs.length,rc8,na8,nn8,nc8,ca8,cn8,cc8,bad8,dp8⟩=W9:=⟨_,rfl⟩;rw[hW9] at hP9 hx9 hr9 hk9;unfold st8 at hW9;dsimp only at hW9;rw[hW9];clear x0 x1 x2 x3 x4 x5 x6 x7 xf xl hW9 HP8 HK8 HX8 HR8 HP7 HK7 HXX;obtain⟨lo,hlo⟩:∃lo,W9.heap.size=lo:=⟨_,rfl⟩;have HLO:=qaa hlo;have HO:=qaa hr9;have HNE:=qaa (zaq hr9 hP9.1 ja);have hln:=hr9.1;have HK4:=qaa hk9;have hKX:wc.heap.size≠B:=hKB;have hX3:B<lo:=by rw[<-hlo];exact hP9.1.lt
       have hX0:w.heap.size<=B:=Nat.le_of_lt hwB;have hn0:w.heap.size<=lo:=U
       have HP9:=qaa hP9;have HX9:=qaa hx9;have hcl9:=hcl.out;clear hP9 hx9 hr9 hk9;obtain⟨cs,hcs⟩:∃cs,defsC rs=cs:=⟨_,rfl⟩;have hc1:∀u ∈ cs,u.oneCell'=true:=by rw[<-hcs];exact zws _
       rw[hcs] at hln HO;have HCS:=qaa hcs;obtain⟨sn,hsn⟩:∃sn,rs.length=sn:=⟨_,rfl⟩;have HSN:=qaa hsn;rw[hsn] at HO HNE hln hcl9 ⊢;obtain⟨sa,rfl⟩:∃sa,sa=ra8:=⟨_,rfl⟩;obtain⟨sc,rfl⟩:∃sc,sc=rc8:=⟨_,rfl⟩;obtain⟨p9,hp9⟩:∃p,t.at_=p:=⟨_,rfl⟩;rw[hp9] at HK4;have HP9':=qaa hp9;obtain⟨st,hst⟩:∃st:Value->Array Value,st=fun v=>#[jf la8 R.T.length lc8,je jd i8,v,jf na8 nn8 nc8,jf ca8 cn8 cc8,je jd bad8,ji dp8,ji R.one]:=⟨_,rfl⟩
       obtain⟨elem,hel⟩:∃l:List Value,l=[jh s9,je jd (p9:Int),je jd k9]:=⟨_,rfl⟩;have hell:elem.length=3:=by rw[hel];rfl
       have hXB:Bl W9 B 167 (st (jf sa sn sc)):=by
        rw[hst,<-hsn];exact HP9.out.1
       have hWB:=HP9.out.2.2.1;have hBk:∀W W',Below lo W W'->Fr lo B W9 W->Fr lo B W9 W':=fun W W' hb h=>h.below hb
       clear hcs hsn hp9;refine ze0 jb [5,6,7] (defT B wc.heap.size (jf sa sn sc) s9 p9 k9 lo sn cs elem) (RK lo 173 (sn*3) elem) (AppS w.heap.size lo B st (jf sa sn sc) 173 3 (sn+1) (cs++elem) (Fr lo B W9) 15 w) jb jb jb jb (fun k=>zrs hln _) ?start ?steps ?done
       case start=>
        refine⟨hWB.trans ((zcz W9).mono hWB.size),by show lo<=W9.heap.size;omega,fun _ _ _=>rfl,fun _=>hXB.drew,fun h=>by cases h⟩
       case steps=>
        refine⟨?_,?_,?_,?_,?_,?_,?_,?_,?_,?_,?_,?_,?_,?_,?_,?_,trivial⟩
        ·intro L act W hL hj hS hk hd
         have e10:L 15=false:=hj 15 jb;clear hk hd hj;refine zao rfl ?_;have hb:=(zaa W (.cells #[] 173)).mono hS.2.1;exact zec (jf (some ⟨W.heap.size,0,none⟩) 0 0) (w':=W.alloc (.cells #[] 173)) (by generalize act.eval=ρ at *;simp[go_sem]) ⟨W.heap.size,rfl,⟨rfl,.inr ⟨W.heap.size,0,#[],rfl,hS.2.1,heap_alloc_new W _,qac _,qaj _,rfl,rfl⟩⟩⟩ (.of_grown (qdu W _ _)) (hS.next 0 ja e10 hb hn0 hX3 hBk)
        ·intro L act W hL hj hS hk hd
         have p1:act.eval (.tmp 5)=jj (some ⟨B,0,none⟩):=hk 5 jc;clear hk hd hj;refine zao rfl ?_;exact zba (jj (some ⟨B,2,none⟩)) (by generalize act.eval=ρ at *;simp[go_sem,p1]) rfl .refl (hS.same 1 ja)
        ·intro L act W hL hj hS hk hd
         have p1:act.eval (.tmp 62)=jj (some ⟨B,2,none⟩):=hd 1 62 jb;clear hk hd hj;refine zao rfl ?_;exact zba (jj (some ⟨B,2,none⟩)) (by generalize act.eval=ρ at *;simp[go_sem,p1]) rfl .refl (hS.same 2 ja)
        ·intro L act W hL hj hS hk hd
         have e10:L 15=false:=hj 15 jb;have p1:act.eval (.tmp 63)=jj (some ⟨B,2,none⟩):=hd 2 63 jb;have c0:W.cell? ⟨B,2,none⟩=some (jf sa sn sc):=by
          have:=hS.2.2.2.1 e10;rw[hst] at this;exact this.cell rfl
         clear hk hd hj;refine zao rfl ?_;exact zba (jf sa sn sc) (by generalize act.eval=ρ at *;simp[go_sem,p1,c0]) rfl .refl (hS.same 3 ja)
        ·intro L act W hL hj hS hk hd
         have e10:L 15=false:=hj 15 jb;obtain⟨B,p1,hB⟩:=hd 0 61 jb;have p2:act.eval (.tmp 64)=jf sa sn sc:=hd 3 64 jb;rw[p1] at hB;clear hk hd hj;refine zao rfl ?_;have hown:=hS.2.2.1.own HLO.out HO.out HNE.out;obtain⟨a',c',w',hr,h1,h2⟩:=zjf (P:=qab) W lo 130 130 173 ie _ 3 32 Tryz.underlying130 hie hze0 hze1 hze2 rfl B hB sa sn sc cs hln (CellsAt.of_own hown).src hc1 (by unfold maxLen;omega) U hS.2.1;exact zeb (.tmp 61) (.tmp 64) 130 rfl p1 p2 hr ⟨a',c',rfl,h1⟩ (.of_grown h2) (hS.next 4 ja e10 ((zb1 h2).mono hS.2.1) hn0 hX3 hBk)
        ·intro L act W hL hj hS hk hd
         have p1:act.eval (.tmp 6)=jj (some ⟨wc.heap.size,0,none⟩):=hk 6 jc;clear hk hd hj;refine zao rfl ?_;exact zba (jj (some ⟨wc.heap.size,2,none⟩)) (by generalize act.eval=ρ at *;simp[go_sem,p1]) rfl .refl (hS.same 5 ja)
        ·intro L act W hL hj hS hk hd
         have p1:act.eval (.tmp 66)=jj (some ⟨wc.heap.size,2,none⟩):=hd 5 66 jb;have c0:W.cell? ⟨wc.heap.size,2,none⟩=some (jh s9):=(hS.2.2.1.bl HLO.out HK4.out hKX).cell rfl;clear hk hd hj;refine zao rfl ?_;exact zba (jh s9) (by generalize act.eval=ρ at *;simp[go_sem,p1,c0]) rfl .refl (hS.same 6 ja)
        ·intro L act W hL hj hS hk hd
         have p1:act.eval (.tmp 6)=jj (some ⟨wc.heap.size,0,none⟩):=hk 6 jc;clear hk hd hj;refine zao rfl ?_;exact zba (jj (some ⟨wc.heap.size,1,none⟩)) (by generalize act.eval=ρ at *;simp[go_sem,p1]) rfl .refl (hS.same 7 ja)
        ·intro L act W hL hj hS hk hd
         have p1:act.eval (.tmp 68)=jj (some ⟨wc.heap.size,1,none⟩):=hd 7 68 jb;have c0:W.cell? ⟨wc.heap.size,1,none⟩=some (je jd (p9:Int)):=(hS.2.2.1.bl HLO.out HK4.out hKX).cell rfl;clear hk hd hj;refine zao rfl ?_;exact zba (je jd (p9:Int)) (by generalize act.eval=ρ at *;simp[go_sem,p1,c0]) rfl .refl (hS.same 8 ja)
        ·intro L act W hL hj hS hk hd
         have p1:act.eval (.tmp 7)=je jd k9:=hk 7 jc;clear hk hd hj;refine zao rfl ?_;exact zba (je jd k9) (by generalize act.eval=ρ at *;simp[go_sem,p1]) rfl .refl (hS.same 9 ja)
        ·intro L act W hL hj hS hk hd
         have q6:act.eval (.tmp 67)=jh s9:=hd 6 67 jb;have q8:act.eval (.tmp 69)=je jd (p9:Int):=hd 8 69 jb;have q9:act.eval (.tmp 70)=je jd k9:=hd 9 70 jb;clear hk hd hj;refine zao rfl ?_;exact zba (.agg #[jh s9,je jd (p9:Int),je jd k9]) (by generalize act.eval=ρ at *;simp[go_sem,q6,q8,q9]) rfl .refl (hS.same 10 ja)
        ·intro L act W hL hj hS hk hd
         have e10:L 15=false:=hj 15 jb;have p1:act.eval (.tmp 71)=.agg #[jh s9,je jd (p9:Int),je jd k9]:=hd 10 71 jb;clear hk hd hj;refine zao rfl ?_;have hb:=(zaa W (.cells #[jh s9,je jd (p9:Int),je jd k9] 173)).mono hS.2.1;exact zec (jf (some ⟨W.heap.size,0,none⟩) 1 1) (w':=W.alloc (.cells #[jh s9,je jd (p9:Int),je jd k9] 173)) (by generalize act.eval=ρ at *;simp[go_sem,p1]) ⟨W.heap.size,rfl,⟨hell,.inr ⟨W.heap.size,1,_,rfl,hS.2.1,heap_alloc_new W _,qac _,by unfold maxLen;omega,rfl,by rw[hel];rfl⟩⟩⟩ (.of_grown (qdu W _ _)) (hS.next 11 ja e10 hb hn0 hX3 hBk)
        ·intro L act W hL hj hS hk hd
         have e10:L 15=false:=hj 15 jb;obtain⟨a4,c4,p1,h4⟩:=hd 4 65 jb;obtain⟨E,p2,hE⟩:=hd 11 72 jb;rw[p1] at h4;rw[p2] at hE;clear hk hd hj;refine zao rfl ?_;obtain⟨a',c',w',hr,h1,h2,h3⟩:=zhg (P:=qab) W lo 130 130 173 ie _ 3 32 Tryz.underlying130 hie hze0 hze1 hze2 rfl a4 sn c4 cs h4 E 1 elem hE (by rw[hel];simp[Value.oneCell']) (by unfold maxLen;omega) U hS.2.1;exact zeb (.tmp 65) (.tmp 72) 130 rfl p1 p2 hr ⟨a',c',rfl,h1⟩ h2 (hS.next 12 ja e10 h3 hn0 hX3 hBk)
        ·intro L act W hL hj hS hk hd
         have p1:act.eval (.tmp 5)=jj (some ⟨B,0,none⟩):=hk 5 jc;clear hk hd hj;refine zao rfl ?_;exact zba (jj (some ⟨B,2,none⟩)) (by generalize act.eval=ρ at *;simp[go_sem,p1]) rfl .refl (hS.same 13 ja)
        ·intro L act W hL hj hS hk hd
         have p1:act.eval (.tmp 74)=jj (some ⟨B,2,none⟩):=hd 13 74 jb;clear hk hd hj;refine zao rfl ?_;exact zba (jj (some ⟨B,2,none⟩)) (by generalize act.eval=ρ at *;simp[go_sem,p1]) rfl .refl (hS.same 14 ja)
        ·intro L act W hL hj hS hk hd
         have p1:act.eval (.tmp 75)=jj (some ⟨B,2,none⟩):=hd 14 75 jb;obtain⟨a7,c7,p2,h7⟩:=hd 12 73 jb;rw[p2] at h7;clear hk hd hj;refine zao rfl ?_;have hXW:=hS.2.2.2.1 hL;have hX5:=hXW.put (i:=2) (jf a7 (sn+1) c7);have hrow:(W.setCell ⟨B,2,none⟩ (jf a7 (sn+1) c7)).ownsRow lo 173 3 (jf a7 (sn+1) c7) (sn+1) (cs++elem):=zaw h7 hX3 _ _;refine zoz (w':=W.setCell ⟨B,2,none⟩ (jf a7 (sn+1) c7)) ?_ trivial (.low hX3 _) ⟨hS.1.setCell (p:=⟨B,2,none⟩) hX0 _,by simpa using hS.2.1,hS.2.2.1.put _ _,fun h=>by simp at h,fun _=>⟨a7,c7,?_,hrow⟩⟩
         ·rw[hst] at hXW
          have c3:W.cell? ⟨B,2,none⟩=some (jf sa sn sc):=hXW.cell rfl;have cf:=hXW.free;clear hS hX5 hrow;generalize act.eval=ρ at *;simp[go_sem,p1,p2,c3,cf]
         ·rw[hst] at hX5 ⊢
          exact hX5
       case done=>
        intro vals w3 hv hS;obtain⟨L2,hL2,hS⟩:=hS;obtain⟨a7,c7,hX7,h7⟩:=hS.2.2.2.2 (hL2 15 jc);rw[hst] at hX7;have hb3:=hS.1;have hFr:=hS.2.2.1;clear hS hv hL2 hBk;have hfile:=hFr.bl hlo HP9.out.2.1 U;rw[hel,<-HCS.out,<-HS9.out] at h7;have hR:=fun(v:World) (e:v=w3)=>ParR.rule (N:=N) (m:=m) (F:=F) (O:=O) (tx:=t.text) (p:=p9) (x:=⟨la8,lc8,i8,sa,rs.length,sc,na8,nn8,nc8,ca8,cn8,cc8,bad8,dp8⟩) (a7:=a7) (c7:=c7) (w:=w) HP9.out.1 hFr hlo HX9.out ⟨by rw[HSN.out];exact hX7,hfile,hb3,hwB⟩ (by rw[HSN.out];exact za2 h7 (by rw[HRB.out];exact hn0)) (by have:=HO9.out;rw[HP9'.out] at this;exact this) HFit9.out
        have HR9:=qaa (hR w3 rfl);clear hX7 h7 hb3 hFr hfile hR hst hel hell hc1 hln HO HNE HK4 HP9 HX9 hXB hWB;simp only[fill,if_true,Act.put,List.setIfInBounds_toArray,List.set_cons_zero,List.set_cons_succ,qbc,Nat.reduceAdd];go_wp2
        go_roundg m
        case measure=>exact qas m
        case rel=>exact HR9.out
      ·have ek2:(kI u.kind != 2)=true:=zah (kI_ne hk2)
       obtain⟨kk,hkk⟩:∃y,kI u.kind=y:=⟨_,rfl⟩;rw[hkk] at hk ek2;have HKD:=qaa hk;have hO9:O=.bad (u::us) false:=by
        have:=HOO.out
        conv at this=>lhs;unfold defsL
        have hdef:defL true F (t::u::us) g=.bad (u::us) false:=by
         unfold defL;rw[if_pos (show kd (t::u::us)=1 from hk1),za5,PO.bind_ok];exact if_neg hk2
        rw[hdef] at this;exact this.symm
       have hw:=fun(W:World) (hb:Below W5.heap.size W5 W)=>zdu (some ⟨b,0,none⟩) lc2 ((n':Int)+1) ra2 rs.length rc2 na2 nn2 nc2 ca2 cn2 cc2 (-1) false (n'+1) U HN1.out (qdx _ _) (HF5.out.below hb) (HR5.out.below hb)
       have HW:=qaa hw;have HO9:=qaa hO9;clear hk hkk hO9 hw hk2
       go_upto_region 13 with(first
        |(go_at_call 105;(with_reducible refine HKD.out.mono ?_);rintro e w6 ⟨rfl,hb⟩;have hP6:=HP5.out.below hb;clear x0 x1 x2 x3 x4 x5 x6 x7 xf xl;obtain⟨⟨x0,x1,x2,x3,x4,x5,x6,x7⟩,xf,xl⟩:=zad hP6.1;have HP6:=qaa hP6;have HB6:=qaa hb;clear hP6 hb)
        |(go_at_call 106;(with_reducible refine(HW.out _ HB6.out).mono ?_);rintro e w7 ⟨la7,lc7,i7,ra7,rn7,rc7,na7,nn7,nc7,ca7,cn7,cc7,bad7,dp7,rfl,hb7,hq7⟩;have hP7:=HP6.out.below hb7;clear x0 x1 x2 x3 x4 x5 x6 x7 xf xl;obtain⟨⟨x0,x1,x2,x3,x4,x5,x6,x7⟩,xf,xl⟩:=zad hP7.1;have HP7:=qaa hP7;have HQ7:=qaa hq7;clear hP7 hb7 hq7))
       have hP8:=HP7.out.st8 ⟨la7,lc7,i7,ra7,rn7,rc7,na7,nn7,nc7,ca7,cn7,cc7,bad7,dp7⟩;have hQ8:=RBad.st8' HQ7.out HP7.out.1 ⟨la7,lc7,i7,ra7,rn7,rc7,na7,nn7,nc7,ca7,cn7,cc7,bad7,dp7⟩;obtain⟨W8,hW8⟩:∃W8,st8 w7 B R ⟨la7,lc7,i7,ra7,rn7,rc7,na7,nn7,nc7,ca7,cn7,cc7,bad7,dp7⟩=W8:=⟨_,rfl⟩;rw[hW8] at hP8 hQ8;unfold st8 at hW8;dsimp only at hW8;rw[hW8];clear x0 x1 x2 x3 x4 x5 x6 x7 xf xl hW8;obtain⟨⟨x0,x1,x2,x3,x4,x5,x6,x7⟩,xf,xl⟩:=zad hP8.1;have hfin:=(zhj la7 lc7 i7 ra7 rn7 rc7 na7 nn7 nc7 ca7 cn7 cc7 bad7 dp7 hQ8).mono fun e w' h=>zil (w:=w) (O:=O) (by
        rw[HO9.out];rw[HRB.out] at h;exact h) hP8.2.2.1 hP8.2.1
       have HFIN:=qaa hfin;clear hP8 hQ8 hfin
       go_wp2_with (first
        |(go_at_call 108;(with_reducible refine HFIN.out.mono ?_);rintro e w9 ⟨fa,fn,fc,ga,gn,gc,ha,hn9,hc,co,at9,rfl,hB9,hF9⟩;unfold zeroF at hB9;have o0:w9.cell? ⟨w.heap.size,0,none⟩=some (jf none 0 0):=hB9.cell rfl;have o1:w9.cell? ⟨w.heap.size,1,none⟩=some (jf none 0 0):=hB9.cell rfl;have o2:w9.cell? ⟨w.heap.size,2,none⟩=some (jf none 0 0):=hB9.cell rfl;have of:=hB9.free;have ol:=hB9.lt;have HF9:=qaa hF9;clear hB9 hF9 x0 x1 x2 x3 x4 x5 x6 x7 xf xl))
       have k0:(((w9.setCell ⟨w.heap.size,0,none⟩ (jf fa fn fc)).setCell ⟨w.heap.size,1,none⟩ (jf ga gn gc)).setCell ⟨w.heap.size,2,none⟩ (jf ha hn9 hc)).cell? ⟨w.heap.size,0,none⟩=some (jf fa fn fc):=by rw[cso ja,cso ja];exact css o0
       have k1:(((w9.setCell ⟨w.heap.size,0,none⟩ (jf fa fn fc)).setCell ⟨w.heap.size,1,none⟩ (jf ga gn gc)).setCell ⟨w.heap.size,2,none⟩ (jf ha hn9 hc)).cell? ⟨w.heap.size,1,none⟩=some (jf ga gn gc):=by rw[cso ja];exact css (by rw[cso ja];exact o1)
       have k2:(((w9.setCell ⟨w.heap.size,0,none⟩ (jf fa fn fc)).setCell ⟨w.heap.size,1,none⟩ (jf ga gn gc)).setCell ⟨w.heap.size,2,none⟩ (jf ha hn9 hc)).cell? ⟨w.heap.size,2,none⟩=some (jf ha hn9 hc):=css (by rw[cso ja,cso ja];exact o2);clear o0 o1 o2 of;refine bodyPost_ret (v:=jk #[.agg #[jf fa fn fc,jf ga gn gc,jf ha hn9 hc],je jd co,je jd at9]) (by simp[results,qf2,go_sem,k0,k1,k2]) rfl ?_;exact HF9.out _ _ _
     ·have ek1:(kI t.kind != 1)=true:=zah (kI_ne hk1)
      have hO9:O=.bad (t::tl) false:=by
       rw[<-HOO.out];exact zif _ (show kd (t::tl)≠1 from hk1) _ _
      have hr4:=HS4.out.rrow;have hw:=fun(W:World) (hb:Below W4.heap.size W4 W)=>zdu (some ⟨b,0,none⟩) lc2 (n':Int) ra2 rs.length rc2 na2 nn2 nc2 ca2 cn2 cc2 (-1) false n' rfl hnx (qdx _ _) (HF4.out.below hb) (hr4.below hb)
      obtain⟨kk,hkk⟩:∃y,kI t.kind=y:=⟨_,rfl⟩;rw[hkk] at ek1 q0;have HW:=qaa (hw W4 (Below.refl _ _));have HO9:=qaa hO9;clear hkk hO9 hw hr4 hnx hk1
      go_upto_region 13 with(go_at_call 106;(with_reducible refine HW.out.mono ?_);rintro e w7 ⟨la7,lc7,i7,ra7,rn7,rc7,na7,nn7,nc7,ca7,cn7,cc7,bad7,dp7,rfl,hb7,hq7⟩;have hP7:=HP4.out.below hb7;clear x0 x1 x2 x3 x4 x5 x6 x7 xf xl;obtain⟨⟨x0,x1,x2,x3,x4,x5,x6,x7⟩,xf,xl⟩:=zad hP7.1;have HP7:=qaa hP7;have HQ7:=qaa hq7;clear hP7 hb7 hq7)
      have hP8:=HP7.out.st8 ⟨la7,lc7,i7,ra7,rn7,rc7,na7,nn7,nc7,ca7,cn7,cc7,bad7,dp7⟩;have hQ8:=RBad.st8' HQ7.out HP7.out.1 ⟨la7,lc7,i7,ra7,rn7,rc7,na7,nn7,nc7,ca7,cn7,cc7,bad7,dp7⟩;obtain⟨W8,hW8⟩:∃W8,st8 w7 B R ⟨la7,lc7,i7,ra7,rn7,rc7,na7,nn7,nc7,ca7,cn7,cc7,bad7,dp7⟩=W8:=⟨_,rfl⟩;rw[hW8] at hP8 hQ8;unfold st8 at hW8;dsimp only at hW8;rw[hW8];clear x0 x1 x2 x3 x4 x5 x6 x7 xf xl hW8;obtain⟨⟨x0,x1,x2,x3,x4,x5,x6,x7⟩,xf,xl⟩:=zad hP8.1;have hfin:=(zhj la7 lc7 i7 ra7 rn7 rc7 na7 nn7 nc7 ca7 cn7 cc7 bad7 dp7 hQ8).mono fun e w' h=>zil (w:=w) (O:=O) (by
       rw[HO9.out];rw[HRB.out] at h;exact h) hP8.2.2.1 hP8.2.1
      have HFIN:=qaa hfin;clear hP8 hQ8 hfin
      go_wp2_with (first
       |(go_at_call 108;(with_reducible refine HFIN.out.mono ?_);rintro e w9 ⟨fa,fn,fc,ga,gn,gc,ha,hn9,hc,co,at9,rfl,hB9,hF9⟩;unfold zeroF at hB9;have o0:w9.cell? ⟨w.heap.size,0,none⟩=some (jf none 0 0):=hB9.cell rfl;have o1:w9.cell? ⟨w.heap.size,1,none⟩=some (jf none 0 0):=hB9.cell rfl;have o2:w9.cell? ⟨w.heap.size,2,none⟩=some (jf none 0 0):=hB9.cell rfl;have of:=hB9.free;have ol:=hB9.lt;have HF9:=qaa hF9;clear hB9 hF9 x0 x1 x2 x3 x4 x5 x6 x7 xf xl))
      have k0:(((w9.setCell ⟨w.heap.size,0,none⟩ (jf fa fn fc)).setCell ⟨w.heap.size,1,none⟩ (jf ga gn gc)).setCell ⟨w.heap.size,2,none⟩ (jf ha hn9 hc)).cell? ⟨w.heap.size,0,none⟩=some (jf fa fn fc):=by rw[cso ja,cso ja];exact css o0
      have k1:(((w9.setCell ⟨w.heap.size,0,none⟩ (jf fa fn fc)).setCell ⟨w.heap.size,1,none⟩ (jf ga gn gc)).setCell ⟨w.heap.size,2,none⟩ (jf ha hn9 hc)).cell? ⟨w.heap.size,1,none⟩=some (jf ga gn gc):=by rw[cso ja];exact css (by rw[cso ja];exact o1)
      have k2:(((w9.setCell ⟨w.heap.size,0,none⟩ (jf fa fn fc)).setCell ⟨w.heap.size,1,none⟩ (jf ga gn gc)).setCell ⟨w.heap.size,2,none⟩ (jf ha hn9 hc)).cell? ⟨w.heap.size,2,none⟩=some (jf ha hn9 hc):=css (by rw[cso ja,cso ja];exact o2);clear o0 o1 o2 of;refine bodyPost_ret (v:=jk #[.agg #[jf fa fn fc,jf ga gn gc,jf ha hn9 hc],je jd co,je jd at9]) (by simp[results,qf2,go_sem,k0,k1,k2]) rfl ?_;exact HF9.out _ _ _
  ·obtain⟨m5,hm5,-⟩:=hBad.2.2.1
   have hm5:bad2=(m5:Int):=hm5;subst hm5;have kneg:¬(m5:Int)<0:=U
   have hfin:=(zhj la2 lc2 i2 ra2 rn2 rc2 na2 nn2 nc2 ca2 cn2 cc2 (m5:Int) dp2 hBad).mono fun e w' h=>zil (w:=w) (O:=O) (by
    rw[hO];rw[HRB.out] at h;exact h) hP.2.2.1 hP.2.1
   have HFIN:=qaa hfin;clear hX hP hBad hO hfin
   go_wp2_with (first
    |(go_at_call 108;(with_reducible refine HFIN.out.mono ?_);rintro e w9 ⟨fa,fn,fc,ga,gn,gc,ha,hn9,hc,co,at9,rfl,hB9,hF9⟩;unfold zeroF at hB9;have o0:w9.cell? ⟨w.heap.size,0,none⟩=some (jf none 0 0):=hB9.cell rfl;have o1:w9.cell? ⟨w.heap.size,1,none⟩=some (jf none 0 0):=hB9.cell rfl;have o2:w9.cell? ⟨w.heap.size,2,none⟩=some (jf none 0 0):=hB9.cell rfl;have of:=hB9.free;have ol:=hB9.lt;have HF9:=qaa hF9;clear hB9 hF9 x0 x1 x2 x3 x4 x5 x6 x7 xf xl))
   have k0:(((w9.setCell ⟨w.heap.size,0,none⟩ (jf fa fn fc)).setCell ⟨w.heap.size,1,none⟩ (jf ga gn gc)).setCell ⟨w.heap.size,2,none⟩ (jf ha hn9 hc)).cell? ⟨w.heap.size,0,none⟩=some (jf fa fn fc):=by rw[cso ja,cso ja];exact css o0
   have k1:(((w9.setCell ⟨w.heap.size,0,none⟩ (jf fa fn fc)).setCell ⟨w.heap.size,1,none⟩ (jf ga gn gc)).setCell ⟨w.heap.size,2,none⟩ (jf ha hn9 hc)).cell? ⟨w.heap.size,1,none⟩=some (jf ga gn gc):=by rw[cso ja];exact css (by rw[cso ja];exact o1)
   have k2:(((w9.setCell ⟨w.heap.size,0,none⟩ (jf fa fn fc)).setCell ⟨w.heap.size,1,none⟩ (jf ga gn gc)).setCell ⟨w.heap.size,2,none⟩ (jf ha hn9 hc)).cell? ⟨w.heap.size,2,none⟩=some (jf ha hn9 hc):=css (by rw[cso ja,cso ja];exact o2);clear o0 o1 o2 of;refine bodyPost_ret (v:=jk #[.agg #[jf fa fn fc,jf ga gn gc,jf ha hn9 hc],je jd co,je jd at9]) (by simp[results,qf2,go_sem,k0,k1,k2]) rfl ?_;exact HF9.out _ _ _
end
section
open Go.RowKit
end
