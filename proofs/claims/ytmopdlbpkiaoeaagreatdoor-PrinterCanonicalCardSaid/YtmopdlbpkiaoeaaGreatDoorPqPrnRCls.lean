/- The reference's Class: the text of a set. -/
import Derived.Test.YtmopdlbpkiaoeaaGreatDoorPqEF
import Derived.Test.YtmopdlbpkiaoeaaGreatDoorPqPM
set_option maxRecDepth 100000
set_option maxHeartbeats 8000000
open Go.IntKind renaming u64->jg
open Go.Value renaming int->je, slice->jf, string->jh
namespace Go.Proofs.YtmopdlbpkiaoeaaGreatDoor
open _root_.ByteArray renaming size_append->qe2
open Go.IntWalk renaming i64_in->qaq
open Go.Lib renaming hid->qaa
open Go.Proofs.Tryz renaming prog->qab
open List renaming length_map->qaw, mem_of_getElem?->qan
open Nat renaming le_refl->qac
section
open Go.RowKit
theorem yaf3 (f:Nat->Bool)(w:World):Calls qab 45 #[.agg #[je jg (setW f 0),je jg (setW f 1),je jg (setW f 2),je jg (setW f 3)]] w fun e w'=>∃a cap,e=.returned (jf a (memb f 256).length cap)/\RowAt w' (jf a (memb f 256).length cap) (u8s (memb f 256))/\Below w.heap.size w w':=by
 refine(yafz f w).mono ?_;rintro e w' ⟨v,rfl,hr,hb⟩;have h:=RowAt.of_owns hr (by unfold u8s;rw[qaw]);have h':=h;obtain⟨a,cap,rfl,-⟩:=h';have e:(u8s (memb f 256)).length=(memb f 256).length:=by unfold u8s;rw[qaw]
 rw[e] at h ⊢;exact⟨a,cap,rfl,h,hb⟩
theorem yady (c:Nat)(w:World)(h1:c<256) :
  Calls qab 48 #[je .u8 (c:Int),.bool true] w fun e w'=>e=.returned (jh (strOf (formL c true)))/\Below w.heap.size w w':=yado (c:Int) true w U U
theorem PairsAt.get {w:World}{b:Option Addr}{m c:Nat}{rs:List (Nat × Nat)}(h:PairsAt w (jf b m c) rs){k:Nat}{x:Nat × Nat}(hx:rs[k]?=some x):∃g,b=some ⟨g,0,none⟩/\w.cell? ⟨g,k*2,none⟩=some (je .u8 (x.1:Int))/\w.cell? ⟨g,k*2+1,none⟩=some (je .u8 (x.2:Int)):=by
 obtain⟨a,cap,hv,hp⟩:=h;injection hv with h1 h2 h3;subst h1;rcases hp with hp|⟨g,rfl,hc⟩
 ·rw[hp] at hx;cases hx
 ·exact⟨g,rfl,hc k x hx⟩
theorem yabi (f:Nat->Bool)(w:World):Calls qab 20 #[.agg #[je jg (setW f 0),je jg (setW f 1),je jg (setW f 2),je jg (setW f 3)]] w fun e w'=>e=.returned (jh (strOf (clsX f)))/\Below w.heap.size w w':=by
 have HBY:=qaa fun(W:World)=>yaf3 f W
 have HRU:=qaa fun(W:World)=>yagv f W
 have hlt:=yabo f 256;have hrl:=yaab f 256;have hrm:=fun x hx=>yabp f 256 (qac _) x hx
 have hro:=(z9n f 0 256 (qac _)).1;obtain⟨n,hn⟩:∃n,(memb f 256).length=n:=⟨_,rfl⟩;obtain⟨m,hm⟩:∃m,(z85 f 256).length=m:=⟨_,rfl⟩;rw[hn] at HBY hlt;rw[hm] at HRU hrl;have HN:=qaa hn;have HM:=qaa hm;have HRM:=qaa hrm;have HRO:=qaa hro;have HB0:=qaa (zaa w (.cells #[je jg (setW f 0),je jg (setW f 1),je jg (setW f 2),je jg (setW f 3)] 41));have HS0:=qaa (Bl.new w 41 #[je jg (setW f 0),je jg (setW f 1),je jg (setW f 2),je jg (setW f 3)]);clear hn hm hrm hro;by_cases h256:n=256
 ·subst h256
  clear HRU;go_enter Tryz.func20,Tryz.ntmps20
  go_wp2_with (go_at_call 45;(with_reducible refine(HBY.out _).mono ?_);rintro e w1 ⟨a,cap,rfl,-,hb⟩;have HB1:=qaa (HB0.out.trans (hb.mono HB0.out.size));clear hb)
  go_ret;refine⟨?_,HB1.out⟩;have e:clsX f=[46]:=by unfold clsX;rw[if_pos HN.out]
  rw[e];rfl
 by_cases h1:n=1
 ·subst h1
  clear HRU;go_enter Tryz.func20,Tryz.ntmps20
  go_wp2_with (first
   |(go_at_call 45;(with_reducible refine(HBY.out _).mono ?_);rintro e w1 ⟨a,cap,rfl,hr,hb⟩;have HR:=qaa hr;have HB1:=qaa (HB0.out.trans (hb.mono HB0.out.size));clear hb hr)
   |(go_at_call 46;(with_reducible refine(yadp (memb f 256) _ _ HR.out (fun x hx=>(z9v.1 hx).1) (by rw[HN.out];decide)).mono ?_);rintro e w2 ⟨rfl,hb⟩;have HB2:=qaa (HB1.out.trans (hb.mono HB1.out.size));clear hb))
  go_ret;refine⟨?_,HB2.out⟩;have e:clsX f=litL (memb f 256):=by
   unfold clsX;rw[if_neg (by rw[HN.out];decide),if_pos HN.out];rfl
  rw[e];rfl
 have q1:((n:Int) == 256)=false:=by rw[beq_eq_false_iff_ne];omega
 have q2:((n:Int) == 1)=false:=by rw[beq_eq_false_iff_ne];omega
 have HNE:=qaa (And.intro h256 h1);clear h256 h1;go_enter Tryz.func20,Tryz.ntmps20
 go_upto_region 7 with(go_at_call 45;(with_reducible refine(HBY.out _).mono ?_);rintro e w1 ⟨a,cap,rfl,-,hb⟩;have HS1:=qaa (HS0.out.below hb);have HB1:=qaa (HB0.out.trans (hb.mono HB0.out.size));clear hb)
 have s0:=HS1.out.cell (o:=0) (u:=je jg (setW f 0)) rfl;have s1:=HS1.out.cell (o:=1) (u:=je jg (setW f 1)) rfl;have s2:=HS1.out.cell (o:=2) (u:=je jg (setW f 2)) rfl;have s3:=HS1.out.cell (o:=3) (u:=je jg (setW f 3)) rfl;have sl:=HS1.out.lt;clear HBY
 go_upto_region 8 with(go_at_call 47;(with_reducible refine(HRU.out _).mono ?_);rintro e w2 ⟨b,bcap,rfl,hr,hb⟩;have HR:=qaa hr;have HB2:=qaa (HB1.out.trans (hb.mono HB1.out.size));clear hb hr s0 s1 s2 s3 sl)
 go_wp2
 go_loopw [4,6] (fun o c wr=>∃(k:Nat) (s:ByteArray),k<=m/\c=je .i64 k/\o=jh s/\s=strOf (91::((z85 f 256).take k).flatMap runX)/\Below w2.heap.size w2 wr) (fun _ c _=>m-(intOf c).toNat)
 case atStart=>exact⟨0,strOf [91],Nat.zero_le _,rfl,rfl,rfl,Below.refl _ _⟩
 case round=>
  obtain⟨k,s,hk,rfl,rfl,hs,hb⟩:=hrel;have hz:=hb.size;have hsz:s.size<=2400:=by
   have h1:=yabr ((z85 f 256).take k);rw[List.length_take] at h1;rw[hs,zb0,List.length_cons];omega
  have HS:=qaa hs;have HBW:=qaa hb;clear hs;by_cases hkm:k<m
  ·obtain⟨x,hx⟩:∃x,(z85 f 256)[k]?=some x:=⟨_,List.getElem?_eq_getElem (by rw[HM.out];exact hkm)⟩
   have hx1:=HRM.out x (qan hx);have hx2:=HRO.out x (qan hx);obtain⟨g,rfl,c0,c1⟩:=HR.out.get hx;have hgl:=zai c0;have d0:wr.cell? ⟨g,k*2,none⟩=some (je .u8 (x.1:Int)):=by rw[(bcell hb).1 g _ hgl];exact c0
   have d1:wr.cell? ⟨g,k*2+1,none⟩=some (je .u8 (x.2:Int)):=by rw[(bcell hb).1 g _ hgl];exact c1
   obtain⟨lo,hlo⟩:∃lo,x.1=lo:=⟨_,rfl⟩;obtain⟨hi,hhi⟩:∃hi,x.2=hi:=⟨_,rfl⟩;have HT:=qaa (za3 _ k _ hx);have HLO:=qaa hlo;have HHI:=qaa hhi;rw[hlo,hhi] at hx1 hx2;rw[hlo] at d0;rw[hhi] at d1;obtain⟨nn,hnn⟩:∃nn,hi-lo+1=nn:=⟨_,rfl⟩;have HNN:=qaa hnn;have hn1:1<=nn:=U
   have v1:IntKind.i64.wrap ((hi:Int)-(lo:Int))=(hi:Int)-(lo:Int):=qaq _ U;have v2:IntKind.i64.wrap ((hi:Int)-(lo:Int)+1)=(nn:Int):=by
    rw[show(hi:Int)-(lo:Int)+1=(nn:Int) by omega];exact qaq _ U
   have k1:(k:Int)<(m:Int):=U
   have hf1:=z9a lo true;have hf2:=z9a hi true;have t1:∀w,(Op.stringOp .add s (strOf (formL lo true))).run qab w=.ok (jh (s++strOf (formL lo true))) w:=fun w=>run_string_add_sum w _ _ (by rw[zb0];omega)
   have t2:∀w,(Op.stringOp .add (s++strOf (formL lo true)) ⟨#[45]⟩).run qab w=.ok (jh (s++strOf (formL lo true)++⟨#[45]⟩)) w:=fun w=>run_string_add_sum w _ _ (by rw[qe2,zb0];have e:(⟨#[45]⟩:ByteArray).size=1:=rfl;omega)
   have t3:∀w,(Op.stringOp .add (s++strOf (formL lo true)++⟨#[45]⟩) (strOf (formL hi true))).run qab w=.ok (jh (s++strOf (formL lo true)++⟨#[45]⟩++strOf (formL hi true))) w:=fun w=>run_string_add_sum w _ _ (by rw[qe2,qe2,zb0,zb0];have e:(⟨#[45]⟩:ByteArray).size=1:=rfl;omega)
   have t4:∀w,(Op.stringOp .add (s++strOf (formL lo true)) (strOf (formL hi true))).run qab w=.ok (jh (s++strOf (formL lo true)++strOf (formL hi true))) w:=fun w=>run_string_add_sum w _ _ (by rw[qe2,zb0,zb0];omega)
   have hl256:lo<256:=hx1.1;have hh256:hi<256:=hx1.2;have hend:∀r:List Nat,runX x=r->∀z:ByteArray,z=s++strOf r->z=strOf (91::((z85 f 256).take (k+1)).flatMap runX):=fun r hr z hz=>by
    rw[hz,HT.out,List.flatMap_append,List.flatMap_cons,List.flatMap_nil,List.append_nil,hr,HS.out,<-zmq];rfl
   have HE:=qaa hend;clear hx c0 c1 hgl hlo hhi hnn hend hx1 hf1 hf2 hx2;rcases(by omega:nn=1∨nn=2∨2<nn) with h|h|h
   ·have e1:¬(2:Int)<(nn:Int):=U
    have e2:¬(1:Int)<(nn:Int):=U
    have HX:Hid (runX x=formL lo true):=qaa (by unfold runX;rw[HLO.out,HHI.out,HNN.out,if_neg U,if_neg U];simp);clear h hz hb hn1;go_wp2;go_quiet (fail)
    go_wp2_with (go_at_call 48;(with_reducible refine(yady _ _ hl256).mono ?_);rintro e w3 ⟨rfl,hb⟩;have HB3:=qaa ((zak HBW.out).trans (hb.mono HBW.out.size));clear hb)
    go_roundw
    case rel=>exact⟨k+1,_,U,by go_num,rfl,HE.out _ HX.out _ rfl,HB3.out⟩
    case measure=>simp[intOf];omega
   ·have e1:¬(2:Int)<(nn:Int):=U
    have e2:(1:Int)<(nn:Int):=U
    have HX:Hid (runX x=formL lo true++formL hi true):=qaa (by unfold runX;rw[HLO.out,HHI.out,HNN.out,if_neg U,if_pos U];simp);have hgw:g<wr.heap.size:=zai d1;clear h hz hb hn1;go_wp2;go_quiet (fail)
    go_wp2_with (first|(go_at_call 48;((with_reducible refine(yady _ _ hl256).mono ?_);rintro e w3 ⟨rfl,hb⟩;have d3:w3.cell? ⟨g,k*2+1,none⟩=some (je .u8 (hi:Int)):=((bcell hb).1 g _ hgw).trans d1;have HB3:=qaa ((zak HBW.out).trans (hb.mono HBW.out.size));clear hb))|(go_at_call 48;(with_reducible refine(yady _ _ hh256).mono ?_);rintro e w4 ⟨rfl,hb⟩;have HB4:=qaa (HB3.out.trans (hb.mono HB3.out.size));clear hb))
    go_roundw
    case rel=>exact⟨k+1,_,U,by go_num,rfl,HE.out _ HX.out _ (by rw[zmq,<-ByteArray.append_assoc]),HB4.out⟩
    case measure=>simp[intOf];omega
   ·have e1:(2:Int)<(nn:Int):=U
    have e2:(1:Int)<(nn:Int):=U
    have HX:Hid (runX x=formL lo true++([45]++formL hi true)):=qaa (by unfold runX;rw[HLO.out,HHI.out,HNN.out,if_pos U,if_pos U]);have hgw:g<wr.heap.size:=zai d1;clear h hz hb hn1;go_wp2;go_quiet (fail)
    go_wp2_with (first|(go_at_call 48;(with_reducible refine(yady _ _ hl256).mono ?_);rintro e w3 ⟨rfl,hb⟩;have d3:w3.cell? ⟨g,k*2+1,none⟩=some (je .u8 (hi:Int)):=((bcell hb).1 g _ hgw).trans d1;have HB3:=qaa ((zak HBW.out).trans (hb.mono HBW.out.size));clear hb)|(go_at_call 48;(with_reducible refine(yady _ _ hh256).mono ?_);rintro e w4 ⟨rfl,hb⟩;have HB4:=qaa (HB3.out.trans (hb.mono HB3.out.size));clear hb))
    go_roundw
    case rel=>exact⟨k+1,_,U,by go_num,rfl,HE.out _ HX.out _ (by rw[zmq,zmq,<-ByteArray.append_assoc,<-ByteArray.append_assoc];rfl),HB4.out⟩
    case measure=>simp[intOf];omega
  ·obtain rfl:k=m:=U
   have k1:¬(k:Int)<(k:Int):=U
   have t1:∀w,(Op.stringOp .add s ⟨#[93]⟩).run qab w=.ok (jh (s++⟨#[93]⟩)) w:=fun w=>run_string_add_sum w _ _ (by have e:(⟨#[93]⟩:ByteArray).size=1:=rfl;omega)
   have HFIN:Hid (s++⟨#[93]⟩=strOf (clsX f)):=qaa (by
    rw[HS.out,List.take_of_length_le (by rw[HM.out];exact qac _)];have e:clsX f=(91::(z85 f 256).flatMap runX)++[93]:=by
     unfold clsX;rw[if_neg (by rw[HN.out];exact HNE.out.1),if_neg (by rw[HN.out];exact HNE.out.2)];rfl
    rw[e,zmq];rfl)
   clear hz hb;go_wp2;go_ret;exact⟨congrArg (fun s=>Ending.returned (jh s)) HFIN.out,HB2.out.trans (HBW.out.mono HB2.out.size)⟩
end
