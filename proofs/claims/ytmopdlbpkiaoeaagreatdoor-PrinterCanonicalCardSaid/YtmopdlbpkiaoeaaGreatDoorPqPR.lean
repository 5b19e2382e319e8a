/- The reference's text of a node. Written by wip/gen/prnref.py. -/
import Derived.Deep.RegionWith
import Derived.Deep.Cut
import Derived.Deep.RegionHeld3
import Derived.Test.YtmopdlbpkiaoeaaGreatDoorPqPrnRCls
set_option maxRecDepth 100000
set_option maxHeartbeats 8000000
open Go.Value renaming int->je, slice->jf, string->jh
namespace Go.Proofs.YtmopdlbpkiaoeaaGreatDoor
open Go.IntWalk renaming i64_in->qaq
open Go.Lib renaming hid->qaa
open Go.Proofs.Tryz renaming prog->qab
open Go.RowKit.Below renaming drew->qak
open List renaming getElem?_eq_getElem->qae, getElem?_eq_some_iff->qag, length_append->qad, length_singleton->qai, mem_of_getElem?->qan, nil_append->qbi, take_of_length_le->qa4
open Nat renaming add_zero->qc9, le_refl->qac
section
open Go.RowKit
theorem NodesAt.nth {w:World}{a:Option Addr}{m c:Nat}{ns:List PN}(h:NodesAt w (jf a m c) ns){i:Nat}{x:PN}(hx:ns[i]?=some x):∃b off,a=some ⟨b,off,none⟩/\NodeAt w b (off+i*7) x:=by
 obtain⟨-,a',c',hv,hp⟩:=h;injection hv with h1 h2 h3;subst h1;rcases hp with hp|⟨b,o,rfl,hc⟩
 ·rw[hp] at hx;cases hx
 ·exact⟨b,o,rfl,hc i x hx⟩
theorem RulesIn.nth {w:World}{a:Option Addr}{m c:Nat}{rs:List PR}(h:RulesIn w (jf a m c) rs){i:Nat}{x:PR}(hx:rs[i]?=some x):∃b off,a=some ⟨b,off,none⟩/\RuleAt w b (off+i*2) x:=by
 obtain⟨-,a',c',hv,hp⟩:=h;injection hv with h1 h2 h3;subst h1;rcases hp with hp|⟨b,o,rfl,hc⟩
 ·rw[hp] at hx;cases hx
 ·exact⟨b,o,rfl,hc i x hx⟩
def RTx (gv:Value)(i pl:Int)(W:World)(r:List Nat):Prop:=Calls qab 32 #[gv,je .i64 i,je .i64 pl] W fun e w'=>e=.returned (jh (strOf r))/\Below W.heap.size W w'
theorem z86 (a b:List Nat)(h:a.length+b.length<=2000000):∀w,(Op.stringOp .add (strOf a) (strOf b)).run qab w=.ok (jh (strOf (a++b))) w:=fun w=>by
 rw[zmq];exact run_string_add_sum w _ _ (by rw[zb0,zb0];omega)
theorem yacp {f:Int->List Nat}{l:List Int}{k:Nat}{x:Int}(h:l[k]?=some x):(l.take (k+1)).map f=(l.take k).map f++[f x]:=by
 rw[za3 l k x h,List.map_append];rfl
theorem yac2 {sep:List Nat}{f:Int->List Nat}{l:List Int}{k:Nat}{x:Int}(h:l[k]?=some x):joinT sep ((l.take (k+1)).map f)=joinT sep ((l.take k).map f)++((if k=0 then [] else sep)++f x):=by
 have hk:=(qag.1 h).1;rw[yacp h];by_cases h0:k=0
 ·subst h0
  rw[if_pos rfl];rfl
 ·rw[if_neg h0,yacu]
  intro e;have:=congrArg List.length e;rw[List.length_map,List.length_take,List.length_nil] at this;omega
theorem yabu {sep:List Nat}{f:Int->List Nat}(l:List Int)(k:Nat):(joinT sep ((l.take k).map f)).length<=(joinT sep (l.map f)).length:=by
 rw[List.map_take];exact yacv _ k
def altX (ns:List PN)(f:Int->List Nat)(x:Int):List Nat:=parX (decide (opAt ns x=4)) (f x)
theorem yad9 (l:List Nat):parX true l=[40]++l++[41]:=rfl
theorem yac3 (l:List Nat):parX false l=l:=rfl
theorem yame (A B:List Nat)(h:A.length+B.length<=1900000):∃S1 S2 S3,Hid (S1=strOf (parX false (A++B)))/\Hid (S3=strOf (parX true (A++B)))/\(∀w,(Op.stringOp .add (strOf A) (strOf B)).run qab w=.ok (jh S1) w)/\(∀w,(Op.stringOp .add ⟨#[40]⟩ S1).run qab w=.ok (jh S2) w)/\∀w,(Op.stringOp .add S2 ⟨#[41]⟩).run qab w=.ok (jh S3) w:=
 ⟨_,strOf ([40]++(A++B)),_,qaa rfl,qaa rfl,z86 A B U,z86 [40] (A++B) (by rw[qad,qai];omega),z86 ([40]++(A++B)) [41] (by rw[qad,qad,qai,qai];omega)⟩
theorem yamg (S:ByteArray)(J:List Nat)(hS:S=strOf J)(h:J.length<=1000000):∃S2 S3,Hid (S=strOf (parX false J))/\Hid (S3=strOf (parX true J))/\(∀w,(Op.stringOp .add ⟨#[40]⟩ S).run qab w=.ok (jh S2) w)/\∀w,(Op.stringOp .add S2 ⟨#[41]⟩).run qab w=.ok (jh S3) w:=by
 subst hS;exact⟨strOf ([40]++J),_,qaa rfl,qaa rfl,z86 [40] J (by rw[qai];omega),z86 ([40]++J) [41] (by rw[qad,qai,qai];omega)⟩
theorem yamh (rs:List PR)(ns:List PN)(ra na:Option Addr)(rn rc nn nc i:Nat)(pl:Int)(n:PN)(W:World)(hn:ns[i]?=some n)(hnn:nn=ns.length)(hN:NodesAt W (jf na nn nc) ns)(hRR:RulesIn W (jf ra rn rc) rs) :
  (n.op=0->RTx (.agg #[jf ra rn rc,jf na nn nc]) i pl W [39,39]) /\
  (n.op=1->Hid (z87 n)->RTx (.agg #[jf ra rn rc,jf na nn nc]) i pl W (cxN n)) /\
  (n.op=2->∀r:PR,Hid (rs[n.rule.toNat]?=some r)->Hid (0<=n.rule)->Hid (rn=rs.length)->RTx (.agg #[jf ra rn rc,jf na nn nc]) i pl W (bts r.name)) /\
  (n.op=3->∀(f:Int->List Nat) (p:Bool),Hid ((joinT [32] (n.kids.map f)).length<=1000000)->Hid (∀x,x ∈ n.kids->∀W2,Below W.heap.size W W2->RTx (.agg #[jf ra rn rc,jf na nn nc]) x 1 W2 (f x))->Hid (decide (1<=pl)=p)->RTx (.agg #[jf ra rn rc,jf na nn nc]) i pl W (parX p (joinT [32] (n.kids.map f)))) /\
  (n.op=4->∀(f:Int->List Nat) (p:Bool),Hid ((joinT [32,47,32] (n.kids.map (altX ns f))).length<=1000000)->Hid (∀x,x ∈ n.kids->∀W2,Below W.heap.size W W2->RTx (.agg #[jf ra rn rc,jf na nn nc]) x 0 W2 (f x))->Hid (decide (1<=pl)=p)->Hid (∀x,x ∈ n.kids->∃j:Nat,x=(j:Int)/\j<ns.length)->RTx (.agg #[jf ra rn rc,jf na nn nc]) i pl W (parX p (joinT [32,47,32] (n.kids.map (altX ns f))))) /\
  (n.op=5->∀(k0:Int) (f:Int->List Nat) (p:Bool),Hid (n.kids=[k0])->Hid ((f k0).length<=1000000)->Hid (∀W2,Below W.heap.size W W2->RTx (.agg #[jf ra rn rc,jf na nn nc]) k0 3 W2 (f k0))->Hid (decide (pl=3)=p)->RTx (.agg #[jf ra rn rc,jf na nn nc]) i pl W (parX p (f k0++[42]))) /\
  (n.op=6->∀(k0:Int) (f:Int->List Nat) (p:Bool),Hid (n.kids=[k0])->Hid ((f k0).length<=1000000)->Hid (∀W2,Below W.heap.size W W2->RTx (.agg #[jf ra rn rc,jf na nn nc]) k0 3 W2 (f k0))->Hid (decide (pl=3)=p)->RTx (.agg #[jf ra rn rc,jf na nn nc]) i pl W (parX p (f k0++[43]))) /\
  (n.op=7->∀(k0:Int) (f:Int->List Nat) (p:Bool),Hid (n.kids=[k0])->Hid ((f k0).length<=1000000)->Hid (∀W2,Below W.heap.size W W2->RTx (.agg #[jf ra rn rc,jf na nn nc]) k0 3 W2 (f k0))->Hid (decide (pl=3)=p)->RTx (.agg #[jf ra rn rc,jf na nn nc]) i pl W (parX p (f k0++[63]))) /\
  (n.op=8->∀(k0:Int) (f:Int->List Nat) (p:Bool),Hid (n.kids=[k0])->Hid ((f k0).length<=1000000)->Hid (∀W2,Below W.heap.size W W2->RTx (.agg #[jf ra rn rc,jf na nn nc]) k0 2 W2 (f k0))->Hid (decide (2<=pl)=p)->RTx (.agg #[jf ra rn rc,jf na nn nc]) i pl W (parX p ([38]++f k0))) /\
  (n.op=9->∀(k0:Int) (f:Int->List Nat) (p:Bool),Hid (n.kids=[k0])->Hid ((f k0).length<=1000000)->Hid (∀W2,Below W.heap.size W W2->RTx (.agg #[jf ra rn rc,jf na nn nc]) k0 2 W2 (f k0))->Hid (decide (2<=pl)=p)->RTx (.agg #[jf ra rn rc,jf na nn nc]) i pl W (parX p ([33]++f k0))):=by
 have HRR:=qaa hRR;have HNN:=qaa hN;obtain⟨nb,no,rfl,kv,c0,c1,c2,c3,c4,c5,c6,hK,hkl⟩:=hN.nth hn;obtain⟨ka,kc,rfl,-⟩:∃ka kc,kv=jf ka n.kids.length kc/\True:=by
  obtain⟨a,c,e,-⟩:=hK;exact⟨a,c,e,trivial⟩
 obtain⟨kn,hkn⟩:∃kn,n.kids.length=kn:=⟨_,rfl⟩;have hil:(i:Int)<(nn:Int):=by have:=(qag.1 hn).1;omega
 have hlt:=zai c0;rw[hkn] at c1 hK;have HKN:=qaa hkn;have HKK:=qaa hK;have HKL:=qaa (show kn<=9223372036854775807 from by unfold maxLen at hkl;omega);have HNL:=qaa hnn;obtain⟨opv,hov⟩:∃v,n.op=v:=⟨_,rfl⟩;rw[hov] at c0 ⊢;clear hnn hkn hkl hK hN hRR hov hn;have HG:=qaa (Bl.new W 25 #[jf ra rn rc,jf (some ⟨nb,no,none⟩) nn nc]);have hB1:=zaa W (.cells #[jf ra rn rc,jf (some ⟨nb,no,none⟩) nn nc] 25);have HB1:=qaa hB1;unfold RTx;refine⟨fun hop=>?_,fun hop HQ=>?_,fun hop r HR0 H0 HRN=>?_,fun hop f p HF HREC HP=>?_,fun hop f p HF HREC HP HKB=>?_,fun hop k0 f p HKS HF HREC HP=>?_,fun hop k0 f p HKS HF HREC HP=>?_,fun hop k0 f p HKS HF HREC HP=>?_,fun hop k0 f p HKS HF HREC HP=>?_,fun hop k0 f p HKS HF HREC HP=>?_⟩
 all_goals
  have HOP:=qaa hop;clear hop;go_enter Tryz.func32,Tryz.ntmps32
  go_upto_region 1 with fail
  obtain⟨W1,hW1⟩:∃W1,W.alloc (.cells #[jf ra rn rc,jf (some ⟨nb,no,none⟩) nn nc] 25)=W1:=⟨_,rfl⟩;rw[hW1] at HG HB1 hB1;rw[hW1];have hcc:=(bcell hB1).1;have d0:=(hcc nb (no+i*7) hlt).trans c0;have d1:=(hcc nb (no+i*7+1) hlt).trans c1;have d2:=(hcc nb (no+i*7+2) hlt).trans c2;have d3:=(hcc nb (no+i*7+3) hlt).trans c3;have d4:=(hcc nb (no+i*7+4) hlt).trans c4;have d5:=(hcc nb (no+i*7+5) hlt).trans c5;have d6:=(hcc nb (no+i*7+6) hlt).trans c6;have g0:=HG.out.cell (o:=0) (u:=jf ra rn rc) rfl;have g1:=HG.out.cell (o:=1) (u:=jf (some ⟨nb,no,none⟩) nn nc) rfl;have gl:=HG.out.lt;clear hcc c0 c1 c2 c3 c4 c5 c6 hW1
  go_upto_region 2 with fail
  have HX:=qaa (Bl.new W1 54 #[je .i64 opv,jf ka kn kc,je .i64 n.rule,je .u64 n.s0,je .u64 n.s1,je .u64 n.s2,je .u64 n.s3]);have hn2:=zaa W1 (.cells #[je .i64 opv,jf ka kn kc,je .i64 n.rule,je .u64 n.s0,je .u64 n.s1,je .u64 n.s2,je .u64 n.s3] 54);have HG2:=qaa (HG.out.below hn2);have HB2:=qaa (HB1.out.trans (hn2.mono HB1.out.size));have HKK2:=qaa ((HKK.out.kept HB1.out (qac _)).kept hn2 (qac _));have HR2:=qaa ((HRR.out.kept HB1.out (qac _)).kept hn2 (qac _));have HNN2:=qaa ((HNN.out.kept HB1.out (qac _)).kept hn2 (qac _));obtain⟨W2,hW2⟩:∃W2,W1.alloc (.cells #[je .i64 opv,jf ka kn kc,je .i64 n.rule,je .u64 n.s0,je .u64 n.s1,je .u64 n.s2,je .u64 n.s3] 54)=W2:=⟨_,rfl⟩;obtain⟨B1,hB1q⟩:∃B1,W1.heap.size=B1:=⟨_,rfl⟩;obtain⟨B0,hB0q⟩:∃B0,W.heap.size=B0:=⟨_,rfl⟩;rw[hW2] at HX HG2 HB2 HKK2 HR2 HNN2;rw[hB1q] at HX;rw[hB0q] at HG2;rw[hW2,hB1q,hB0q];clear hW2 hB1q hB0q hn2 d0 d1 d2 d3 d4 d5 d6 g0 g1 gl hB1 HB1 HG HKK HNN HRR;have hop:=HOP.out;subst hop;have x0:=HX.out.cell (o:=0) rfl;have x1:=HX.out.cell (o:=1) (u:=jf ka kn kc) rfl;have x2:=HX.out.cell (o:=2) (u:=je .i64 n.rule) rfl;have x3:=HX.out.cell (o:=3) (u:=je .u64 n.s0) rfl;have x4:=HX.out.cell (o:=4) (u:=je .u64 n.s1) rfl;have x5:=HX.out.cell (o:=5) (u:=je .u64 n.s2) rfl;have x6:=HX.out.cell (o:=6) (u:=je .u64 n.s3) rfl;have xl:=HX.out.lt;have y0:=HG2.out.cell (o:=0) (u:=jf ra rn rc) rfl;have y1:=HG2.out.cell (o:=1) (u:=jf (some ⟨nb,no,none⟩) nn nc) rfl;have yl:=HG2.out.lt
 ·go_wp2
  go_ret;exact⟨rfl,HB2.out⟩
 ·obtain⟨q0,q1,q2,q3⟩:=yaby HQ.out
  rw[q0] at x3;rw[q1] at x4;rw[q2] at x5;rw[q3] at x6;clear q0 q1 q2 q3
  go_wp2_with (go_at_call 20;(with_reducible refine(yabi (bitF n) _).mono ?_);rintro e w3 ⟨rfl,hb⟩;have HB3:=qaa (HB2.out.trans (hb.mono HB2.out.size));clear hb)
  go_ret;exact⟨rfl,HB3.out⟩
 ·obtain⟨rb,ro,rfl,r0,-⟩:=HR2.out.nth HR0.out
  obtain⟨j,hj⟩:∃j:Nat,n.rule=(j:Int):=⟨n.rule.toNat,(Int.toNat_of_nonneg H0.out).symm⟩;have hjl:(j:Int)<(rn:Int):=by have:=(qag.1 HR0.out).1;have:=HRN.out;omega
  have hjt:n.rule.toNat=j:=U
  rw[hjt] at r0;rw[hj] at x2;clear hj hjt;go_wp2;go_ret;exact⟨by rw[zt7];rfl,HB2.out⟩
 ·go_wp2
  clear x0 x1 x2 x3 x4 x5 x6 xl y0 y1 yl
  go_loopw [8,10] (fun s c wr=>∃(k:Nat) (S:ByteArray),k<=kn/\c=je .i64 k/\s=jh S/\S=strOf (joinT [32] ((n.kids.take k).map f))/\Below W2.heap.size W2 wr) (fun _ c _=>kn-(intOf c).toNat)
  case atStart=>exact⟨0,_,Nat.zero_le _,rfl,rfl,rfl,Below.refl _ _⟩
  case round=>
   obtain⟨k,S,hk,rfl,rfl,hS,hbw⟩:=hrel;have hb:=hbw;have u1:=(HX.out.below hb).cell (o:=1) (u:=jf ka kn kc) rfl;have ul:=(HX.out.below hb).lt;have v0:=(HG2.out.below hb).cell (o:=0) (u:=jf ra rn rc) rfl;have v1:=(HG2.out.below hb).cell (o:=1) (u:=jf (some ⟨nb,no,none⟩) nn nc) rfl;have vl:=(HG2.out.below hb).lt;have HBW:=qaa (HB2.out.trans (hb.mono HB2.out.size));have HBR:=qaa hb;by_cases hlt2:k<kn
   ·obtain⟨x,hx⟩:∃x,n.kids[k]?=some x:=⟨_,qae (by rw[HKN.out];exact hlt2)⟩
    obtain⟨kb,ko,rfl,ck⟩:=(HKK2.out.kept hbw (qac _)).at' hx;have hR:=HREC.out x (qan hx);unfold RTx at hR;have HR:=qaa hR;have hJ:=yabu (sep:=[32]) (f:=f) n.kids k;have hJ2:=yabu (sep:=[32]) (f:=f) n.kids (k+1);have HNX:=qaa (yac2 (sep:=[32]) (f:=f) hx);rw[HNX.out] at hJ2;have hF:=HF.out;obtain⟨J,hJq⟩:∃J,joinT [32] ((n.kids.take k).map f)=J:=⟨_,rfl⟩;rw[hJq] at hS hJ hJ2 HNX;have k2:(k:Int)<(kn:Int):=U
    have w1:IntKind.i64.wrap ((k:Int)+1)=(k:Int)+1:=qaq _ (by have:=HKL.out;omega);by_cases h0:k=0
    ·rw[if_pos h0] at HNX hJ2
     rw[qad,qad] at hJ2;have e1:¬(0:Int)<(k:Int):=U
     have s1:=z86 J (f x) U;rw[<-hS] at s1;obtain⟨S1,hS1⟩:∃S1,strOf (J++f x)=S1:=⟨_,rfl⟩;obtain⟨S0,hS0⟩:∃S0,strOf (f x)=S0:=⟨_,rfl⟩;rw[hS1,hS0] at s1;rw[hS0] at HR;have HS1:=qaa (show S1=strOf (joinT [32] ((n.kids.take (k+1)).map f)) from by rw[HNX.out,<-hS1];rfl);clear hS hJ hJ2 hJq hS1 hS0 hx hR hF h0 hb hbw;go_wp2
     go_region_with (go_at_call 32;(with_reducible refine(HR.out _ (qak HBW.out)).mono ?_);rintro e w3 ⟨rfl,hb⟩;have HB3:=qaa ((qak HBR.out).trans (hb.mono HBR.out.size));clear hb)
     all_goals
      go_wp2;go_roundw
      case rel=>first|exact⟨k+1,_,U,by go_num,rfl,HS1.out,HB3.out⟩|exact⟨k+1,_,U,by go_num,rfl,HS1.out,qak HB3.out⟩
      case measure=>simp[intOf];omega
    ·rw[if_neg h0] at HNX hJ2
     rw[qad,qad,qai] at hJ2;have e1:(0:Int)<(k:Int):=U
     have s1:=z86 J [32] (by rw[qai];omega);have s2:=z86 (J++[32]) (f x) (by rw[qad,qai];omega);rw[<-hS,show strOf [32]=⟨#[32]⟩ from rfl] at s1;obtain⟨S1,hS1⟩:∃S1,strOf (J++[32])=S1:=⟨_,rfl⟩;obtain⟨S2,hS2⟩:∃S2,strOf (J++[32]++f x)=S2:=⟨_,rfl⟩;obtain⟨S0,hS0⟩:∃S0,strOf (f x)=S0:=⟨_,rfl⟩;rw[hS1] at s1 s2;rw[hS2,hS0] at s2;rw[hS0] at HR;have HS2:=qaa (show S2=strOf (joinT [32] ((n.kids.take (k+1)).map f)) from by rw[HNX.out,<-hS2,List.append_assoc]);have HK0:=qaa h0;clear hS hJ hJ2 hJq hS1 hS2 hS0 hx hR hF h0 hb hbw;go_wp2
     go_region_with (go_at_call 32;(with_reducible refine(HR.out _ (qak HBW.out)).mono ?_);rintro e w3 ⟨rfl,hb⟩;have HB3:=qaa ((qak HBR.out).trans (hb.mono HBR.out.size));clear hb)
     all_goals
      go_wp2;go_roundw
      case rel=>first|exact⟨k+1,_,U,by go_num,rfl,HS2.out,HB3.out⟩|exact⟨k+1,_,U,by go_num,rfl,HS2.out,qak HB3.out⟩
      case measure=>simp[intOf];omega
   ·obtain rfl:k=kn:=U
    have k2:¬(k:Int)<(k:Int):=U
    rw[qa4 (by rw[HKN.out];exact qac _)] at hS;obtain⟨J,hJq⟩:∃J,joinT [32] (n.kids.map f)=J:=⟨_,rfl⟩;have hF:=HF.out;rw[hJq] at hS hF;obtain⟨S2,S3,HE1,HE3,t1,t2⟩:=yamg S J hS hF;rw[<-hJq] at HE1 HE3;clear hS hJq hF hb hbw;cases p with
    |false=>
          have q1:¬(1:Int)<=pl:=of_decide_eq_false HP.out;go_wp2;go_ret;exact⟨congrArg (fun s=>Ending.returned (jh s)) HE1.out,HBW.out⟩
    |true=>
         have q1:(1:Int)<=pl:=of_decide_eq_true HP.out;go_wp2;go_ret;exact⟨congrArg (fun s=>Ending.returned (jh s)) HE3.out,HBW.out⟩
 ·go_wp2
  clear x0 x1 x2 x3 x4 x5 x6 xl y0 y1 yl
  go_loopw [8,11] (fun s c wr=>∃(k:Nat) (S:ByteArray),k<=kn/\c=je .i64 k/\s=jh S/\S=strOf (joinT [32,47,32] ((n.kids.take k).map (altX ns f)))/\Below W2.heap.size W2 wr) (fun _ c _=>kn-(intOf c).toNat)
  case atStart=>exact⟨0,_,Nat.zero_le _,rfl,rfl,rfl,Below.refl _ _⟩
  case round=>
   obtain⟨k,S,hk,rfl,rfl,hS,hbw⟩:=hrel;have hb:=hbw;have u1:=(HX.out.below hb).cell (o:=1) (u:=jf ka kn kc) rfl;have ul:=(HX.out.below hb).lt;have v0:=(HG2.out.below hb).cell (o:=0) (u:=jf ra rn rc) rfl;have v1:=(HG2.out.below hb).cell (o:=1) (u:=jf (some ⟨nb,no,none⟩) nn nc) rfl;have vl:=(HG2.out.below hb).lt;have HBW:=qaa (HB2.out.trans (hb.mono HB2.out.size));have HBR:=qaa hb;by_cases hlt2:k<kn
   ·obtain⟨x,hx⟩:∃x,n.kids[k]?=some x:=⟨_,qae (by rw[HKN.out];exact hlt2)⟩
    obtain⟨kb,ko,rfl,ck⟩:=(HKK2.out.kept hbw (qac _)).at' hx;have hR:=HREC.out x (qan hx);unfold RTx at hR;have HR:=qaa hR;obtain⟨j,hxj,hjl⟩:=HKB.out x (qan hx);obtain⟨y,hy⟩:∃y,ns[j]?=some y:=⟨_,qae hjl⟩;obtain⟨nb',no',en,hyn⟩:=(HNN2.out.kept hbw (qac _)).nth hy;obtain⟨rfl,rfl⟩:nb=nb'/\no=no':=by cases en;exact⟨rfl,rfl⟩
    obtain⟨-,z0,-⟩:=hyn;have hjn:(j:Int)<(nn:Int):=by have:=HNL.out;omega
    clear en;have hJ:=yabu (sep:=[32,47,32]) (f:=altX ns f) n.kids k;have hJ2:=yabu (sep:=[32,47,32]) (f:=altX ns f) n.kids (k+1);have HNX:=qaa (yac2 (sep:=[32,47,32]) (f:=altX ns f) hx);rw[HNX.out] at hJ2;have hF:=HF.out;obtain⟨J,hJq⟩:∃J,joinT [32,47,32] ((n.kids.take k).map (altX ns f))=J:=⟨_,rfl⟩;rw[hJq] at hS hJ hJ2 HNX;have hax:altX ns f x=parX (decide (y.op=4)) (f x):=by unfold altX;rw[hxj,yag9 hy]
    rw[hax] at HNX hJ2;clear hax;rw[hxj] at ck;have k2:(k:Int)<(kn:Int):=U
    have w1:IntKind.i64.wrap ((k:Int)+1)=(k:Int)+1:=qaq _ (by have:=HKL.out;omega);by_cases hq4:y.op=4
    ·rw[hq4] at z0
     rw[decide_eq_true hq4] at HNX hJ2;by_cases h0:k=0
     ·rw[if_pos h0] at HNX hJ2
      rw[qbi,qad] at hJ2;have e1:¬(0:Int)<(k:Int):=U
      rw[yad9] at HNX hJ2;rw[qad,qad,qai,qai] at hJ2;have a1:=z86 J [40] (by first|omega|(simp;omega));have a2:=z86 (J++[40]) (f x) (by first|omega|(simp;omega));have a3:=z86 (J++[40]++f x) [41] (by first|omega|(simp;omega));rw[<-hS,show strOf [40]=⟨#[40]⟩ from rfl] at a1;rw[show strOf [41]=⟨#[41]⟩ from rfl] at a3;obtain⟨S1,hS1⟩:∃S1,strOf (J++[40])=S1:=⟨_,rfl⟩;obtain⟨S2,hS2⟩:∃S2,strOf (J++[40]++f x)=S2:=⟨_,rfl⟩;obtain⟨S3,hS3⟩:∃S3,strOf (J++[40]++f x++[41])=S3:=⟨_,rfl⟩;obtain⟨ST,hST⟩:∃ST,strOf (f x)=ST:=⟨_,rfl⟩;rw[hS1] at a1 a2;rw[hST,hS2] at a2;rw[hS2,hS3] at a3;rw[hST] at HR;have HSN:=qaa (show S3=strOf (joinT [32,47,32] ((n.kids.take (k+1)).map (altX ns f))) from by rw[HNX.out,<-hS3];simp);clear hS1 hS2 hS3 hST;rw[hxj] at HR;have HK0:=qaa h0;clear hS hJ hJ2 hJq hx hR hF h0 hb hbw hy hq4 hxj;go_wp2
      go_region
      go_wp2
      go_region_with (go_at_call 32;(with_reducible refine(HR.out _ (qak (qak HBW.out))).mono ?_);rintro e w3 ⟨rfl,hb⟩;have HB3:=qaa ((qak (qak HBR.out)).trans (hb.mono HBR.out.size));clear hb)
      all_goals
       go_wp2;go_roundw
       case rel=>first|exact⟨k+1,_,U,by go_num,rfl,HSN.out,HB3.out⟩|exact⟨k+1,_,U,by go_num,rfl,HSN.out,qak HB3.out⟩
       case measure=>simp[intOf];omega
     ·rw[if_neg h0] at HNX hJ2
      rw[qad,qad,show([32,47,32]:List Nat).length=3 from rfl] at hJ2;have e1:(0:Int)<(k:Int):=U
      have a0:=z86 J [32,47,32] (by first|omega|(simp;omega));rw[<-hS,show strOf [32,47,32]=⟨#[32,47,32]⟩ from rfl] at a0;obtain⟨S0,hS0⟩:∃S0,strOf (J++[32,47,32])=S0:=⟨_,rfl⟩;rw[hS0] at a0;rw[yad9] at HNX hJ2;rw[qad,qad,qai,qai] at hJ2;have a1:=z86 (J++[32,47,32]) [40] (by first|omega|(simp;omega));have a2:=z86 ((J++[32,47,32])++[40]) (f x) (by first|omega|(simp;omega));have a3:=z86 ((J++[32,47,32])++[40]++f x) [41] (by first|omega|(simp;omega));rw[hS0,show strOf [40]=⟨#[40]⟩ from rfl] at a1;rw[show strOf [41]=⟨#[41]⟩ from rfl] at a3;obtain⟨S1,hS1⟩:∃S1,strOf ((J++[32,47,32])++[40])=S1:=⟨_,rfl⟩;obtain⟨S2,hS2⟩:∃S2,strOf ((J++[32,47,32])++[40]++f x)=S2:=⟨_,rfl⟩;obtain⟨S3,hS3⟩:∃S3,strOf ((J++[32,47,32])++[40]++f x++[41])=S3:=⟨_,rfl⟩;obtain⟨ST,hST⟩:∃ST,strOf (f x)=ST:=⟨_,rfl⟩;rw[hS1] at a1 a2;rw[hST,hS2] at a2;rw[hS2,hS3] at a3;rw[hST] at HR;have HSN:=qaa (show S3=strOf (joinT [32,47,32] ((n.kids.take (k+1)).map (altX ns f))) from by rw[HNX.out,<-hS3];simp);clear hS1 hS2 hS3 hST;clear hS0;rw[hxj] at HR;have HK0:=qaa h0;clear hS hJ hJ2 hJq hx hR hF h0 hb hbw hy hq4 hxj;go_wp2
      go_region
      go_wp2
      go_region_with (go_at_call 32;(with_reducible refine(HR.out _ (qak (qak HBW.out))).mono ?_);rintro e w3 ⟨rfl,hb⟩;have HB3:=qaa ((qak (qak HBR.out)).trans (hb.mono HBR.out.size));clear hb)
      all_goals
       go_wp2;go_roundw
       case rel=>first|exact⟨k+1,_,U,by go_num,rfl,HSN.out,HB3.out⟩|exact⟨k+1,_,U,by go_num,rfl,HSN.out,qak HB3.out⟩
       case measure=>simp[intOf];omega
    ·have q4:(y.op == 4)=false:=by rw[beq_eq_false_iff_ne];exact hq4
     rw[decide_eq_false hq4] at HNX hJ2;by_cases h0:k=0
     ·rw[if_pos h0] at HNX hJ2
      rw[qbi,qad] at hJ2;have e1:¬(0:Int)<(k:Int):=U
      rw[yac3] at HNX hJ2;have a2:=z86 J (f x) (by first|omega|(simp;omega));rw[<-hS] at a2;obtain⟨S3,hS3⟩:∃S3,strOf (J++f x)=S3:=⟨_,rfl⟩;obtain⟨ST,hST⟩:∃ST,strOf (f x)=ST:=⟨_,rfl⟩;rw[hST,hS3] at a2;rw[hST] at HR;have HSN:=qaa (show S3=strOf (joinT [32,47,32] ((n.kids.take (k+1)).map (altX ns f))) from by rw[HNX.out,<-hS3];simp);clear hS3 hST;rw[hxj] at HR;have HK0:=qaa h0;clear hS hJ hJ2 hJq hx hR hF h0 hb hbw hy hq4 hxj;go_wp2
      go_region
      go_wp2
      go_region_with (go_at_call 32;(with_reducible refine(HR.out _ (qak (qak HBW.out))).mono ?_);rintro e w3 ⟨rfl,hb⟩;have HB3:=qaa ((qak (qak HBR.out)).trans (hb.mono HBR.out.size));clear hb)
      all_goals
       go_wp2;go_roundw
       case rel=>first|exact⟨k+1,_,U,by go_num,rfl,HSN.out,HB3.out⟩|exact⟨k+1,_,U,by go_num,rfl,HSN.out,qak HB3.out⟩
       case measure=>simp[intOf];omega
     ·rw[if_neg h0] at HNX hJ2
      rw[qad,qad,show([32,47,32]:List Nat).length=3 from rfl] at hJ2;have e1:(0:Int)<(k:Int):=U
      have a0:=z86 J [32,47,32] (by first|omega|(simp;omega));rw[<-hS,show strOf [32,47,32]=⟨#[32,47,32]⟩ from rfl] at a0;obtain⟨S0,hS0⟩:∃S0,strOf (J++[32,47,32])=S0:=⟨_,rfl⟩;rw[hS0] at a0;rw[yac3] at HNX hJ2;have a2:=z86 (J++[32,47,32]) (f x) (by first|omega|(simp;omega));rw[hS0] at a2;obtain⟨S3,hS3⟩:∃S3,strOf ((J++[32,47,32])++f x)=S3:=⟨_,rfl⟩;obtain⟨ST,hST⟩:∃ST,strOf (f x)=ST:=⟨_,rfl⟩;rw[hST,hS3] at a2;rw[hST] at HR;have HSN:=qaa (show S3=strOf (joinT [32,47,32] ((n.kids.take (k+1)).map (altX ns f))) from by rw[HNX.out,<-hS3];simp);clear hS3 hST;clear hS0;rw[hxj] at HR;have HK0:=qaa h0;clear hS hJ hJ2 hJq hx hR hF h0 hb hbw hy hq4 hxj;go_wp2
      go_region
      go_wp2
      go_region_with (go_at_call 32;(with_reducible refine(HR.out _ (qak (qak HBW.out))).mono ?_);rintro e w3 ⟨rfl,hb⟩;have HB3:=qaa ((qak (qak HBR.out)).trans (hb.mono HBR.out.size));clear hb)
      all_goals
       go_wp2;go_roundw
       case rel=>first|exact⟨k+1,_,U,by go_num,rfl,HSN.out,HB3.out⟩|exact⟨k+1,_,U,by go_num,rfl,HSN.out,qak HB3.out⟩
       case measure=>simp[intOf];omega
   ·obtain rfl:k=kn:=U
    have k2:¬(k:Int)<(k:Int):=U
    rw[qa4 (by rw[HKN.out];exact qac _)] at hS;obtain⟨J,hJq⟩:∃J,joinT [32,47,32] (n.kids.map (altX ns f))=J:=⟨_,rfl⟩;have hF:=HF.out;rw[hJq] at hS hF;obtain⟨S2,S3,HE1,HE3,t1,t2⟩:=yamg S J hS hF;rw[<-hJq] at HE1 HE3;clear hS hJq hF hb hbw;cases p with
    |false=>
          have q1:¬(1:Int)<=pl:=of_decide_eq_false HP.out;go_wp2;go_ret;exact⟨congrArg (fun s=>Ending.returned (jh s)) HE1.out,HBW.out⟩
    |true=>
         have q1:(1:Int)<=pl:=of_decide_eq_true HP.out;go_wp2;go_ret;exact⟨congrArg (fun s=>Ending.returned (jh s)) HE3.out,HBW.out⟩
 ·have hk1:kn=1:=by rw[<-HKN.out,HKS.out];rfl
  subst hk1;obtain⟨kb,ko,rfl,ck⟩:=HKK2.out.at' (i:=0) (x:=k0) (by rw[HKS.out];rfl);rw[qc9] at ck;unfold RTx at HREC;obtain⟨S1,S2,S3,HS1,HS3,s1,t1,t2⟩:=yame (f k0) [42] (by have:=HF.out;rw[qai];omega);obtain⟨S0,hS0⟩:∃S0,strOf (f k0)=S0:=⟨_,rfl⟩;rw[hS0] at s1 HREC;rw[show strOf [42]=⟨#[42]⟩ from rfl] at s1;clear hS0;cases p
  case false=>
         have q1:(pl == 3)=false:=by rw[beq_eq_false_iff_ne];exact of_decide_eq_false HP.out
         go_upto_region 30 with fail
         go_region_with (go_at_call 32;(with_reducible refine(HREC.out _ (qak HB2.out)).mono ?_);rintro e w3 ⟨rfl,hb⟩;have HB3:=qaa ((qak HB2.out).trans (hb.mono HB2.out.size));clear hb)
         all_goals
          go_wp2;go_ret
          first|exact⟨congrArg (fun s=>Ending.returned (jh s)) HS1.out,HB3.out⟩|exact⟨congrArg (fun s=>Ending.returned (jh s)) HS1.out,qak HB3.out⟩
  case true=>
         have q1:(pl == 3)=true:=by rw[of_decide_eq_true HP.out];rfl
         go_upto_region 30 with fail
         go_region_with (go_at_call 32;(with_reducible refine(HREC.out _ (qak HB2.out)).mono ?_);rintro e w3 ⟨rfl,hb⟩;have HB3:=qaa ((qak HB2.out).trans (hb.mono HB2.out.size));clear hb)
         all_goals
          go_wp2;go_ret
          first|exact⟨congrArg (fun s=>Ending.returned (jh s)) HS3.out,HB3.out⟩|exact⟨congrArg (fun s=>Ending.returned (jh s)) HS3.out,qak HB3.out⟩
 ·have hk1:kn=1:=by rw[<-HKN.out,HKS.out];rfl
  subst hk1;obtain⟨kb,ko,rfl,ck⟩:=HKK2.out.at' (i:=0) (x:=k0) (by rw[HKS.out];rfl);rw[qc9] at ck;unfold RTx at HREC;obtain⟨S1,S2,S3,HS1,HS3,s1,t1,t2⟩:=yame (f k0) [43] (by have:=HF.out;rw[qai];omega);obtain⟨S0,hS0⟩:∃S0,strOf (f k0)=S0:=⟨_,rfl⟩;rw[hS0] at s1 HREC;rw[show strOf [43]=⟨#[43]⟩ from rfl] at s1;clear hS0;cases p
  case false=>
         have q1:(pl == 3)=false:=by rw[beq_eq_false_iff_ne];exact of_decide_eq_false HP.out
         go_upto_region 33 with fail
         go_region_with (go_at_call 32;(with_reducible refine(HREC.out _ (qak HB2.out)).mono ?_);rintro e w3 ⟨rfl,hb⟩;have HB3:=qaa ((qak HB2.out).trans (hb.mono HB2.out.size));clear hb)
         all_goals
          go_wp2;go_ret
          first|exact⟨congrArg (fun s=>Ending.returned (jh s)) HS1.out,HB3.out⟩|exact⟨congrArg (fun s=>Ending.returned (jh s)) HS1.out,qak HB3.out⟩
  case true=>
         have q1:(pl == 3)=true:=by rw[of_decide_eq_true HP.out];rfl
         go_upto_region 33 with fail
         go_region_with (go_at_call 32;(with_reducible refine(HREC.out _ (qak HB2.out)).mono ?_);rintro e w3 ⟨rfl,hb⟩;have HB3:=qaa ((qak HB2.out).trans (hb.mono HB2.out.size));clear hb)
         all_goals
          go_wp2;go_ret
          first|exact⟨congrArg (fun s=>Ending.returned (jh s)) HS3.out,HB3.out⟩|exact⟨congrArg (fun s=>Ending.returned (jh s)) HS3.out,qak HB3.out⟩
 ·have hk1:kn=1:=by rw[<-HKN.out,HKS.out];rfl
  subst hk1;obtain⟨kb,ko,rfl,ck⟩:=HKK2.out.at' (i:=0) (x:=k0) (by rw[HKS.out];rfl);rw[qc9] at ck;unfold RTx at HREC;obtain⟨S1,S2,S3,HS1,HS3,s1,t1,t2⟩:=yame (f k0) [63] (by have:=HF.out;rw[qai];omega);obtain⟨S0,hS0⟩:∃S0,strOf (f k0)=S0:=⟨_,rfl⟩;rw[hS0] at s1 HREC;rw[show strOf [63]=⟨#[63]⟩ from rfl] at s1;clear hS0;cases p
  case false=>
         have q1:(pl == 3)=false:=by rw[beq_eq_false_iff_ne];exact of_decide_eq_false HP.out
         go_upto_region 36 with fail
         go_region_with (go_at_call 32;(with_reducible refine(HREC.out _ (qak HB2.out)).mono ?_);rintro e w3 ⟨rfl,hb⟩;have HB3:=qaa ((qak HB2.out).trans (hb.mono HB2.out.size));clear hb)
         all_goals
          go_wp2;go_ret
          first|exact⟨congrArg (fun s=>Ending.returned (jh s)) HS1.out,HB3.out⟩|exact⟨congrArg (fun s=>Ending.returned (jh s)) HS1.out,qak HB3.out⟩
  case true=>
         have q1:(pl == 3)=true:=by rw[of_decide_eq_true HP.out];rfl
         go_upto_region 36 with fail
         go_region_with (go_at_call 32;(with_reducible refine(HREC.out _ (qak HB2.out)).mono ?_);rintro e w3 ⟨rfl,hb⟩;have HB3:=qaa ((qak HB2.out).trans (hb.mono HB2.out.size));clear hb)
         all_goals
          go_wp2;go_ret
          first|exact⟨congrArg (fun s=>Ending.returned (jh s)) HS3.out,HB3.out⟩|exact⟨congrArg (fun s=>Ending.returned (jh s)) HS3.out,qak HB3.out⟩
 ·have hk1:kn=1:=by rw[<-HKN.out,HKS.out];rfl
  subst hk1;obtain⟨kb,ko,rfl,ck⟩:=HKK2.out.at' (i:=0) (x:=k0) (by rw[HKS.out];rfl);rw[qc9] at ck;unfold RTx at HREC;obtain⟨S1,S2,S3,HS1,HS3,s1,t1,t2⟩:=yame [38] (f k0) (by have:=HF.out;rw[qai];omega);obtain⟨S0,hS0⟩:∃S0,strOf (f k0)=S0:=⟨_,rfl⟩;rw[hS0] at s1 HREC;rw[show strOf [38]=⟨#[38]⟩ from rfl] at s1;clear hS0;cases p
  case false=>
         have q1:¬(2:Int)<=pl:=of_decide_eq_false HP.out
         go_upto_region 39 with fail
         go_region_with (go_at_call 32;(with_reducible refine(HREC.out _ (qak HB2.out)).mono ?_);rintro e w3 ⟨rfl,hb⟩;have HB3:=qaa ((qak HB2.out).trans (hb.mono HB2.out.size));clear hb)
         all_goals
          go_wp2;go_ret
          first|exact⟨congrArg (fun s=>Ending.returned (jh s)) HS1.out,HB3.out⟩|exact⟨congrArg (fun s=>Ending.returned (jh s)) HS1.out,qak HB3.out⟩
  case true=>
         have q1:(2:Int)<=pl:=of_decide_eq_true HP.out
         go_upto_region 39 with fail
         go_region_with (go_at_call 32;(with_reducible refine(HREC.out _ (qak HB2.out)).mono ?_);rintro e w3 ⟨rfl,hb⟩;have HB3:=qaa ((qak HB2.out).trans (hb.mono HB2.out.size));clear hb)
         all_goals
          go_wp2;go_ret
          first|exact⟨congrArg (fun s=>Ending.returned (jh s)) HS3.out,HB3.out⟩|exact⟨congrArg (fun s=>Ending.returned (jh s)) HS3.out,qak HB3.out⟩
 ·have hk1:kn=1:=by rw[<-HKN.out,HKS.out];rfl
  subst hk1;obtain⟨kb,ko,rfl,ck⟩:=HKK2.out.at' (i:=0) (x:=k0) (by rw[HKS.out];rfl);rw[qc9] at ck;unfold RTx at HREC;obtain⟨S1,S2,S3,HS1,HS3,s1,t1,t2⟩:=yame [33] (f k0) (by have:=HF.out;rw[qai];omega);obtain⟨S0,hS0⟩:∃S0,strOf (f k0)=S0:=⟨_,rfl⟩;rw[hS0] at s1 HREC;rw[show strOf [33]=⟨#[33]⟩ from rfl] at s1;clear hS0;cases p
  case false=>
         have q1:¬(2:Int)<=pl:=of_decide_eq_false HP.out
         go_upto_region 42 with fail
         go_region_with (go_at_call 32;(with_reducible refine(HREC.out _ (qak HB2.out)).mono ?_);rintro e w3 ⟨rfl,hb⟩;have HB3:=qaa ((qak HB2.out).trans (hb.mono HB2.out.size));clear hb)
         all_goals
          go_wp2;go_ret
          first|exact⟨congrArg (fun s=>Ending.returned (jh s)) HS1.out,HB3.out⟩|exact⟨congrArg (fun s=>Ending.returned (jh s)) HS1.out,qak HB3.out⟩
  case true=>
         have q1:(2:Int)<=pl:=of_decide_eq_true HP.out
         go_upto_region 42 with fail
         go_region_with (go_at_call 32;(with_reducible refine(HREC.out _ (qak HB2.out)).mono ?_);rintro e w3 ⟨rfl,hb⟩;have HB3:=qaa ((qak HB2.out).trans (hb.mono HB2.out.size));clear hb)
         all_goals
          go_wp2;go_ret
          first|exact⟨congrArg (fun s=>Ending.returned (jh s)) HS3.out,HB3.out⟩|exact⟨congrArg (fun s=>Ending.returned (jh s)) HS3.out,qak HB3.out⟩
end
