/- The reference's text of a choice. Written by wip/gen/prnalt.py. The reference's text of a node: every node of a valid grammar. The reference's Node and Print. -/
import Derived.Test.YtmopdlbpkiaoeaaGreatDoorPkPM
import Derived.Test.YtmopdlbpkiaoeaaGreatDoorPkPR
set_option maxRecDepth 100000
set_option maxHeartbeats 8000000
namespace Go.Proofs.YtmopdlbpkiaoeaaGreatDoor
section
open Go.RowKit
def altX (ns:List PN)(f:Int->List Nat)(x:Int):List Nat:=parX (decide (opAt ns x=4)) (f x)
theorem yad9 (l:List Nat):parX true l=[40]++l++[41]:=rfl
theorem yac3 (l:List Nat):parX false l=l:=rfl
theorem yah7 (rs:List PR)(ns:List PN)(ra na:Option Addr)(rn rc nn nc i:Nat)(pl:Int)(n:PN)(W:World)(hn:ns[i]?=some n)(hnn:nn=ns.length)(hN:NodesAt W (.slice na nn nc) ns)(hRR:RulesIn W (.slice ra rn rc) rs)(hop:n.op=4)(hkb:∀x,x ∈ n.kids->∃j:Nat,x=(j:Int)/\j<ns.length)(f:Int->List Nat)(hf:(joinT [32,47,32] (n.kids.map (altX ns f))).length<=1000000)(hrec:∀x,x ∈ n.kids->∀W2,Below W.heap.size W W2->RTx (.agg #[.slice ra rn rc,.slice na nn nc]) x 0 W2 (f x))(p:Bool)(hp:decide (1<=pl)=p):RTx (.agg #[.slice ra rn rc,.slice na nn nc]) i pl W (parX p (joinT [32,47,32] (n.kids.map (altX ns f)))):=by
 unfold RTx;have HRR:=Lib.hid hRR;clear hRR;have HREC:=Lib.hid hrec;have HF:=Lib.hid hf;have HP:=Lib.hid hp;have HKB:=Lib.hid hkb;clear hrec hf hp hkb;obtain⟨nb,no,rfl,kv,c0,c1,c2,c3,c4,c5,c6,hK,hkl⟩:=hN.nth hn;obtain⟨ka,kc,rfl,-⟩:∃ka kc,kv=.slice ka n.kids.length kc/\True:=by
  obtain⟨a,c,e,-⟩:=hK;exact⟨a,c,e,trivial⟩
 obtain⟨kn,hkn⟩:∃kn,n.kids.length=kn:=⟨_,rfl⟩;have hil:(i:Int)<(nn:Int):=by have:=(List.getElem?_eq_some_iff.1 hn).1;omega
 have hlt:=zai c0;rw[hkn] at c1 hK;have HKN:=Lib.hid hkn;have HKK:=Lib.hid hK;have HNN:=Lib.hid hN;have HKL:=Lib.hid (show kn<=9223372036854775807 from by unfold maxLen at hkl;omega);have HNL:=Lib.hid hnn;clear hnn hkn hkl hK hN;have HG:=Lib.hid (Bl.new W 25 #[.slice ra rn rc,.slice (some ⟨nb,no,none⟩) nn nc]);have hB1:=zaa W (.cells #[.slice ra rn rc,.slice (some ⟨nb,no,none⟩) nn nc] 25);have HB1:=Lib.hid hB1;rw[hop] at c0;go_enter Tryz.func32,Tryz.ntmps32
 go_upto_region 1 with fail
 obtain⟨W1,hW1⟩:∃W1,W.alloc (.cells #[.slice ra rn rc,.slice (some ⟨nb,no,none⟩) nn nc] 25)=W1:=⟨_,rfl⟩;rw[hW1] at HG HB1 hB1;rw[hW1];have hcc:=(bcell hB1).1;have d0:=(hcc nb (no+i*7) hlt).trans c0;have d1:=(hcc nb (no+i*7+1) hlt).trans c1;have d2:=(hcc nb (no+i*7+2) hlt).trans c2;have d3:=(hcc nb (no+i*7+3) hlt).trans c3;have d4:=(hcc nb (no+i*7+4) hlt).trans c4;have d5:=(hcc nb (no+i*7+5) hlt).trans c5;have d6:=(hcc nb (no+i*7+6) hlt).trans c6;have g0:=HG.out.cell (o:=0) (u:=.slice ra rn rc) rfl;have g1:=HG.out.cell (o:=1) (u:=.slice (some ⟨nb,no,none⟩) nn nc) rfl;have gl:=HG.out.lt;clear hcc c0 c1 c2 c3 c4 c5 c6 hW1
 go_upto_region 2 with fail
 have HX:=Lib.hid (Bl.new W1 54 #[.int .i64 4,.slice ka kn kc,.int .i64 n.rule,.int .u64 n.s0,.int .u64 n.s1,.int .u64 n.s2,.int .u64 n.s3]);have hn2:=zaa W1 (.cells #[.int .i64 4,.slice ka kn kc,.int .i64 n.rule,.int .u64 n.s0,.int .u64 n.s1,.int .u64 n.s2,.int .u64 n.s3] 54);have HG2:=Lib.hid (HG.out.below hn2);have HB2:=Lib.hid (HB1.out.trans (hn2.mono HB1.out.size));have HNN2:=Lib.hid ((HNN.out.kept HB1.out (Nat.le_refl _)).kept hn2 (Nat.le_refl _));have HKK2:=Lib.hid ((HKK.out.kept HB1.out (Nat.le_refl _)).kept hn2 (Nat.le_refl _));have HR2:=Lib.hid ((HRR.out.kept HB1.out (Nat.le_refl _)).kept hn2 (Nat.le_refl _));obtain⟨W2,hW2⟩:∃W2,W1.alloc (.cells #[.int .i64 4,.slice ka kn kc,.int .i64 n.rule,.int .u64 n.s0,.int .u64 n.s1,.int .u64 n.s2,.int .u64 n.s3] 54)=W2:=⟨_,rfl⟩;obtain⟨B1,hB1q⟩:∃B1,W1.heap.size=B1:=⟨_,rfl⟩;obtain⟨B0,hB0q⟩:∃B0,W.heap.size=B0:=⟨_,rfl⟩;rw[hW2] at HX HG2 HB2 HNN2 HKK2 HR2;rw[hB1q] at HX;rw[hB0q] at HG2;rw[hW2,hB1q,hB0q];clear hW2 hB1q hB0q hn2 d0 d1 d2 d3 d4 d5 d6 g0 g1 gl hB1 HB1 HG HKK;have x0:=HX.out.cell (o:=0) (u:=.int .i64 4) rfl;have x1:=HX.out.cell (o:=1) (u:=.slice ka kn kc) rfl;have x2:=HX.out.cell (o:=2) (u:=.int .i64 n.rule) rfl;have x3:=HX.out.cell (o:=3) (u:=.int .u64 n.s0) rfl;have x4:=HX.out.cell (o:=4) (u:=.int .u64 n.s1) rfl;have x5:=HX.out.cell (o:=5) (u:=.int .u64 n.s2) rfl;have x6:=HX.out.cell (o:=6) (u:=.int .u64 n.s3) rfl;have xl:=HX.out.lt;have y0:=HG2.out.cell (o:=0) (u:=.slice ra rn rc) rfl;have y1:=HG2.out.cell (o:=1) (u:=.slice (some ⟨nb,no,none⟩) nn nc) rfl;have yl:=HG2.out.lt;go_wp2;clear x0 x1 x2 x3 x4 x5 x6 xl y0 y1 yl
 go_loopw [8,11] (fun s c wr=>∃(k:Nat) (S:ByteArray),k<=kn/\c=.int .i64 k/\s=.string S/\S=strOf (joinT [32,47,32] ((n.kids.take k).map (altX ns f)))/\Below W2.heap.size W2 wr) (fun _ c _=>kn-(intOf c).toNat)
 case atStart=>exact⟨0,_,Nat.zero_le _,rfl,rfl,rfl,Below.refl _ _⟩
 case round=>
  obtain⟨k,S,hk,rfl,rfl,hS,hbw⟩:=hrel;have hb:=hbw;have u1:=(HX.out.below hb).cell (o:=1) (u:=.slice ka kn kc) rfl;have ul:=(HX.out.below hb).lt;have v0:=(HG2.out.below hb).cell (o:=0) (u:=.slice ra rn rc) rfl;have v1:=(HG2.out.below hb).cell (o:=1) (u:=.slice (some ⟨nb,no,none⟩) nn nc) rfl;have vl:=(HG2.out.below hb).lt;have HBW:=Lib.hid (HB2.out.trans (hb.mono HB2.out.size));have HBR:=Lib.hid hb;by_cases hlt2:k<kn
  ·obtain⟨x,hx⟩:∃x,n.kids[k]?=some x:=⟨_,List.getElem?_eq_getElem (by rw[HKN.out];exact hlt2)⟩
   obtain⟨kb,ko,rfl,ck⟩:=(HKK2.out.kept hbw (Nat.le_refl _)).at' hx;have hR:=HREC.out x (List.mem_of_getElem? hx);unfold RTx at hR;have HR:=Lib.hid hR;obtain⟨j,hxj,hjl⟩:=HKB.out x (List.mem_of_getElem? hx);obtain⟨y,hy⟩:∃y,ns[j]?=some y:=⟨_,List.getElem?_eq_getElem hjl⟩;obtain⟨nb',no',en,hyn⟩:=(HNN2.out.kept hbw (Nat.le_refl _)).nth hy;obtain⟨rfl,rfl⟩:nb=nb'/\no=no':=by cases en;exact⟨rfl,rfl⟩
   obtain⟨-,z0,-⟩:=hyn;have hjn:(j:Int)<(nn:Int):=by have:=HNL.out;omega
   clear en;have hJ:=yabu (sep:=[32,47,32]) (f:=altX ns f) n.kids k;have hJ2:=yabu (sep:=[32,47,32]) (f:=altX ns f) n.kids (k+1);have HNX:=Lib.hid (yac2 (sep:=[32,47,32]) (f:=altX ns f) hx);rw[HNX.out] at hJ2;have hF:=HF.out;obtain⟨J,hJq⟩:∃J,joinT [32,47,32] ((n.kids.take k).map (altX ns f))=J:=⟨_,rfl⟩;rw[hJq] at hS hJ hJ2 HNX;have hax:altX ns f x=parX (decide (y.op=4)) (f x):=by unfold altX;rw[hxj,yag9 hy]
   rw[hax] at HNX hJ2;clear hax;rw[hxj] at ck;have k2:(k:Int)<(kn:Int):=by omega
   have w1:IntKind.i64.wrap ((k:Int)+1)=(k:Int)+1:=IntWalk.i64_in _ (by have:=HKL.out;omega);by_cases hq4:y.op=4
   ·rw[hq4] at z0
    rw[decide_eq_true hq4] at HNX hJ2;by_cases h0:k=0
    ·rw[if_pos h0] at HNX hJ2
     rw[List.nil_append,List.length_append] at hJ2;have e1:¬(0:Int)<(k:Int):=by omega
     rw[yad9] at HNX hJ2;rw[List.length_append,List.length_append,List.length_singleton,List.length_singleton] at hJ2;have a1:=z86 J [40] (by first|omega|(simp;omega));have a2:=z86 (J++[40]) (f x) (by first|omega|(simp;omega));have a3:=z86 (J++[40]++f x) [41] (by first|omega|(simp;omega));rw[<-hS,show strOf [40]=⟨#[40]⟩ from rfl] at a1;rw[show strOf [41]=⟨#[41]⟩ from rfl] at a3;obtain⟨S1,hS1⟩:∃S1,strOf (J++[40])=S1:=⟨_,rfl⟩;obtain⟨S2,hS2⟩:∃S2,strOf (J++[40]++f x)=S2:=⟨_,rfl⟩;obtain⟨S3,hS3⟩:∃S3,strOf (J++[40]++f x++[41])=S3:=⟨_,rfl⟩;obtain⟨ST,hST⟩:∃ST,strOf (f x)=ST:=⟨_,rfl⟩;rw[hS1] at a1 a2;rw[hST,hS2] at a2;rw[hS2,hS3] at a3;rw[hST] at HR;have HSN:=Lib.hid (show S3=strOf (joinT [32,47,32] ((n.kids.take (k+1)).map (altX ns f))) from by rw[HNX.out,<-hS3];simp);clear hS1 hS2 hS3 hST;rw[hxj] at HR;have HK0:=Lib.hid h0;clear hS hJ hJ2 hJq hx hR hF h0 hb hbw hy hq4 hxj;go_wp2
     go_region
     go_wp2
     go_region_with (go_at_call 32;(with_reducible refine(HR.out _ (Below.drew (Below.drew HBW.out))).mono ?_);rintro e w3 ⟨rfl,hb⟩;have HB3:=Lib.hid ((Below.drew (Below.drew HBR.out)).trans (hb.mono HBR.out.size));clear hb)
     all_goals
      go_wp2;go_roundw
      case rel=>first|exact⟨k+1,_,by omega,by go_num,rfl,HSN.out,HB3.out⟩|exact⟨k+1,_,by omega,by go_num,rfl,HSN.out,Below.drew HB3.out⟩
      case measure=>simp[intOf];omega
    ·rw[if_neg h0] at HNX hJ2
     rw[List.length_append,List.length_append,show([32,47,32]:List Nat).length=3 from rfl] at hJ2;have e1:(0:Int)<(k:Int):=by omega
     have a0:=z86 J [32,47,32] (by first|omega|(simp;omega));rw[<-hS,show strOf [32,47,32]=⟨#[32,47,32]⟩ from rfl] at a0;obtain⟨S0,hS0⟩:∃S0,strOf (J++[32,47,32])=S0:=⟨_,rfl⟩;rw[hS0] at a0;rw[yad9] at HNX hJ2;rw[List.length_append,List.length_append,List.length_singleton,List.length_singleton] at hJ2;have a1:=z86 (J++[32,47,32]) [40] (by first|omega|(simp;omega));have a2:=z86 ((J++[32,47,32])++[40]) (f x) (by first|omega|(simp;omega));have a3:=z86 ((J++[32,47,32])++[40]++f x) [41] (by first|omega|(simp;omega));rw[hS0,show strOf [40]=⟨#[40]⟩ from rfl] at a1;rw[show strOf [41]=⟨#[41]⟩ from rfl] at a3;obtain⟨S1,hS1⟩:∃S1,strOf ((J++[32,47,32])++[40])=S1:=⟨_,rfl⟩;obtain⟨S2,hS2⟩:∃S2,strOf ((J++[32,47,32])++[40]++f x)=S2:=⟨_,rfl⟩;obtain⟨S3,hS3⟩:∃S3,strOf ((J++[32,47,32])++[40]++f x++[41])=S3:=⟨_,rfl⟩;obtain⟨ST,hST⟩:∃ST,strOf (f x)=ST:=⟨_,rfl⟩;rw[hS1] at a1 a2;rw[hST,hS2] at a2;rw[hS2,hS3] at a3;rw[hST] at HR;have HSN:=Lib.hid (show S3=strOf (joinT [32,47,32] ((n.kids.take (k+1)).map (altX ns f))) from by rw[HNX.out,<-hS3];simp);clear hS1 hS2 hS3 hST;clear hS0;rw[hxj] at HR;have HK0:=Lib.hid h0;clear hS hJ hJ2 hJq hx hR hF h0 hb hbw hy hq4 hxj;go_wp2
     go_region
     go_wp2
     go_region_with (go_at_call 32;(with_reducible refine(HR.out _ (Below.drew (Below.drew HBW.out))).mono ?_);rintro e w3 ⟨rfl,hb⟩;have HB3:=Lib.hid ((Below.drew (Below.drew HBR.out)).trans (hb.mono HBR.out.size));clear hb)
     all_goals
      go_wp2;go_roundw
      case rel=>first|exact⟨k+1,_,by omega,by go_num,rfl,HSN.out,HB3.out⟩|exact⟨k+1,_,by omega,by go_num,rfl,HSN.out,Below.drew HB3.out⟩
      case measure=>simp[intOf];omega
   ·have q4:(y.op == 4)=false:=by rw[beq_eq_false_iff_ne];exact hq4
    rw[decide_eq_false hq4] at HNX hJ2;by_cases h0:k=0
    ·rw[if_pos h0] at HNX hJ2
     rw[List.nil_append,List.length_append] at hJ2;have e1:¬(0:Int)<(k:Int):=by omega
     rw[yac3] at HNX hJ2;have a2:=z86 J (f x) (by first|omega|(simp;omega));rw[<-hS] at a2;obtain⟨S3,hS3⟩:∃S3,strOf (J++f x)=S3:=⟨_,rfl⟩;obtain⟨ST,hST⟩:∃ST,strOf (f x)=ST:=⟨_,rfl⟩;rw[hST,hS3] at a2;rw[hST] at HR;have HSN:=Lib.hid (show S3=strOf (joinT [32,47,32] ((n.kids.take (k+1)).map (altX ns f))) from by rw[HNX.out,<-hS3];simp);clear hS3 hST;rw[hxj] at HR;have HK0:=Lib.hid h0;clear hS hJ hJ2 hJq hx hR hF h0 hb hbw hy hq4 hxj;go_wp2
     go_region
     go_wp2
     go_region_with (go_at_call 32;(with_reducible refine(HR.out _ (Below.drew (Below.drew HBW.out))).mono ?_);rintro e w3 ⟨rfl,hb⟩;have HB3:=Lib.hid ((Below.drew (Below.drew HBR.out)).trans (hb.mono HBR.out.size));clear hb)
     all_goals
      go_wp2;go_roundw
      case rel=>first|exact⟨k+1,_,by omega,by go_num,rfl,HSN.out,HB3.out⟩|exact⟨k+1,_,by omega,by go_num,rfl,HSN.out,Below.drew HB3.out⟩
      case measure=>simp[intOf];omega
    ·rw[if_neg h0] at HNX hJ2
     rw[List.length_append,List.length_append,show([32,47,32]:List Nat).length=3 from rfl] at hJ2;have e1:(0:Int)<(k:Int):=by omega
     have a0:=z86 J [32,47,32] (by first|omega|(simp;omega));rw[<-hS,show strOf [32,47,32]=⟨#[32,47,32]⟩ from rfl] at a0;obtain⟨S0,hS0⟩:∃S0,strOf (J++[32,47,32])=S0:=⟨_,rfl⟩;rw[hS0] at a0;rw[yac3] at HNX hJ2;have a2:=z86 (J++[32,47,32]) (f x) (by first|omega|(simp;omega));rw[hS0] at a2;obtain⟨S3,hS3⟩:∃S3,strOf ((J++[32,47,32])++f x)=S3:=⟨_,rfl⟩;obtain⟨ST,hST⟩:∃ST,strOf (f x)=ST:=⟨_,rfl⟩;rw[hST,hS3] at a2;rw[hST] at HR;have HSN:=Lib.hid (show S3=strOf (joinT [32,47,32] ((n.kids.take (k+1)).map (altX ns f))) from by rw[HNX.out,<-hS3];simp);clear hS3 hST;clear hS0;rw[hxj] at HR;have HK0:=Lib.hid h0;clear hS hJ hJ2 hJq hx hR hF h0 hb hbw hy hq4 hxj;go_wp2
     go_region
     go_wp2
     go_region_with (go_at_call 32;(with_reducible refine(HR.out _ (Below.drew (Below.drew HBW.out))).mono ?_);rintro e w3 ⟨rfl,hb⟩;have HB3:=Lib.hid ((Below.drew (Below.drew HBR.out)).trans (hb.mono HBR.out.size));clear hb)
     all_goals
      go_wp2;go_roundw
      case rel=>first|exact⟨k+1,_,by omega,by go_num,rfl,HSN.out,HB3.out⟩|exact⟨k+1,_,by omega,by go_num,rfl,HSN.out,Below.drew HB3.out⟩
      case measure=>simp[intOf];omega
  ·obtain rfl:k=kn:=by omega
   have k2:¬(k:Int)<(k:Int):=by omega
   rw[List.take_of_length_le (by rw[HKN.out];exact Nat.le_refl _)] at hS;obtain⟨J,hJq⟩:∃J,joinT [32,47,32] (n.kids.map (altX ns f))=J:=⟨_,rfl⟩;have hF:=HF.out;rw[hJq] at hS hF;have t1:=z86 [40] J (by rw[List.length_singleton];omega);have t2:=z86 ([40]++J) [41] (by rw[List.length_append,List.length_singleton,List.length_singleton];omega);rw[<-hS,show strOf [40]=⟨#[40]⟩ from rfl] at t1;obtain⟨S2,hS2⟩:∃S2,strOf ([40]++J)=S2:=⟨_,rfl⟩;obtain⟨S3,hS3⟩:∃S3,strOf ([40]++J++[41])=S3:=⟨_,rfl⟩;rw[hS2] at t1 t2;rw[hS3,show strOf [41]=⟨#[41]⟩ from rfl] at t2;have HE1:=Lib.hid (show S=strOf (parX false (joinT [32,47,32] (n.kids.map (altX ns f)))) from by rw[hJq];exact hS);have HE3:=Lib.hid (show S3=strOf (parX true (joinT [32,47,32] (n.kids.map (altX ns f)))) from by rw[hJq,<-hS3];rfl);clear hS hJq hS2 hS3 hF hb hbw;cases p with
   |false=>
    have q1:¬(1:Int)<=pl:=of_decide_eq_false HP.out;go_wp2;go_ret;exact⟨congrArg (fun s=>Ending.returned (.string s)) HE1.out,HBW.out⟩
   |true=>
    have q1:(1:Int)<=pl:=of_decide_eq_true HP.out;go_wp2;go_ret;exact⟨congrArg (fun s=>Ending.returned (.string s)) HE3.out,HBW.out⟩
end
section
open Go.RowKit
theorem yacj {sep x:List Nat}:∀ {l:List (List Nat)},x ∈ l->x.length<=(joinT sep l).length
 | [],h=>by cases h
 | [a],h=>by
  rw[List.mem_singleton.1 h];exact Nat.le_refl _
 |a::b::t,h=>by
  show _<=(a++(sep++joinT sep (b::t))).length;rw[List.length_append,List.length_append];rcases List.mem_cons.1 h with rfl|h
  ·omega
  ·have:=yacj (sep:=sep) h
   omega
theorem yah8 (b:Bool)(l:List Nat):l.length<=(parX b l).length:=by
 cases b
 ·exact Nat.le_refl _
 ·show l.length<=([40]++l++[41]).length
  rw[List.length_append,List.length_append];omega
theorem yah9 (op:Int):parB op 0=false:=by
 unfold parB;split
 ·rfl
 ·split
  ·rfl
  ·split<;>rfl
theorem yaia {ns:List PN}{nm:Int->List Nat}{cx:PN->List Nat}(hk:zdo ns){i:Nat}{n:PN}(hn:ns[i]?=some n):tx ns nm cx 0 (i:Int)=inX ns nm cx n (tx ns nm cx):=by
 rw[tx_eq hk hn,yah9];rfl
theorem yagh {ns:List PN}{nm:Int->List Nat}{cx:PN->List Nat}(hk:zdo ns){i:Nat}{n:PN}(hn:ns[i]?=some n)(pl:Nat):(tx ns nm cx 0 (i:Int)).length<=(tx ns nm cx pl (i:Int)).length:=by
 rw[yaia hk hn,tx_eq hk hn];exact yah8 _ _
theorem yaea (rs:List PR)(ns:List PN)(ra na:Option Addr)(rn rc nn nc:Nat)(hrn:rn=rs.length)(hnn:nn=ns.length)(hk:chkL rs ns=.ok)(hw:∀n,n ∈ ns->z87 n) :
  ∀(m i:Nat),i<m->i<ns.length->(tx ns (nmOf rs) cxN 0 (i:Int)).length<=1000000->∀(pl:Nat) (W:World),pl<=3->NodesAt W (.slice na nn nc) ns->RulesIn W (.slice ra rn rc) rs->RTx (.agg #[.slice ra rn rc,.slice na nn nc]) (i:Int) (pl:Int) W (tx ns (nmOf rs) cxN pl (i:Int))
 |0,i,h,_=>by omega
 |m+1,i,him,hi=>by
  intro hlen pl W hpl hN hR;obtain⟨n,hn⟩:∃n,ns[i]?=some n:=⟨_,List.getElem?_eq_getElem hi⟩;obtain⟨-,-,-,-,h5,h6,-⟩:=z3k hk;have hkb:=(zuh h6).kids;have hmade:madeB n rs.length=true:=by
   have:=h5 i hi;unfold zbv at this;rw[hn] at this;simpa using this
  rw[yaia hkb hn] at hlen;rw[tx_eq hkb hn];have hki:∀x,x ∈ n.kids->∃j:Nat,x=(j:Int)/\j<ns.length/\j<m:=fun x hx=>by
   have:=hkb i n hn x hx;exact⟨x.toNat,by omega,by omega,by omega⟩
  have hrec:∀(q:Nat) (x:Int),q<=3->x ∈ n.kids->(tx ns (nmOf rs) cxN q x).length<=1000000->∀W2,Below W.heap.size W W2->RTx (.agg #[.slice ra rn rc,.slice na nn nc]) x (q:Int) W2 (tx ns (nmOf rs) cxN q x):=fun q x hq hx hl W2 hb=>by
   obtain⟨j,rfl,hj,hjm⟩:=hki x hx;obtain⟨y,hy⟩:∃y,ns[j]?=some y:=⟨_,List.getElem?_eq_getElem hj⟩;exact yaea rs ns ra na rn rc nn nc hrn hnn hk hw m j hjm hj (Nat.le_trans (yagh hkb hy q) hl) q W2 hq (hN.kept hb (Nat.le_refl _)) (hR.kept hb (Nat.le_refl _))
  rcases z9h hmade with⟨h0,-⟩|⟨h1,-,-⟩|⟨h2,hks,h0,hr,-⟩|⟨h34,hks,-⟩|⟨h59,k0,hks,-⟩
  ·rw[show inX ns (nmOf rs) cxN n (tx ns (nmOf rs) cxN)=[39,39] from by unfold inX;rw[if_pos h0],h0]
   exact yaev rs ns ra na rn rc nn nc i pl n W hn hnn hN hR h0
  ·rw[show inX ns (nmOf rs) cxN n (tx ns (nmOf rs) cxN)=cxN n from by unfold inX;rw[if_neg (by omega),if_pos h1],h1]
   exact yaew rs ns ra na rn rc nn nc i pl n W hn hnn hN hR h1 (hw n (List.mem_of_getElem? hn))
  ·obtain⟨r,hr2⟩:∃r,rs[n.rule.toNat]?=some r:=⟨_,List.getElem?_eq_getElem (by omega)⟩
   rw[show inX ns (nmOf rs) cxN n (tx ns (nmOf rs) cxN)=bts r.name from by unfold inX;rw[if_neg (by omega),if_neg (by omega),if_pos h2];unfold nmOf;rw[hr2],h2];exact yage rs ns ra na rn rc nn nc i pl n W hn hnn hN hR h2 r hr2 h0 hrn
  ·rcases h34 with h3|h4
   ·have e:inX ns (nmOf rs) cxN n (tx ns (nmOf rs) cxN)=joinT [32] (n.kids.map (tx ns (nmOf rs) cxN 1)):=by
     unfold inX;rw[if_neg (by omega),if_neg (by omega),if_neg (by omega),if_pos h3]
    rw[e] at hlen ⊢;rw[h3];exact yah3 rs ns ra na rn rc nn nc i pl n W hn hnn hN hR h3 (tx ns (nmOf rs) cxN 1) hlen (fun x hx=>hrec 1 x (by omega) hx (Nat.le_trans (yacj (List.mem_map_of_mem hx)) hlen)) _ (by
     show decide (1<=(pl:Int))=parB 3 pl;unfold parB;rw[if_pos (.inl rfl)];exact decide_eq_decide.2 (by omega))
   ·have e:inX ns (nmOf rs) cxN n (tx ns (nmOf rs) cxN)=joinT [32,47,32] (n.kids.map (altX ns (tx ns (nmOf rs) cxN 0))):=by
     unfold inX;rw[if_neg (by omega),if_neg (by omega),if_neg (by omega),if_neg (by omega),if_pos h4];rfl
    rw[e] at hlen ⊢;rw[h4];exact yah7 rs ns ra na rn rc nn nc i pl n W hn hnn hN hR h4 (fun x hx=>(hki x hx).imp fun j hj=>⟨hj.1,hj.2.1⟩) (tx ns (nmOf rs) cxN 0) hlen (fun x hx=>hrec 0 x (by omega) hx (Nat.le_trans (Nat.le_trans (yah8 _ _) (yacj (List.mem_map_of_mem (f:=altX ns (tx ns (nmOf rs) cxN 0)) hx))) hlen)) _ (by
     show decide (1<=(pl:Int))=parB 4 pl;unfold parB;rw[if_pos (.inr rfl)];exact decide_eq_decide.2 (by omega))
  ·have hk0:k0 ∈ n.kids:=by rw[hks];exact List.mem_singleton.2 rfl
   rcases(by omega:n.op=5∨n.op=6∨n.op=7∨n.op=8∨n.op=9) with h|h|h|h|h
   ·have e:inX ns (nmOf rs) cxN n (tx ns (nmOf rs) cxN)=tx ns (nmOf rs) cxN 3 k0++[42]:=by
     unfold inX;rw[if_neg (by omega),if_neg (by omega),if_neg (by omega),if_neg (by omega),if_neg (by omega),if_neg (by omega),hks,List.flatMap_cons,List.flatMap_nil,List.append_nil,h];rfl
    rw[e] at hlen ⊢;rw[List.length_append] at hlen;rw[h];exact yagf rs ns ra na rn rc nn nc i pl n W hn hnn hN hR h k0 hks (tx ns (nmOf rs) cxN 3) (by omega) (hrec 3 k0 (by omega) hk0 (by omega)) _ (by
     show decide ((pl:Int)=3)=parB 5 pl;unfold parB;rw[if_neg (by omega),if_neg (by omega),if_pos (by omega)];exact decide_eq_decide.2 (by omega))
   ·have e:inX ns (nmOf rs) cxN n (tx ns (nmOf rs) cxN)=tx ns (nmOf rs) cxN 3 k0++[43]:=by
     unfold inX;rw[if_neg (by omega),if_neg (by omega),if_neg (by omega),if_neg (by omega),if_neg (by omega),if_neg (by omega),hks,List.flatMap_cons,List.flatMap_nil,List.append_nil,h];rfl
    rw[e] at hlen ⊢;rw[List.length_append] at hlen;rw[h];exact yagg rs ns ra na rn rc nn nc i pl n W hn hnn hN hR h k0 hks (tx ns (nmOf rs) cxN 3) (by omega) (hrec 3 k0 (by omega) hk0 (by omega)) _ (by
     show decide ((pl:Int)=3)=parB 6 pl;unfold parB;rw[if_neg (by omega),if_neg (by omega),if_pos (by omega)];exact decide_eq_decide.2 (by omega))
   ·have e:inX ns (nmOf rs) cxN n (tx ns (nmOf rs) cxN)=tx ns (nmOf rs) cxN 3 k0++[63]:=by
     unfold inX;rw[if_neg (by omega),if_neg (by omega),if_neg (by omega),if_neg (by omega),if_neg (by omega),if_neg (by omega),hks,List.flatMap_cons,List.flatMap_nil,List.append_nil,h];rfl
    rw[e] at hlen ⊢;rw[List.length_append] at hlen;rw[h];exact yah4 rs ns ra na rn rc nn nc i pl n W hn hnn hN hR h k0 hks (tx ns (nmOf rs) cxN 3) (by omega) (hrec 3 k0 (by omega) hk0 (by omega)) _ (by
     show decide ((pl:Int)=3)=parB 7 pl;unfold parB;rw[if_neg (by omega),if_neg (by omega),if_pos (by omega)];exact decide_eq_decide.2 (by omega))
   ·have e:inX ns (nmOf rs) cxN n (tx ns (nmOf rs) cxN)=38::tx ns (nmOf rs) cxN 2 k0:=by
     unfold inX;rw[if_neg (by omega),if_neg (by omega),if_neg (by omega),if_neg (by omega),if_neg (by omega),if_pos (by omega),hks,List.flatMap_cons,List.flatMap_nil,List.append_nil,h];rfl
    rw[e] at hlen ⊢;rw[List.length_cons] at hlen;rw[h];exact yah5 rs ns ra na rn rc nn nc i pl n W hn hnn hN hR h k0 hks (tx ns (nmOf rs) cxN 2) (by omega) (hrec 2 k0 (by omega) hk0 (by omega)) _ (by
     show decide (2<=(pl:Int))=parB 8 pl;unfold parB;rw[if_neg (by omega),if_pos (by omega)];exact decide_eq_decide.2 (by omega))
   ·have e:inX ns (nmOf rs) cxN n (tx ns (nmOf rs) cxN)=33::tx ns (nmOf rs) cxN 2 k0:=by
     unfold inX;rw[if_neg (by omega),if_neg (by omega),if_neg (by omega),if_neg (by omega),if_neg (by omega),if_pos (by omega),hks,List.flatMap_cons,List.flatMap_nil,List.append_nil,h];rfl
    rw[e] at hlen ⊢;rw[List.length_cons] at hlen;rw[h];exact yah6 rs ns ra na rn rc nn nc i pl n W hn hnn hN hR h k0 hks (tx ns (nmOf rs) cxN 2) (by omega) (hrec 2 k0 (by omega) hk0 (by omega)) _ (by
     show decide (2<=(pl:Int))=parB 9 pl;unfold parB;rw[if_neg (by omega),if_pos (by omega)];exact decide_eq_decide.2 (by omega))
end
section
open Go.RowKit
theorem yaav (rs:List PR)(ns:List PN)(ra na:Option Addr)(rn rc nn nc i:Nat)(hrn:rn=rs.length)(hnn:nn=ns.length)(hk:chkL rs ns=.ok)(hw:∀n,n ∈ ns->z87 n)(hi:i<ns.length)(hl:(tx ns (nmOf rs) cxN 0 (i:Int)).length<=1000000)(W:World)(hN:NodesAt W (.slice na nn nc) ns)(hR:RulesIn W (.slice ra rn rc) rs) :
  Calls Tryz.prog 13 #[.agg #[.slice ra rn rc,.slice na nn nc],.int .i64 (i:Int)] W fun e w'=>e=.returned (.string (strOf (tx ns (nmOf rs) cxN 0 (i:Int))))/\Below W.heap.size W w':=by
 have HT:=Lib.hid (show ∀W2,NodesAt W2 (.slice na nn nc) ns->RulesIn W2 (.slice ra rn rc) rs->RTx (.agg #[.slice ra rn rc,.slice na nn nc]) (i:Int) 0 W2 (tx ns (nmOf rs) cxN 0 (i:Int)) from fun W2 h h2=>yaea rs ns ra na rn rc nn nc hrn hnn hk hw (i+1) i (Nat.lt_succ_self _) hi hl 0 W2 (by omega) h h2);unfold RTx at HT;have HN:=Lib.hid hN;have HR:=Lib.hid hR;clear hN hR hk hw hl hrn hnn hi;obtain⟨S,hS⟩:∃S,strOf (tx ns (nmOf rs) cxN 0 (i:Int))=S:=⟨_,rfl⟩;rw[hS] at HT ⊢;clear hS;go_enter Tryz.func13,Tryz.ntmps13;have HB:=Lib.hid (zaa W (.cells #[.slice ra rn rc,.slice na nn nc] 25))
 go_wp2_with (go_at_call 32;(with_reducible refine(HT.out _ (HN.out.kept HB.out (Nat.le_refl _)) (HR.out.kept HB.out (Nat.le_refl _))).mono ?_);rintro e w3 ⟨rfl,hb⟩;have HB3:=Lib.hid (HB.out.trans (hb.mono HB.out.size));clear hb)
 go_ret;exact⟨rfl,HB3.out⟩
theorem yagi {ns:List PN}{nm:Int->List Nat}{cx:PN->List Nat}{rs:List PR}{k:Nat}{r:PR}(h:rs[k]?=some r):fileX ns nm cx (rs.take (k+1))=fileX ns nm cx (rs.take k)++(bts r.name++([32,60,45,32]++(tx ns nm cx 0 r.root++[10]))):=by
 rw[za3 rs k r h];unfold fileX;rw[List.flatMap_append,List.flatMap_cons,List.flatMap_nil,List.append_nil]
theorem yagj {ns:List PN}{nm:Int->List Nat}{cx:PN->List Nat}(rs:List PR)(k:Nat):(fileX ns nm cx (rs.take k)).length<=(fileX ns nm cx rs).length:=by
 conv=>rhs;rw[<-List.take_append_drop k rs]
 unfold fileX;rw[List.flatMap_append,List.length_append];omega
theorem prnK {b1 o1 b2 o2 b3 o3 b4 o4 m0:Nat}{u1 u2 u3 u4:Value}{wr W W':World}(hm:m0<=wr.heap.size)(hb:Below W.heap.size W W')(h:W.cell? ⟨b1,o1,none⟩=some u1/\W.cell? ⟨b2,o2,none⟩=some u2/\W.cell? ⟨b3,o3,none⟩=some u3/\W.cell? ⟨b4,o4,none⟩=some u4/\Below m0 wr W) :
  W'.cell? ⟨b1,o1,none⟩=some u1/\W'.cell? ⟨b2,o2,none⟩=some u2/\W'.cell? ⟨b3,o3,none⟩=some u3/\W'.cell? ⟨b4,o4,none⟩=some u4/\Below m0 wr W':=by
 obtain⟨h1,h2,h3,h4,h5⟩:=h;have hc:=(bcell hb).1;exact⟨(hc _ _ (zai h1)).trans h1,(hc _ _ (zai h2)).trans h2,(hc _ _ (zai h3)).trans h3,(hc _ _ (zai h4)).trans h4,h5.trans (hb.mono (Nat.le_trans hm h5.size))⟩
theorem yafr {rs:List PR}{ns:List PN}(hk:chkL rs ns=.ok){r:PR}(hr:r ∈ rs):∃j:Nat,r.root=(j:Int)/\j<ns.length:=by
 obtain⟨-,-,-,-,-,h6,-⟩:=z3k hk;have key:∀(l:List PR) (b:Int),ordR ns l b=true->∀r,r ∈ l->b<r.root/\r.root<ns.length:=by
  intro l
  induction l with
  |nil=>intro b _ r hr;cases hr
  |cons x t ih=>
   intro b h r hr;obtain⟨h1,h2,h3,h4⟩:=zuf h;rcases List.mem_cons.1 hr with rfl|hr
   ·exact⟨h1,h2⟩
   ·have:=ih _ h4 r hr
    exact⟨by omega,this.2⟩
 have:=key rs (-1) h6 r hr;exact⟨r.root.toNat,by omega,by omega⟩
theorem yac4 (rs:List PR)(ns:List PN)(ra na:Option Addr)(rn rc nn nc:Nat)(hrn:rn=rs.length)(hnn:nn=ns.length)(hk:chkL rs ns=.ok)(hw:∀n,n ∈ ns->z87 n)(hl:(z88 rs ns).length<=1000000)(W:World)(hN:NodesAt W (.slice na nn nc) ns)(hR:RulesIn W (.slice ra rn rc) rs) :
  Calls Tryz.prog 11 #[.agg #[.slice ra rn rc,.slice na nn nc]] W fun e w'=>e=.returned (.string (strOf (z88 rs ns)))/\Below W.heap.size W w':=by
 unfold z88 at hl ⊢;have HT:=Lib.hid fun(i:Nat) (hi:i<ns.length) (hl:(tx ns (nmOf rs) cxN 0 (i:Int)).length<=1000000)=>yaav rs ns ra na rn rc nn nc i hrn hnn hk hw hi hl
 have HK:=Lib.hid fun(r:PR) (hr:r ∈ rs)=>yafr hk hr
 have HN:=Lib.hid hN;have HR:=Lib.hid hR;have HL:=Lib.hid hl;have HRN:=Lib.hid hrn;have HRL:=Lib.hid (show rn<=9223372036854775807 from by have:=hR.1;unfold maxLen at this;omega);clear hN hR hk hw hl hrn hnn;have HG:=Lib.hid (Bl.new W 25 #[.slice ra rn rc,.slice na nn nc]);have hB1:=zaa W (.cells #[.slice ra rn rc,.slice na nn nc] 25);go_enter Tryz.func11,Tryz.ntmps11;obtain⟨W1,hW1⟩:∃W1,W.alloc (.cells #[.slice ra rn rc,.slice na nn nc] 25)=W1:=⟨_,rfl⟩;obtain⟨B0,hB0q⟩:∃B0,W.heap.size=B0:=⟨_,rfl⟩
 go_wp2_with fail
 rw[hW1] at HG hB1;have HB1:=Lib.hid hB1;have HN1:=Lib.hid (HN.out.kept HB1.out (Nat.le_refl _));have HR1:=Lib.hid (HR.out.kept HB1.out (Nat.le_refl _));rw[hB0q] at HG;clear hB1 hW1 HN HR
 go_loopw [3,4] (fun s c wr=>∃(k:Nat) (S:ByteArray),k<=rn/\c=.int .i64 k/\s=.string S/\S=strOf (fileX ns (nmOf rs) cxN (rs.take k))/\Below W1.heap.size W1 wr) (fun _ c _=>rn-(intOf c).toNat)
 case atStart=>exact⟨0,_,Nat.zero_le _,rfl,rfl,rfl,Below.refl _ _⟩
 case round=>
  obtain⟨k,S,hk,rfl,rfl,hS,hb⟩:=hrel;have v0:=(HG.out.below hb).cell (o:=0) (u:=.slice ra rn rc) rfl;have v1:=(HG.out.below hb).cell (o:=1) (u:=.slice na nn nc) rfl;have vl:=(HG.out.below hb).lt;have HN2:=Lib.hid (HN1.out.kept hb (Nat.le_refl _));have HR2:=Lib.hid (HR1.out.kept hb (Nat.le_refl _));have HBW:=Lib.hid (HB1.out.trans (hb.mono HB1.out.size));have HBR:=Lib.hid hb;by_cases hlt2:k<rn
  ·obtain⟨r,hr⟩:∃r,rs[k]?=some r:=⟨_,List.getElem?_eq_getElem (by rw[<-HRN.out];exact hlt2)⟩
   obtain⟨rb,ro,ern,r0,r1⟩:=HR2.out.nth hr;obtain⟨j,hj,hjl⟩:=HK.out r (List.mem_of_getElem? hr);have k2:(k:Int)<(rn:Int):=by omega
   have w1:IntKind.i64.wrap ((k:Int)+1)=(k:Int)+1:=IntWalk.i64_in _ (by have:=HRL.out;omega);have hJ2:=yagj (ns:=ns) (nm:=nmOf rs) (cx:=cxN) rs (k+1);have HNX:=Lib.hid (yagi (ns:=ns) (nm:=nmOf rs) (cx:=cxN) hr);rw[HNX.out,hj] at hJ2;rw[hj] at HNX r1;have hL:=HL.out;obtain⟨J,hJq⟩:∃J,fileX ns (nmOf rs) cxN (rs.take k)=J:=⟨_,rfl⟩;obtain⟨T,hTq⟩:∃T,tx ns (nmOf rs) cxN 0 (j:Int)=T:=⟨_,rfl⟩;rw[hJq] at hS hJ2 HNX;rw[hTq] at hJ2 HNX;obtain⟨nm,hnm⟩:∃nm,bts r.name=nm:=⟨_,rfl⟩;rw[hnm] at hJ2 HNX;rw[List.length_append,List.length_append,List.length_append,List.length_append,List.length_singleton,show [32,60,45,32].length=4 from rfl] at hJ2;have hR:=HT.out j hjl (by rw[hTq];omega);rw[hTq] at hR;have hrn:r.name=strOf nm:=by rw[<-hnm,zt7]
   rw[hrn] at r0;have a1:=z86 J nm (by omega);have a2:=z86 (J++nm) [32,60,45,32] (by simp;omega);have a3:=z86 (J++nm++[32,60,45,32]) T (by simp;omega);have a4:=z86 (J++nm++[32,60,45,32]++T) [10] (by simp;omega);rw[<-hS] at a1;rw[show strOf [32,60,45,32]=⟨#[32,60,45,32]⟩ from rfl] at a2;rw[show strOf [10]=⟨#[10]⟩ from rfl] at a4;obtain⟨S0,hS0⟩:∃S0,strOf nm=S0:=⟨_,rfl⟩;obtain⟨S1,hS1⟩:∃S1,strOf (J++nm)=S1:=⟨_,rfl⟩;obtain⟨S2,hS2⟩:∃S2,strOf (J++nm++[32,60,45,32])=S2:=⟨_,rfl⟩;obtain⟨S3,hS3⟩:∃S3,strOf (J++nm++[32,60,45,32]++T)=S3:=⟨_,rfl⟩;obtain⟨S4,hS4⟩:∃S4,strOf (J++nm++[32,60,45,32]++T++[10])=S4:=⟨_,rfl⟩;obtain⟨ST,hST⟩:∃ST,strOf T=ST:=⟨_,rfl⟩;rw[hS0,hS1] at a1;rw[hS1,hS2] at a2;rw[hS2,hST,hS3] at a3;rw[hS3,hS4] at a4;rw[hS0] at r0;rw[hST] at hR;have HSN:=Lib.hid (show S4=strOf (fileX ns (nmOf rs) cxN (rs.take (k+1))) from by rw[HNX.out,<-hS4];simp);obtain⟨m0,hm0⟩:∃m0,m0=wr.heap.size:=⟨_,rfl⟩;have HM0:=Lib.hid hm0;have hm1:m0<=wr.heap.size:=Nat.le_of_eq hm0;have HC:=Lib.hid fun(W:World) (h:Below m0 wr W)=>hR W (HN2.out.kept h (Nat.le_of_eq hm0.symm)) (HR2.out.kept h (Nat.le_of_eq hm0.symm))
   have hSd:wr.drew.cell? ⟨B0,0,none⟩=some (.slice ra rn rc)/\wr.drew.cell? ⟨B0,1,none⟩=some (.slice na nn nc)/\wr.drew.cell? ⟨rb,ro+k*2,none⟩=some (.string S0)/\wr.drew.cell? ⟨rb,ro+k*2+1,none⟩=some (.int .i64 (j:Int))/\Below m0 wr wr.drew:=⟨v0,v1,r0,r1,hm0 ▸ Below.drew (Below.refl _ _)⟩;rw[ern] at v0 hSd HC;clear hS hJ2 hJq hTq hnm hrn hS0 hS1 hS2 hS3 hS4 hST hR hL hr hj hjl hb hm0 ern;have hS:=hSd;clear hSd;go_wp2
   go_region_held3 (fun W=>W.cell? ⟨B0,0,none⟩=some (.slice (some ⟨rb,ro,none⟩) rn rc)/\W.cell? ⟨B0,1,none⟩=some (.slice na nn nc)/\W.cell? ⟨rb,ro+k*2,none⟩=some (.string S0)/\W.cell? ⟨rb,ro+k*2+1,none⟩=some (.int .i64 (j:Int))/\Below m0 wr W) (first|exact hS)
    (first
     |(go_at_call 13;(with_reducible refine(HC.out _ hS.2.2.2.2).mono ?_);rintro ev w5 ⟨rfl,hb⟩;replace hS:=prnK hm1 hb hS;clear hb))
   obtain⟨-,-,-,-,hbf⟩:=hS;have HBF:=Lib.hid (HBR.out.trans ((HM0.out ▸ hbf:Below wr.heap.size wr _).mono HBR.out.size));clear hbf;go_wp2;go_roundw
   case rel=>exact⟨k+1,_,by omega,by go_num,rfl,HSN.out,HBF.out⟩
   case measure=>simp[intOf];omega
  ·obtain rfl:k=rn:=by omega
   have k2:¬(k:Int)<(k:Int):=by omega
   rw[List.take_of_length_le (by rw[HRN.out];exact Nat.le_refl _)] at hS;subst hS;clear hb;go_wp2;go_ret;exact⟨rfl,hB0q ▸ HBW.out⟩
end
end Go.Proofs.YtmopdlbpkiaoeaaGreatDoor
