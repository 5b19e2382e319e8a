/- ResolveCloses. Written by wip/gen/reslaw4.py. -/
import Derived.Deep.QuietTactic
import Derived.BigQuiet
import Derived.Test.YtnmflokhnaiiiaaGreatDoorPkRG
import Derived.Test.YtnmflokhnaiiiaaGreatDoorPkRF
import Derived.Test.YtnmflokhnaiiiaaGreatDoorPkResCloM
set_option maxRecDepth 100000
set_option maxHeartbeats 8000000
namespace Go.Proofs.YtnmflokhnaiiiaaGreatDoor
section
open Go.RowKit
theorem z5y (hA:zbx)(s:ByteArray)(w:World)(hl:LexLaid w)(hs:s.size<=1000){rs:List (List Nat × Nat × Int)}{f:MF}(hO:zaz (bts s)=.ok rs f):Calls Tryz.prog 6 #[.string s] w fun e w'=>e=.returned (.bool true)/\Below w.heap.size w w':=by
 have HAW:=Lib.hid fun(W:World) (hb:Below w.heap.size w W)=>hA W (hl.kept hb (Nat.le_refl _))
 have HP:=Lib.hid fun(W:World) (hb:Below w.heap.size w W)=>(zax s W (hl.2.kept hb (Nat.le_refl _)) (by omega)).mono fun e w' h=>zb6 (by
  rw[zbj,hO] at h;exact h)
 have HQ:=Lib.hid fun(W:World) (_:Below w.heap.size w W)=>(za1 s W (by omega)).mono fun e w' h=>zc2 (by
  rw[hO] at h;exact h)
 have HOK:=Lib.hid (zb9 (by omega) hO);have HB0:=Lib.hid (Below.refl w.heap.size w);have HL:=Lib.hid hl;have k1:¬(1000:Int)<(s.size:Int):=by omega
 clear hO hl hs hA;go_enter Tryz.func6,Tryz.ntmps6
 go_upto_region 3 with(first
  |(go_at_call 8;(with_reducible refine(HP.out _ HB0.out).mono ?_);rintro e w1 ⟨va,vc,na,nc,ca,cc,rfl,hG,hb⟩;have hn:=zaa w1 (.cells #[.slice va rs.length vc,.slice na f.nodes.length nc,.slice ca f.calls.length cc] 26);have hbn:=hb.trans (hn.mono hb.size);have HG1:=Lib.hid (hG.below hn).file;have HF1:=Lib.hid (Bl.new w1 26 #[.slice va rs.length vc,.slice na f.nodes.length nc,.slice ca f.calls.length cc]);have HB1:=Lib.hid (HB0.out.trans (hbn.mono HB0.out.size));clear hG hb hn hbn)
  |(go_at_call 9;(with_reducible refine(HQ.out _ HB1.out).mono ?_);rintro e w2 ⟨vb,vbc,nb,nbc,cb,cbc,rfl,hG,hb⟩;have hn:=zaa w2 (.cells #[.slice vb rs.length vbc,.slice nb f.nodes.length nbc,.slice cb f.calls.length cbc] 34);have hbn:=hb.trans (hn.mono hb.size);have HH2:=Lib.hid (hG.below hn).file;have HG2:=Lib.hid (HG1.out.below hbn);have HF2:=Lib.hid (HF1.out.below hbn);have HE2:=Lib.hid (Bl.new w2 34 #[.slice vb rs.length vbc,.slice nb f.nodes.length nbc,.slice cb f.calls.length cbc]);have HB2:=Lib.hid (HB1.out.trans (hbn.mono HB1.out.size));clear hG hb hn hbn))
 obtain⟨W2,hW2⟩:∃W2,w2.alloc (.cells #[.slice vb rs.length vbc,.slice nb f.nodes.length nbc,.slice cb f.calls.length cbc] 34)=W2:=⟨_,rfl⟩;obtain⟨F1,hF1⟩:∃F1,w1.heap.size=F1:=⟨_,rfl⟩;obtain⟨F2,hF2⟩:∃F2,w2.heap.size=F2:=⟨_,rfl⟩;rw[hW2] at HG2 HF2 HH2 HE2 HB2;rw[hF1] at HF2;rw[hF2] at HE2;rw[hW2,hF1,hF2];clear hW2 hF1 hF2 HG1 HF1 HB1
 go_upto_region 7 with(go_at_call 10;(with_reducible refine(HAW.out _ HB2.out).mono ?_);rintro e w3 ⟨rfl,hb⟩;have HG3:=Lib.hid (HG2.out.below hb);have HF3:=Lib.hid (HF2.out.below hb);have HH3:=Lib.hid (HH2.out.below hb);have HE3:=Lib.hid (HE2.out.below hb);have HB3:=Lib.hid (HB2.out.trans (hb.mono HB2.out.size));clear hb)
 have f0:=HF3.out.cell (o:=0) (u:=.slice va rs.length vc) rfl;have f1:=HF3.out.cell (o:=1) (u:=.slice na f.nodes.length nc) rfl;have f2:=HF3.out.cell (o:=2) (u:=.slice ca f.calls.length cc) rfl;have fl:=HF3.out.lt;have e0:=HE3.out.cell (o:=0) (u:=.slice vb rs.length vbc) rfl;have e1:=HE3.out.cell (o:=1) (u:=.slice nb f.nodes.length nbc) rfl;have e2:=HE3.out.cell (o:=2) (u:=.slice cb f.calls.length cbc) rfl;have el:=HE3.out.lt;clear HG2 HF2 HH2 HE2 HB2 HE3 HH3 e0 e1 e2 el;have hrl:rs.length<=10000000:=HOK.out.rl;have hs3:=HB3.out.size;have HS3:=Lib.hid hs3;go_wp2;clear f0 f1 f2 fl hs3
 go_loopw [9,8] (fun c v wr=>∃k:Nat,k<=rs.length/\c=.int .i64 k/\v=.bool (twB (nmR rs) k)/\Below w3.heap.size w3 wr) (fun c _ _=>rs.length-(intOf c).toNat)
 case atStart=>exact⟨0,Nat.zero_le _,rfl,rfl,Below.refl _ _⟩
 case round=>
  obtain⟨k,hk,rfl,rfl,hb⟩:=hrel;have hbs:=hb.size;have HB:=Lib.hid hb;have HF4:=Lib.hid (HF3.out.below hb);have HG4:=Lib.hid (HG3.out.below hb);clear hb;have f0:=HF4.out.cell (o:=0) (u:=.slice va rs.length vc) rfl;have f1:=HF4.out.cell (o:=1) (u:=.slice na f.nodes.length nc) rfl;have f2:=HF4.out.cell (o:=2) (u:=.slice ca f.calls.length cc) rfl;have fl:=HF4.out.lt;by_cases hlt:k<rs.length
  ·obtain⟨x,hx⟩:∃x,rs[k]?=some x:=⟨_,List.getElem?_eq_getElem hlt⟩
   obtain⟨-,⟨a1,c1,hva,-,ha1⟩,-⟩:=HG4.out;injection hva with ea _ ec;subst ea ec;rcases ha1 with hz|⟨ab,ao,rfl,hca⟩
   ·rw[hz] at hlt;exact absurd hlt (Nat.not_lt_zero _)
   obtain⟨d0,-,-,d3⟩:=zdt hca hx (Below.refl _ _);have k2:(k:Int)<(rs.length:Int):=by omega
   have hxs:(strOf x.1).size<=2000000:=by rw[zb0];exact HOK.out.rn x (List.mem_of_getElem? hx)
   obtain⟨j,hj,hjk⟩:=zgu (zgw hx);have HDB:=Lib.hid (zmd (zgw hx) hj);have HTW:=Lib.hid (z1o (nmR rs) k);have HNR:=Lib.hid (fun(W:World) (hW:Below wr.heap.size wr W)=>zgz _ _ _ rs f (strOf x.1) W (HG4.out.below hW) HOK.out hxs);rw[hj] at HNR;have HNR:Hid (∀(W:World),Below wr.heap.size wr W->Calls Tryz.prog 17 #[.agg #[.slice (some ⟨ab,ao,none⟩) rs.length vc,.slice na f.nodes.length nc,.slice ca f.calls.length cc],.string (strOf x.1)] W fun e w'=>e=.returned (.int .i64 (j:Int))/\Below W.heap.size W w'):=HNR;clear hca hx hxs hj;cases htw:twB (nmR rs) k with
   |true=>
    rw[htw,Bool.true_or] at HTW;clear htw;go_wp2;go_quiet (fail);go_wp2;go_roundw
    case rel=>exact⟨k+1,hlt,by go_num,by rw[HTW.out],zak HB.out⟩
    case measure=>simp[intOf];omega
   |false=>
    rw[htw,Bool.false_or,HDB.out] at HTW;clear htw;by_cases hjl:j<k
    ·rw[decide_eq_true hjl] at HTW
     have q1:((j:Int) != (k:Int))=true:=zah (by omega);go_wp2
     go_region_with (go_at_call 17;(refine(HNR.out _ (by repeat (first|exact Below.refl _ _|refine Below.drew ?_))).mono ?_);rintro e w4 ⟨rfl,hb⟩;have hb4:Below wr.heap.size wr w4:=Below.trans (by repeat (first|exact Below.refl _ _|refine Below.drew ?_)) (hb.mono (by simp));have HB4:=Lib.hid (HB.out.trans (hb4.mono hbs));clear hb hb4 f0 f1 f2 fl d0 d3)
     all_goals
      go_wp2;go_roundw
      case rel=>exact⟨k+1,hlt,by go_num,by rw[HTW.out],HB4.out⟩
      case measure=>simp[intOf];omega
    ·rw[decide_eq_false hjl] at HTW
     have q1:((j:Int) != (k:Int))=false:=by
      have:j=k:=by omega
      rw[this];simp
     go_wp2
     go_region_with (go_at_call 17;(refine(HNR.out _ (by repeat (first|exact Below.refl _ _|refine Below.drew ?_))).mono ?_);rintro e w4 ⟨rfl,hb⟩;have hb4:Below wr.heap.size wr w4:=Below.trans (by repeat (first|exact Below.refl _ _|refine Below.drew ?_)) (hb.mono (by simp));have HB4:=Lib.hid (HB.out.trans (hb4.mono hbs));clear hb hb4 f0 f1 f2 fl d0 d3)
     all_goals
      go_wp2;go_roundw
      case rel=>exact⟨k+1,hlt,by go_num,by rw[HTW.out],HB4.out⟩
      case measure=>simp[intOf];omega
  ·obtain rfl:k=rs.length:=by omega
   have k2:¬(rs.length:Int)<(rs.length:Int):=by omega
   rw[z5x];cases hd:dupO rs with
   |some x=>
    have HD:=Lib.hid hd;have hv:(some x:Option (List Nat × Nat)).isSome=true:=rfl;rw[hv];clear hd
    go_upto_region 13 with(go_at_call 11;(with_reducible refine(zxi _ _ _ rs f _ HG4.out HOK.out x HD.out).mono ?_);rintro e w5 ⟨b,rfl,hE,hb⟩;have hn:=zaa w5 (.cells #[.slice none 0 0,.slice none 0 0] 40);have hbn:=hb.trans (hn.mono hb.size);have HB5:=Lib.hid (HB.out.trans (hbn.mono hbs));have HG5:=Lib.hid (HG4.out.below hbn);have HF5:=Lib.hid (HF4.out.below hbn);clear hE hb hn hbn f0 f1 f2 fl)
    obtain⟨W5,hW5⟩:∃W5,w5.alloc (.cells #[.slice none 0 0,.slice none 0 0] 40)=W5:=⟨_,rfl⟩;rw[hW5] at HB5 HG5 HF5;rw[hW5];clear hW5;go_quiet (fail);go_wp2;go_ret;exact⟨rfl,HB3.out.trans ((zak HB5.out).mono HS3.out)⟩
   |none=>
    have HD:=Lib.hid hd;have hv:(none:Option (List Nat × Nat)).isSome=false:=rfl;rw[hv];clear hd;cases hu:undO (nmR rs) f with
    |some x=>
     have HU:=Lib.hid hu;have hmn:=zyj hu;have q3:(((missL (nmC f) (nmR rs) f.calls.length).length:Int) == 0)=false:=zae (by omega);clear hu hmn
     go_upto_region 13 with(go_at_call 11;(with_reducible refine(zr8 _ _ _ rs f _ HG4.out HOK.out x HD.out HU.out).mono ?_);rintro e w5 ⟨b,rfl,hE,hb⟩;have hn:=zaa w5 (.cells #[.slice none 0 0,.slice none 0 0] 40);have hbn:=hb.trans (hn.mono hb.size);have HB5:=Lib.hid (HB.out.trans (hbn.mono hbs));have HG5:=Lib.hid (HG4.out.below hbn);have HF5:=Lib.hid (HF4.out.below hbn);clear hE hb hn hbn f0 f1 f2 fl)
     obtain⟨W5,hW5⟩:∃W5,w5.alloc (.cells #[.slice none 0 0,.slice none 0 0] 40)=W5:=⟨_,rfl⟩;rw[hW5] at HB5 HG5 HF5;rw[hW5];clear hW5;have HND:=Lib.hid (fun(W:World) (hW:Below W5.heap.size W5 W)=>zio _ _ _ rs f W (HG5.out.below hW) HOK.out);have f0:=HF5.out.cell (o:=0) (u:=.slice va rs.length vc) rfl;have f1:=HF5.out.cell (o:=1) (u:=.slice na f.nodes.length nc) rfl;have f2:=HF5.out.cell (o:=2) (u:=.slice ca f.calls.length cc) rfl;have fl:=HF5.out.lt
     go_region_with (go_at_call 20;(refine(HND.out _ (by repeat (first|exact Below.refl _ _|refine Below.drew ?_))).mono ?_);intro e w6 hh;obtain⟨v6,he,ho,hb⟩:=hh;subst he;obtain⟨a6,c6,rfl⟩:=zag ho;have hb6:Below W5.heap.size W5 w6:=Below.trans (by repeat (first|exact Below.refl _ _|refine Below.drew ?_)) (hb.mono (by simp));have HB6:=Lib.hid hb6;clear ho hb hb6 f0 f1 f2 fl)
     all_goals
      go_wp2;go_ret;exact⟨rfl,HB3.out.trans ((HB5.out.trans (HB6.out.mono HB5.out.size)).mono HS3.out)⟩
    |none=>
     have HU:=Lib.hid hu;have hmn:=zyk hu;have q3:(((missL (nmC f) (nmR rs) f.calls.length).length:Int) == 0)=true:=by rw[hmn];rfl
     clear hu hmn
     go_upto_region 13 with(go_at_call 11;(with_reducible refine(of_ok _ _ _ rs f _ HG4.out HOK.out HD.out HU.out).mono ?_);rintro e w5 ⟨rv5,nv5,qs5,rfl,hR,hN,hb⟩;obtain⟨ra5,rc5,rfl⟩:=zag hR;obtain⟨na5,nc5,rfl⟩:=zag hN.2.1;have hn:=zaa w5 (.cells #[.slice ra5 (zam rs).length rc5,.slice na5 (zan (nmR rs) (nmC f) f.nodes).length nc5] 40);have hbn:=hb.trans (hn.mono hb.size);have HR5:=Lib.hid (RulesIn.of_own (zab hR hn) (zse HOK.out));have HN5:=Lib.hid ((hN.grown hn).nodes (zsf HOK.out) (zhl HOK.out));have HY5:=Lib.hid (Bl.new w5 40 #[.slice ra5 (zam rs).length rc5,.slice na5 (zan (nmR rs) (nmC f) f.nodes).length nc5]);have HB5:=Lib.hid (HB.out.trans (hbn.mono hbs));have HG5:=Lib.hid (HG4.out.below hbn);have HF5:=Lib.hid (HF4.out.below hbn);clear hR hN hb hn hbn f0 f1 f2 fl)
     obtain⟨W5,hW5⟩:∃W5,w5.alloc (.cells #[.slice ra5 (zam rs).length rc5,.slice na5 (zan (nmR rs) (nmC f) f.nodes).length nc5] 40)=W5:=⟨_,rfl⟩;obtain⟨Y,hY⟩:∃Y,w5.heap.size=Y:=⟨_,rfl⟩;rw[hW5] at HR5 HN5 HY5 HB5 HG5 HF5;rw[hY] at HY5;rw[hW5,hY];clear hW5 hY;have HND:=Lib.hid (fun(W:World) (hW:Below W5.heap.size W5 W)=>zio _ _ _ rs f W (HG5.out.below hW) HOK.out);have f0:=HF5.out.cell (o:=0) (u:=.slice va rs.length vc) rfl;have f1:=HF5.out.cell (o:=1) (u:=.slice na f.nodes.length nc) rfl;have f2:=HF5.out.cell (o:=2) (u:=.slice ca f.calls.length cc) rfl;have fl:=HF5.out.lt
     go_region_with (go_at_call 20;(refine(HND.out _ (by repeat (first|exact Below.refl _ _|refine Below.drew ?_))).mono ?_);intro e w6 hh;obtain⟨v6,he,ho,hb⟩:=hh;subst he;obtain⟨a6,c6,rfl⟩:=zag ho;have hb6:Below W5.heap.size W5 w6:=Below.trans (by repeat (first|exact Below.refl _ _|refine Below.drew ?_)) (hb.mono (by simp));have HB6:=Lib.hid hb6;clear ho hb hb6 f0 f1 f2 fl)
     have HR6:=Lib.hid (HR5.out.kept HB6.out (Nat.le_refl _));have HN6:=Lib.hid (HN5.out.kept HB6.out (Nat.le_refl _));have HY6:=Lib.hid (HY5.out.below HB6.out);have HG6:=Lib.hid (HG5.out.below HB6.out);have HF6:=Lib.hid (HF5.out.below HB6.out);have HB7:=Lib.hid (HB5.out.trans (HB6.out.mono HB5.out.size));have HNL:Hid ((zan (nmR rs) (nmC f) f.nodes).length=f.nodes.length):=Lib.hid (zc1 _ _ _);have hnl:f.nodes.length<=100000000:=HOK.out.nl;go_wp2
     go_loopw [13,12] (fun c v wq=>∃i:Nat,i<=f.nodes.length/\c=.int .i64 i/\v=.int .i64 (cnt2 (f.nodes.take i))/\Below w6.heap.size w6 wq) (fun c _ _=>f.nodes.length-(intOf c).toNat)
     case atStart=>exact⟨0,Nat.zero_le _,rfl,rfl,Below.refl _ _⟩
     case round=>
      obtain⟨i,hi,rfl,rfl,hb⟩:=hrel;have hbs7:=hb.size;have HB8:=Lib.hid hb;have HY8:=Lib.hid (HY6.out.below hb);have HF8:=Lib.hid (HF6.out.below hb);have HG8:=Lib.hid (HG6.out.below hb);have HR8:=Lib.hid (HR6.out.kept hb (Nat.le_refl _));have HN8:=Lib.hid (HN6.out.kept hb (Nat.le_refl _));clear hb;have y0:=HY8.out.cell (o:=0) (u:=.slice ra5 (zam rs).length rc5) rfl;have y1:=HY8.out.cell (o:=1) (u:=.slice na5 (zan (nmR rs) (nmC f) f.nodes).length nc5) rfl;have yl:=HY8.out.lt;have f2:=HF8.out.cell (o:=2) (u:=.slice ca f.calls.length cc) rfl;have fl:=HF8.out.lt;by_cases hlt:i<f.nodes.length
      ·obtain⟨n0,hn0⟩:∃n0,f.nodes[i]?=some n0:=⟨_,List.getElem?_eq_getElem hlt⟩
       have hgn:(zan (nmR rs) (nmC f) f.nodes)[i]?=some (gNode (nmR rs) (nmC f) n0):=by unfold zan;rw[List.getElem?_map,hn0];rfl
       obtain⟨-,na6,nc6,hnv,hna⟩:=HN8.out;injection hnv with ea _ ec;subst ea ec;rcases hna with hz|⟨nb6,no6,rfl,hca⟩
       ·rw[hz] at hgn;cases hgn
       obtain⟨kv,d0,d1,d2,d3,d4,d5,d6,di,-⟩:=hca i _ hgn;have dl:=zai d0;obtain⟨ka,kc,rfl,-⟩:=di;have k3:(i:Int)<((zan (nmR rs) (nmC f) f.nodes).length:Int):=by rw[HNL.out];omega
       have HCT:=Lib.hid (zjo hn0);by_cases h2:n0.op=2
       ·obtain⟨c,hcr,hcl⟩:=HOK.out.ok.rule hn0 h2
        have hcc:=HOK.out.ok.2 i n0 hn0 h2;rw[hcr] at hcc;have hcc:c=cnt2 (f.nodes.take i):=by omega
        obtain⟨x,hx⟩:∃x,f.calls[c]?=some x:=⟨_,List.getElem?_eq_getElem hcl⟩;obtain⟨j,hj,hjl⟩:=zt3 HU.out hx;have hgr:gNode (nmR rs) (nmC f) n0=⟨n0.op,n0.kids,(j:Int),n0.s0,n0.s1,n0.s2,n0.s3⟩:=by
         have e:(nmC f).getD n0.rule.toNat ByteArray.empty=strOf x.1:=by
          rw[hcr,Int.toNat_natCast,List.getD_eq_getElem?_getD,zgx hx];rfl
         unfold gNode;rw[if_pos h2,e,hj];rfl
        rw[hgr] at d0 d1 d2 d3 d4 d5 d6;dsimp only at d0 d1 d2 d3 d4 d5 d6;rw[h2] at d0;rw[if_pos h2] at HCT;have hjr:j<(zam rs).length:=by
         have:=(List.getElem?_eq_some_iff.1 hjl).1;unfold zam;rw[List.length_map];rw[zdv] at this;exact this
        obtain⟨r1,hrj,hrn⟩:=zyl hjl;obtain⟨-,ra6,rc6,hrv,hra⟩:=HR8.out;injection hrv with ea _ ec;subst ea ec;rcases hra with hz|⟨rb6,ro6,rfl,hrc⟩
        ·rw[hz] at hrj;cases hrj
        obtain⟨r0,-⟩:=hrc j _ hrj;rw[hrn] at r0;have rl:=zai r0;obtain⟨-,-,-,ca6,cc6,hcv,-,hcx⟩:=HG8.out;injection hcv with ea _ ec;subst ea ec;rcases hcx with hz|⟨cb6,co6,rfl,hcca⟩
        ·rw[hz] at hcl;exact absurd hcl (Nat.not_lt_zero _)
        obtain⟨e0,-,el⟩:=zcy hcca hx (Below.refl _ _);subst hcc;have q4:¬(f.calls.length:Int)<=((cnt2 (f.nodes.take i):Nat):Int):=by omega
        have q5:¬(j:Int)<0:=by omega
        have q6:¬((zam rs).length:Int)<=(j:Int):=by omega
        have q7:(j:Int)<((zam rs).length:Int):=by omega
        have q8:((cnt2 (f.nodes.take i):Nat):Int)<(f.calls.length:Int):=by omega
        have qd4:decide ((f.calls.length:Int)<=((cnt2 (f.nodes.take i):Nat):Int))=false:=decide_eq_false q4;have qd5:decide ((j:Int)<0)=false:=decide_eq_false q5;have qd6:decide (((zam rs).length:Int)<=(j:Int))=false:=decide_eq_false q6;have HBN:=Lib.hid (zaa wr (.cells #[.int .i64 2,.slice ka n0.kids.length kc,.int .i64 (j:Int),.int .u64 n0.s0,.int .u64 n0.s1,.int .u64 n0.s2,.int .u64 n0.s3] 73));have hcb:cnt2 (f.nodes.take i)<=100000000:=by have:=HOK.out.cl;omega
        clear hca hgn hn0 hcr hx hj hjl hgr hrj hrn hrc hcca h2;go_wp2;go_quiet (fail);go_wp2;go_roundw
        case rel=>exact⟨i+1,hlt,by go_num,by rw[HCT.out];first|rfl|omega|(simp;done)|(congr 1;omega),HB8.out.trans ((zak HBN.out).mono hbs7)⟩
        case measure=>simp[intOf];omega
       ·have hgr:gNode (nmR rs) (nmC f) n0=n0:=if_neg h2
        rw[hgr] at d0 d1 d2 d3 d4 d5 d6;rw[if_neg h2,Nat.add_zero] at HCT;have q1:(n0.op != 2)=true:=zah h2;have HBN:=Lib.hid (zaa wr (.cells #[.int .i64 n0.op,.slice ka n0.kids.length kc,.int .i64 n0.rule,.int .u64 n0.s0,.int .u64 n0.s1,.int .u64 n0.s2,.int .u64 n0.s3] 73));clear hca hgn hn0 hgr h2;go_wp2;go_roundw
        case rel=>exact⟨i+1,hlt,by go_num,by rw[HCT.out];first|done|rfl,HB8.out.trans (HBN.out.mono hbs7)⟩
        case measure=>simp[intOf];omega
      ·obtain rfl:i=f.nodes.length:=by omega
       have k3:¬(f.nodes.length:Int)<((zan (nmR rs) (nmC f) f.nodes).length:Int):=by rw[HNL.out];omega
       have hct:cnt2 (f.nodes.take f.nodes.length)=f.calls.length:=by rw[List.take_length];exact HOK.out.ok.1
       rw[hct];go_wp2;go_ret;exact⟨rfl,HB3.out.trans ((HB7.out.trans (HB8.out.mono HB7.out.size)).mono HS3.out)⟩
theorem z1p (hA:zbx)(s:ByteArray)(w:World)(hl:LexLaid w)(hs:s.size<=1050000)(hb:1000<s.size){rs:List (List Nat × Nat × Int)}{f:MF}(hO:zaz (bts s)=.ok rs f):Calls Tryz.prog 6 #[.string s] w fun e w'=>e=.returned (.bool true)/\Below w.heap.size w w':=by
 have HAW:=Lib.hid fun(W:World) (hb:Below w.heap.size w W)=>hA W (hl.kept hb (Nat.le_refl _))
 have HB0:=Lib.hid (Below.refl w.heap.size w);have HP:=Lib.hid fun(W:World) (hb:Below w.heap.size w W)=>(zax s W (hl.2.kept hb (Nat.le_refl _)) (by omega)).mono fun e w' h=>zb6 (by
  rw[zbj,hO] at h;exact h)
 have HQ:=Lib.hid fun(W:World) (_:Below w.heap.size w W)=>(za1 s W (by omega)).mono fun e w' h=>zc2 (by
  rw[hO] at h;exact h)
 have k1:(1000:Int)<(s.size:Int):=by omega
 clear hO hl hs hA;go_enter Tryz.func6,Tryz.ntmps6
 go_wp2_with (first
  |(go_at_call 8;(with_reducible refine(HP.out _ HB0.out).mono ?_);rintro e w1 ⟨va,vc,na,nc,ca,cc,rfl,-,hb⟩;have hn:=zaa w1 (.cells #[.slice va rs.length vc,.slice na f.nodes.length nc,.slice ca f.calls.length cc] 26);have HB1:=Lib.hid (HB0.out.trans ((hb.trans (hn.mono hb.size)).mono HB0.out.size));clear hb hn)
  |(go_at_call 9;(with_reducible refine(HQ.out _ HB1.out).mono ?_);rintro e w2 ⟨vb,vbc,nb,nbc,cb,cbc,rfl,-,hb⟩;have hn:=zaa w2 (.cells #[.slice vb rs.length vbc,.slice nb f.nodes.length nbc,.slice cb f.calls.length cbc] 34);have HB2:=Lib.hid (HB1.out.trans ((hb.trans (hn.mono hb.size)).mono HB1.out.size));clear hb hn)
  |(go_at_call 10;(with_reducible refine(HAW.out _ HB3.out).mono ?_);rintro e w4 ⟨rfl,hb⟩;have HB4:=Lib.hid (HB3.out.trans (hb.mono HB3.out.size));clear hb)
  |(go_at_call 10;(with_reducible refine(HAW.out _ HB2.out).mono ?_);rintro e w3 ⟨rfl,hb⟩;have HB3:=Lib.hid (HB2.out.trans (hb.mono HB2.out.size));clear hb))
 go_ret;exact⟨rfl,HB4.out⟩
theorem zym (hA:zbx)(s:ByteArray)(w:World)(hl:LexLaid w)(hs:s.size<=1050000)(hb:1000<s.size){a:List Tok}{dp:Bool}(hO:zaz (bts s)=.bad a dp):Calls Tryz.prog 6 #[.string s] w fun e w'=>e=.returned (.bool true)/\Below w.heap.size w w':=by
 have HAW:=Lib.hid fun(W:World) (hb:Below w.heap.size w W)=>hA W (hl.kept hb (Nat.le_refl _))
 have HB0:=Lib.hid (Below.refl w.heap.size w);have HP:=Lib.hid fun(W:World) (hb:Below w.heap.size w W)=>(zax s W (hl.2.kept hb (Nat.le_refl _)) (by omega)).mono fun e w' h=>zc8 (by
  rw[zbj,hO] at h;exact h)
 have HQ:=Lib.hid fun(W:World) (_:Below w.heap.size w W)=>(za1 s W (by omega)).mono fun e w' h=>zdy (by
  rw[hO] at h;exact h)
 have ek:(erC dp != 0)=true:=by cases dp<;>rfl
 obtain⟨c,hc⟩:∃c,erC dp=c:=⟨_,rfl⟩;rw[hc] at HP HQ ek;have k1:(1000:Int)<(s.size:Int):=by omega
 clear hO hl hs hA hc;go_enter Tryz.func6,Tryz.ntmps6
 go_wp2_with (first
  |(go_at_call 8;(with_reducible refine(HP.out _ HB0.out).mono ?_);rintro e w1 ⟨rfl,hb⟩;have hn:=zaa w1 (.cells #[.slice none 0 0,.slice none 0 0,.slice none 0 0] 26);have HB1:=Lib.hid (HB0.out.trans ((hb.trans (hn.mono hb.size)).mono HB0.out.size));clear hb hn)
  |(go_at_call 9;(with_reducible refine(HQ.out _ HB1.out).mono ?_);rintro e w2 ⟨rfl,hb⟩;have hn:=zaa w2 (.cells #[.slice none 0 0,.slice none 0 0,.slice none 0 0] 34);have HB2:=Lib.hid (HB1.out.trans ((hb.trans (hn.mono hb.size)).mono HB1.out.size));clear hb hn)
  |(go_at_call 10;(with_reducible refine(HAW.out _ HB3.out).mono ?_);rintro e w4 ⟨rfl,hb⟩;have HB4:=Lib.hid (HB3.out.trans (hb.mono HB3.out.size));clear hb)
  |(go_at_call 10;(with_reducible refine(HAW.out _ HB2.out).mono ?_);rintro e w3 ⟨rfl,hb⟩;have HB3:=Lib.hid (HB2.out.trans (hb.mono HB2.out.size));clear hb))
 go_ret;exact⟨rfl,HB4.out⟩
theorem zyn (hA:zbx)(s:ByteArray)(w:World)(hl:LexLaid w)(hs:s.size<=1050000)(hb:s.size<=1000){a:List Tok}{dp:Bool}(hO:zaz (bts s)=.bad a dp):Calls Tryz.prog 6 #[.string s] w fun e w'=>e=.returned (.bool true)/\Below w.heap.size w w':=by
 have HAW:=Lib.hid fun(W:World) (hb:Below w.heap.size w W)=>hA W (hl.kept hb (Nat.le_refl _))
 have HB0:=Lib.hid (Below.refl w.heap.size w);have HP:=Lib.hid fun(W:World) (hb:Below w.heap.size w W)=>(zax s W (hl.2.kept hb (Nat.le_refl _)) (by omega)).mono fun e w' h=>zc8 (by
  rw[zbj,hO] at h;exact h)
 have HQ:=Lib.hid fun(W:World) (_:Below w.heap.size w W)=>(za1 s W (by omega)).mono fun e w' h=>zdy (by
  rw[hO] at h;exact h)
 have ek:(erC dp != 0)=true:=by cases dp<;>rfl
 obtain⟨c,hc⟩:∃c,erC dp=c:=⟨_,rfl⟩;rw[hc] at HP HQ ek;have k1:¬(1000:Int)<(s.size:Int):=by omega
 clear hO hl hs hA hc;go_enter Tryz.func6,Tryz.ntmps6
 go_wp2_with (first
  |(go_at_call 8;(with_reducible refine(HP.out _ HB0.out).mono ?_);rintro e w1 ⟨rfl,hb⟩;have hn:=zaa w1 (.cells #[.slice none 0 0,.slice none 0 0,.slice none 0 0] 26);have HB1:=Lib.hid (HB0.out.trans ((hb.trans (hn.mono hb.size)).mono HB0.out.size));clear hb hn)
  |(go_at_call 9;(with_reducible refine(HQ.out _ HB1.out).mono ?_);rintro e w2 ⟨rfl,hb⟩;have hn:=zaa w2 (.cells #[.slice none 0 0,.slice none 0 0,.slice none 0 0] 34);have HB2:=Lib.hid (HB1.out.trans ((hb.trans (hn.mono hb.size)).mono HB1.out.size));clear hb hn)
  |(go_at_call 10;(with_reducible refine(HAW.out _ HB3.out).mono ?_);rintro e w4 ⟨rfl,hb⟩;have HB4:=Lib.hid (HB3.out.trans (hb.mono HB3.out.size));clear hb)
  |(go_at_call 10;(with_reducible refine(HAW.out _ HB2.out).mono ?_);rintro e w3 ⟨rfl,hb⟩;have HB3:=Lib.hid (HB2.out.trans (hb.mono HB2.out.size));clear hb))
 go_ret;exact⟨rfl,HB4.out⟩
theorem z1q (hA:zbx)(s:ByteArray)(w:World)(hl:LexLaid w)(hs:s.size<=1050000):Calls Tryz.prog 6 #[.string s] w fun e w'=>e=.returned (.bool true)/\Below w.heap.size w w':=by
 cases hO:zaz (bts s) with
 |bad a dp=>
  by_cases h:s.size<=1000
  ·exact zyn hA s w hl hs h hO
  ·exact zym hA s w hl hs (by omega) hO
 |ok rs f=>
  by_cases h:s.size<=1000
  ·exact z5y hA s w hl h hO
  ·exact z1p hA s w hl hs (by omega) hO
end
end Go.Proofs.YtnmflokhnaiiiaaGreatDoor
