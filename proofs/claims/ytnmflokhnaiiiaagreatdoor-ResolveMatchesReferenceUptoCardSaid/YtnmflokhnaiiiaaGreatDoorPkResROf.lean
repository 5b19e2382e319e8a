/- The reference's Of. Written by wip/gen/resrof.py. -/
import Derived.Deep.Cut
import Derived.Test.YtnmflokhnaiiiaaGreatDoorPkRG
import Derived.Test.YtnmflokhnaiiiaaGreatDoorPkResRGSt
set_option maxRecDepth 100000
set_option maxHeartbeats 8000000
namespace Go.Proofs.YtnmflokhnaiiiaaGreatDoor
section
open Go.RowKit
theorem zhn {n B:Nat}{w W:World}(h:Below n w W)(hB:n<=B)(x0 x1 x2 x3 x4:Value):Below n w (((((W.setCell ⟨B,0,none⟩ x0).setCell ⟨B,1,none⟩ x1).setCell ⟨B,2,none⟩ x2).setCell ⟨B,3,none⟩ x3).setCell ⟨B,4,none⟩ x4):=
 ((((h.setCell (p:=⟨B,0,none⟩) hB x0).setCell (p:=⟨B,1,none⟩) hB x1).setCell (p:=⟨B,2,none⟩) hB x2).setCell (p:=⟨B,3,none⟩) hB x3).setCell (p:=⟨B,4,none⟩) hB x4
theorem zx3 {b B:Nat}(W:World)(hb:b≠B)(x0 x1 x2 x3 x4:Value):(((((W.setCell ⟨B,0,none⟩ x0).setCell ⟨B,1,none⟩ x1).setCell ⟨B,2,none⟩ x2).setCell ⟨B,3,none⟩ x3).setCell ⟨B,4,none⟩ x4).heap[b]?=W.heap[b]?:=by
 rw[heap_setCell_other _ _ _ _ hb,heap_setCell_other _ _ _ _ hb,heap_setCell_other _ _ _ _ hb,heap_setCell_other _ _ _ _ hb,heap_setCell_other _ _ _ _ hb]
theorem zeu (rv nv cv:Value)(rs:List (List Nat × Nat × Int))(f:MF)(w:World)(h:FileIn w rv nv cv rs f)(hK:FileOk rs f) :
  Calls Tryz.prog 12 #[.agg #[rv,nv,cv]] w (ROfIs rs f w):=by
 have HOK:=Lib.hid hK;have HFI:=Lib.hid (fun(x:ByteArray) (W:World) (hW:Below w.heap.size w W)=>zhm _ _ _ rs f x W (h.below hW) (by have:=hK.rl;omega));have hrl:=hK.rl;have hcl:=hK.cl;have hnl:=hK.nl;obtain⟨-,⟨a1,c1,rfl,-,ha1⟩,⟨-,a2,c2,rfl,ha2⟩,a3,c3,rfl,-,ha3⟩:=h;have HA1:=Lib.hid ha1;have HA2:=Lib.hid ha2;have HA3:=Lib.hid ha3;clear ha1 ha2 ha3 hK;have H0:Hid (RGst w #[.slice a1 rs.length c1,.slice a2 f.nodes.length c2,.slice a3 f.calls.length c3] (.slice none 0 0) 0 (zb5 (zam (rs.take 0))) (.slice none 0 0) [] [] (((w.alloc (.cells #[.slice a1 rs.length c1,.slice a2 f.nodes.length c2,.slice a3 f.calls.length c3] 34)).alloc (.cells #[.slice none 0 0,.slice none 0 0,.string ⟨#[]⟩,.int .i64 0,.int .i64 0] 44)).alloc (.cells #[.slice none 0 0,.slice none 0 0] 40))):=Lib.hid ⟨(Bl.new w _ _).past.past,(Bl.new' (by simp)).past,Bl.new' (by simp),World.ownsRow_nil _ _ _ _,⟨rfl,World.ownsRow_nil _ _ _ _⟩,fun j n q a b=>by simp at a,((zaa w _).trans ((zaa _ _).mono (by simp))).trans ((zaa _ _).mono (by simp<;>omega))⟩;go_enter Tryz.func12,Tryz.ntmps12;go_wp2;obtain⟨W0,hW0⟩:∃W0,((w.alloc (.cells #[.slice a1 rs.length c1,.slice a2 f.nodes.length c2,.slice a3 f.calls.length c3] 34)).alloc (.cells #[.slice none 0 0,.slice none 0 0,.string ⟨#[]⟩,.int .i64 0,.int .i64 0] 44)).alloc (.cells #[.slice none 0 0,.slice none 0 0] 40)=W0:=⟨_,rfl⟩;rw[hW0] at H0;rw[hW0];clear hW0
 go_loopw [4] (fun c wr=>∃(k:Nat) (ra:Option Addr) (rc:Nat),k<=rs.length/\c=.int .i64 k/\fbad (dupB (nmR rs)) rs.length 0=fbad (dupB (nmR rs)) (rs.length-k) k/\RGst w #[.slice a1 rs.length c1,.slice a2 f.nodes.length c2,.slice a3 f.calls.length c3] (.slice ra k rc) k (zb5 (zam (rs.take k))) (.slice none 0 0) [] [] wr) (fun c _=>rs.length-(intOf c).toNat)
 case atStart=>exact⟨0,none,0,Nat.zero_le _,rfl,rfl,H0.out⟩
 case round=>
  obtain⟨k,ra,rc,hk,rfl,hf,hG⟩:=hrel;have hbs:=hG.bel.size;have HB:=Lib.hid hG.bel;have HG:=Lib.hid hG;have HF:=Lib.hid hf;have x0:=hG.1.cell (o:=0) (u:=.slice a1 rs.length c1) rfl;have x1:=hG.1.cell (o:=1) (u:=.slice a2 f.nodes.length c2) rfl;have x2:=hG.1.cell (o:=2) (u:=.slice a3 f.calls.length c3) rfl;have xl:=hG.1.lt;clear hG hf;by_cases hlt:k<rs.length
  ·obtain⟨x,hx⟩:∃x,rs[k]?=some x:=⟨_,List.getElem?_eq_getElem hlt⟩
   rcases HA1.out with hz|⟨ab,ao,rfl,hca⟩
   ·rw[hz] at hlt;exact absurd hlt (Nat.not_lt_zero _)
   obtain⟨e0,e1,e2,e3⟩:=zdt hca hx HB.out;have k1:(k:Int)<(rs.length:Int):=by omega
   have HX:=Lib.hid (zjq hx);have hsub:rs.length-k=(rs.length-(k+1))+1:=by omega
   rw[hsub] at HF;obtain⟨j,hj,hjk⟩:=zgu (zgw hx);have HD:=Lib.hid (zmd (zgw hx) hj);have HXX:=Lib.hid hx;obtain⟨ir,hir,hzr0,hzr1,hzr2⟩:=info_parts zrl;have hb1:=zaa wr (.cells #[.string (strOf x.1),.int .i64 (x.2.1:Int),.int .i64 x.2.2] 95);have HW:=Lib.hid (Bl.new wr 95 #[.string (strOf x.1),.int .i64 (x.2.1:Int),.int .i64 x.2.2]);have HG1:=Lib.hid (HG.out.below hb1);have HB1:=Lib.hid (HB.out.trans (hb1.mono hbs));clear hca hsub hb1 hx
   go_upto_region 6 with fail
   obtain⟨W1,hW1⟩:∃W1,wr.alloc (.cells #[.string (strOf x.1),.int .i64 (x.2.1:Int),.int .i64 x.2.2] 95)=W1:=⟨_,rfl⟩;rw[hW1] at HW HG1 HB1;rw[hW1];obtain⟨R,hR⟩:∃R,wr.heap.size=R:=⟨_,rfl⟩;rw[hR] at HW;rw[hR];clear hW1 hR e0 e1 e2 e3 hbs x0 x1 x2 xl HB;have x0:=HG1.out.1.cell (o:=0) (u:=.slice (some ⟨ab,ao,none⟩) rs.length c1) rfl;have x1:=HG1.out.1.cell (o:=1) (u:=.slice a2 f.nodes.length c2) rfl;have x2:=HG1.out.1.cell (o:=2) (u:=.slice a3 f.calls.length c3) rfl;have xl:=HG1.out.1.lt;have f0:=HW.out.cell (o:=0) (u:=.string (strOf x.1)) rfl;have fl:=HW.out.lt;have hru:=HFI.out (strOf x.1) W1 HB1.out;rw[hj] at hru;have HRU:Hid (Calls Tryz.prog 18 #[.agg #[.slice (some ⟨ab,ao,none⟩) rs.length c1,.slice a2 f.nodes.length c2,.slice a3 f.calls.length c3],.string (strOf x.1)] W1 fun e w'=>e=.returned (.int .i64 (j:Int))/\Below W1.heap.size W1 w'):=Lib.hid hru;clear hj hru;by_cases hjl:j<k
   ·have HR:=Lib.hid (zmg (HF.out.trans (zbn (HD.out.trans (decide_eq_true hjl)))) HXX.out)
    have k2:(j:Int)<(k:Int):=by omega
    clear HF HD
    go_upto_region 7 with(go_at_call 18;(with_reducible refine HRU.out.mono ?_);rintro e w2 ⟨rfl,hb⟩;have HW2:=Lib.hid (HW.out.below hb);have HG2:=Lib.hid (HG1.out.below hb);have HB2:=Lib.hid (HB1.out.trans (hb.mono HB1.out.size));clear hb f0 fl x0 x1 x2 xl)
    have f0:=HW2.out.cell (o:=0) (u:=.string (strOf x.1)) rfl;have f1:=HW2.out.cell (o:=1) (u:=.int .i64 (x.2.1:Int)) rfl;have fl:=HW2.out.lt;have r0:=HG2.out.2.1.cell (o:=0) (u:=.slice none 0 0) rfl;have r1:=HG2.out.2.1.cell (o:=1) (u:=.slice none 0 0) rfl;have r2:=HG2.out.2.1.cell (o:=2) (u:=.string ⟨#[]⟩) rfl;have r3:=HG2.out.2.1.cell (o:=3) (u:=.int .i64 0) rfl;have r4:=HG2.out.2.1.cell (o:=4) (u:=.int .i64 0) rfl;have rf:=HG2.out.2.1.free;have rl:=HG2.out.2.1.lt;go_wp2;refine bodyPost_ret (v:=.agg #[.slice none 0 0,.slice none 0 0,.string (strOf x.1),.int .i64 2,.int .i64 (x.2.1:Int)]) (by simp[results,Tryz.results12,go_sem,r0,r1,r2,r3,r4]) rfl ?_;exact ROfIs.dup HR.out (zhn HB2.out (Nat.le_succ _) _ _ _ _ _)
   ·have HR:=Lib.hid (HF.out.trans (zbz (HD.out.trans (decide_eq_false hjl))))
    have k2:¬(j:Int)<(k:Int):=by omega
    clear HF HD
    go_upto_region 8 with(go_at_call 18;(with_reducible refine HRU.out.mono ?_);rintro e w2 ⟨rfl,hb⟩;have HW2:=Lib.hid (HW.out.below hb);have HG2:=Lib.hid (HG1.out.below hb);clear hb f0 fl x0 x1 x2 xl)
    have f0:=HW2.out.cell (o:=0) (u:=.string (strOf x.1)) rfl;have f2:=HW2.out.cell (o:=2) (u:=.int .i64 x.2.2) rfl;have fl:=HW2.out.lt;have g0:=HG2.out.2.2.1.cell (o:=0) (u:=.slice ra k rc) rfl;have gl:=HG2.out.2.2.1.lt;have hs2:=HG2.out.bel.size;have HCC:=Lib.hid (zc7 w2 [.string (strOf x.1),.int .i64 x.2.2] 75)
    go_wp2_with (at_builtin;(refine wpList_append_own _ rfl _ _ 38 rfl w.heap.size 75 ir _ 2 24 Tryz.underlying38 hir hzr0 hzr1 hzr2 rfl (by decide) _ k _ rfl (zab HG2.out.2.2.2.1 (zaa w2 _)) ⟨_,0,none⟩ 1 1 [.string (strOf x.1),.int .i64 x.2.2] rfl rfl HCC.out (by simp[Value.oneCell']) (by unfold maxLen;omega) (by omega) (by simp;omega) ?_);intro v5 w5 hown5 hgrow5 _;obtain⟨a5,c5,rfl⟩:=zag hown5;have HG5:=Lib.hid (RGst.rule (HG2.out.below (zaa w2 _)) hgrow5 hown5);have hm5:=RGst.mid (HG2.out.below (zaa w2 _)) hgrow5;have z0:=hm5.cell (o:=0) (u:=.slice ra k rc) rfl;have zf:=hm5.free 0;have zl:=hm5.lt;clear hown5 hgrow5 hm5)
    rw[<-HX.out] at HG5;go_roundw
    case rel=>exact⟨k+1,a5,c5,hlt,by go_num,HR.out,HG5.out⟩
    case measure=>simp[intOf];omega
  ·obtain rfl:k=rs.length:=by omega
   have k1:¬(rs.length:Int)<(rs.length:Int):=by omega
   have HDN:Hid (dupO rs=none):=Lib.hid (zjp (by rw[HF.out,Nat.sub_self];rfl));have HG2:Hid (RGst w #[.slice a1 rs.length c1,.slice a2 f.nodes.length c2,.slice a3 f.calls.length c3] (.slice ra rs.length rc) rs.length (zb5 (zam rs)) (.slice none 0 0) (zan (nmR rs) (nmC f) (f.nodes.take 0)) [] wr):=Lib.hid (by
    have:=HG.out;rw[List.take_length] at this;exact this)
   clear HG HB HF hbs hlt hk H0;go_wp2;clear x0 x1 x2 xl k1
   go_loopw [6] (fun c wq=>∃(i:Nat) (na:Option Addr) (nc:Nat) (qs:List Value),i<=f.nodes.length/\c=.int .i64 i/\fbad (badN (nmR rs) (nmC f) f.nodes) f.nodes.length 0=fbad (badN (nmR rs) (nmC f) f.nodes) (f.nodes.length-i) i/\RGst w #[.slice a1 rs.length c1,.slice a2 f.nodes.length c2,.slice a3 f.calls.length c3] (.slice ra rs.length rc) rs.length (zb5 (zam rs)) (.slice na i nc) (zan (nmR rs) (nmC f) (f.nodes.take i)) qs wq) (fun c _=>f.nodes.length-(intOf c).toNat)
   case atStart=>exact⟨0,none,0,[],Nat.zero_le _,rfl,rfl,HG2.out⟩
   case round=>
    clear HG2;obtain⟨i,na,nc,qs,hi,rfl,hf,hG⟩:=hrel;have hbs:=hG.bel.size;have HB:=Lib.hid hG.bel;have HG:=Lib.hid hG;have HF:=Lib.hid hf;have x1:=hG.1.cell (o:=1) (u:=.slice a2 f.nodes.length c2) rfl;have xl:=hG.1.lt;clear hf;by_cases hlt:i<f.nodes.length
    ·obtain⟨n,hn'⟩:∃n,f.nodes[i]?=some n:=⟨_,List.getElem?_eq_getElem hlt⟩
     rcases HA2.out with hz|⟨ab,ao,rfl,hca⟩
     ·rw[hz] at hlt;exact absurd hlt (Nat.not_lt_zero _)
     have HDI:=Lib.hid (hca i n hn');obtain⟨kv,d0,d1,d2,d3,d4,d5,d6,di,dl⟩:=(hca i n hn').kept HB.out (Nat.le_refl _);have la:=zai d0;have k1:(i:Int)<(f.nodes.length:Int):=by omega
     have HX:=Lib.hid (zjr (l:=nmR rs) (m:=nmC f) hn');have HNK:=Lib.hid hn';have hsub:f.nodes.length-i=(f.nodes.length-(i+1))+1:=by omega
     rw[hsub] at HF;have HBN:=Lib.hid (zmf (l:=nmR rs) (m:=nmC f) hn');have HKV:Hid (∀q,kv=q->IntsAt w q n.kids):=Lib.hid (by
      rintro q rfl;obtain⟨kv',-,b1,-,-,-,-,-,bi,-⟩:=HDI.out;have:=(bcell HB.out).1 _ (ao+i*7+1) (zai b1);rw[d1,b1] at this;obtain rfl:=Option.some.inj this;exact bi)
     obtain⟨ka,kc,rfl,-⟩:=di;have HLEN:Hid ((zan (nmR rs) (nmC f) (f.nodes.take i)).length=i):=Lib.hid (by rw[zc1,List.length_take];omega);obtain⟨ie,hie,hze0,hze1,hze2⟩:=info_parts zik;have hb1:=zaa wr (.cells #[.int .i64 n.op,.slice ka n.kids.length kc,.int .i64 n.rule,.int .u64 n.s0,.int .u64 n.s1,.int .u64 n.s2,.int .u64 n.s3] 73);have HN2:=Lib.hid (Bl.new wr 73 #[.int .i64 n.op,.slice ka n.kids.length kc,.int .i64 n.rule,.int .u64 n.s0,.int .u64 n.s1,.int .u64 n.s2,.int .u64 n.s3]);have HG2:=Lib.hid (HG.out.below hb1);have HQ2:=Lib.hid hb1;clear hca hn' dl hsub hb1 HDI hG
     go_upto_region 13 with fail
     obtain⟨W2,hW2⟩:∃W2,wr.alloc (.cells #[.int .i64 n.op,.slice ka n.kids.length kc,.int .i64 n.rule,.int .u64 n.s0,.int .u64 n.s1,.int .u64 n.s2,.int .u64 n.s3] 73)=W2:=⟨_,rfl⟩;rw[hW2] at HN2 HG2 HQ2;rw[hW2];obtain⟨R,hR⟩:∃R,wr.heap.size=R:=⟨_,rfl⟩;rw[hR] at HN2 hbs;rw[hR];have HRE:=Lib.hid hR;clear hW2 hR d0 d1 d2 d3 d4 d5 d6 la x1 xl HB;have x0:=HG2.out.1.cell (o:=0) (u:=.slice a1 rs.length c1) rfl;have x1:=HG2.out.1.cell (o:=1) (u:=.slice (some ⟨ab,ao,none⟩) f.nodes.length c2) rfl;have x2:=HG2.out.1.cell (o:=2) (u:=.slice a3 f.calls.length c3) rfl;have xl:=HG2.out.1.lt;have y0:=HN2.out.cell (o:=0) (u:=.int .i64 n.op) rfl;have yl:=HN2.out.lt;by_cases h2:n.op=2
     ·obtain⟨c,hcr,hcl'⟩:=HOK.out.ok.rule HNK.out h2
      obtain⟨x,hx⟩:∃x,f.calls[c]?=some x:=⟨_,List.getElem?_eq_getElem hcl'⟩;rcases HA3.out with hz|⟨cb,co,rfl,hca⟩
      ·rw[hz] at hcl';exact absurd hcl' (Nat.not_lt_zero _)
      obtain⟨e0,e1,e3⟩:=zcy hca hx HG2.out.bel;have y2:=HN2.out.cell (o:=2) (u:=.int .i64 n.rule) rfl;rw[hcr] at y2;have q1:(n.op == 2)=true:=by rw[h2];rfl
      have q3:(c:Int)<(f.calls.length:Int):=by omega
      have hub:badN (nmR rs) (nmC f) f.nodes i=(fndL (nmR rs) (strOf x.1)).isNone:=by
       rw[HBN.out,decide_eq_true h2,Bool.true_and,hcr,Int.toNat_natCast];exact zjm (zgx hx)
      have HUB:=Lib.hid hub;have HNP:Hid (gNode (nmR rs) (nmC f) n=⟨n.op,n.kids,idxO (fndL (nmR rs) (strOf x.1)),n.s0,n.s1,n.s2,n.s3⟩):=Lib.hid (by
       have e:(nmC f).getD n.rule.toNat ByteArray.empty=strOf x.1:=by
        rw[hcr,Int.toNat_natCast,List.getD_eq_getElem?_getD,zgx hx];rfl
       unfold gNode;rw[if_pos h2,e])
      have HXC:=Lib.hid hx;have HCR:=Lib.hid hcr;have HH2:=Lib.hid h2;have HW3:=Lib.hid (Bl.new W2 104 #[.string (strOf x.1),.int .i64 (x.2:Int)]);have hb3:=zaa W2 (.cells #[.string (strOf x.1),.int .i64 (x.2:Int)] 104);have HN3:=Lib.hid (HN2.out.below hb3);have HG3:=Lib.hid (HG2.out.below hb3);have HQ3:=Lib.hid (HQ2.out.trans (hb3.mono HQ2.out.size));have HRU:=Lib.hid (fun(W:World) (hW:Below w.heap.size w W)=>HFI.out (strOf x.1) W hW);clear hca hx hcr h2 hub hb3
      go_upto_region 15 with fail
      obtain⟨W3,hW3⟩:∃W3,W2.alloc (.cells #[.string (strOf x.1),.int .i64 (x.2:Int)] 104)=W3:=⟨_,rfl⟩;rw[hW3] at HW3 HN3 HG3 HQ3;rw[hW3];obtain⟨S,hS⟩:∃S,W2.heap.size=S:=⟨_,rfl⟩;rw[hS] at HW3;rw[hS];have hRS:R<S:=by rw[<-hS];exact yl
      clear hW3 hS e0 e1 e3 y0 y2 yl x0 x1 x2 xl HN2 HG2 q3;have x0:=HG3.out.1.cell (o:=0) (u:=.slice a1 rs.length c1) rfl;have x1:=HG3.out.1.cell (o:=1) (u:=.slice (some ⟨ab,ao,none⟩) f.nodes.length c2) rfl;have x2:=HG3.out.1.cell (o:=2) (u:=.slice (some ⟨cb,co,none⟩) f.calls.length c3) rfl;have xl:=HG3.out.1.lt;have f0:=HW3.out.cell (o:=0) (u:=.string (strOf x.1)) rfl;have fl:=HW3.out.lt;obtain⟨z,hz⟩:∃z,idxO (fndL (nmR rs) (strOf x.1))=z:=⟨_,rfl⟩;rw[hz] at HRU HNP;have HZ:=Lib.hid hz;clear hz
      go_upto_region 16 with(go_at_call 18;(with_reducible refine(HRU.out _ HG3.out.bel).mono ?_);rintro e w4 ⟨rfl,hb⟩;have HW4:=Lib.hid (HW3.out.below hb);have HN4:=Lib.hid (HN3.out.below hb);have HQ4:=Lib.hid (HQ3.out.trans (hb.mono HQ3.out.size));have y2:=HN4.out.cell (o:=2) (u:=.int .i64 n.rule) rfl;have yf:=HN4.out.free 2;have yl:=HN4.out.lt;clear hb f0 fl x0 x1 x2 xl)
      have HN5:Hid (Bl (w4.setCell ⟨R,2,none⟩ (.int .i64 z)) R 73 #[.int .i64 n.op,.slice ka n.kids.length kc,.int .i64 z,.int .u64 n.s0,.int .u64 n.s1,.int .u64 n.s2,.int .u64 n.s3]):=Lib.hid (HN4.out.put _);have HW5:=Lib.hid (HW4.out.other (c:=R) (o:=2) (by omega) (.int .i64 z));have HG5:=Lib.hid (HG.out.below (HQ4.out.setCell (p:=⟨R,2,none⟩) (by rw[HRE.out];exact Nat.le_refl R) (.int .i64 z)));obtain⟨W5,hW5⟩:∃W5,w4.setCell ⟨R,2,none⟩ (.int .i64 z)=W5:=⟨_,rfl⟩;rw[hW5] at HN5 HW5 HG5;rw[hW5];clear hW5 y2 yf yl HN4 HW4 HG3 HN3 HW3;have y0:=HN5.out.cell (o:=0) (u:=.int .i64 n.op) rfl;have y1:=HN5.out.cell (o:=1) (u:=.slice ka n.kids.length kc) rfl;have y2:=HN5.out.cell (o:=2) (u:=.int .i64 z) rfl;have y3:=HN5.out.cell (o:=3) (u:=.int .u64 n.s0) rfl;have y4:=HN5.out.cell (o:=4) (u:=.int .u64 n.s1) rfl;have y5:=HN5.out.cell (o:=5) (u:=.int .u64 n.s2) rfl;have y6:=HN5.out.cell (o:=6) (u:=.int .u64 n.s3) rfl;have yl:=HN5.out.lt;have HB2:=Lib.hid HG5.out.bel;cases hfd:fndL (nmR rs) (strOf x.1) with
      |none=>
       rw[hfd] at HUB HZ;have hz2:z=-1:=HZ.out.symm;have k2:z<0:=by omega
       have HU:Hid (undO (nmR rs) f=some x):=Lib.hid (by
        refine zr5 (k:=c) ?_ HXC.out;have h3:=zn8 (l:=nmR rs) (zcv f) HOK.out.ok;rw[HF.out,zbn (by rw[HUB.out];rfl),zcv] at h3;rw[h3];dsimp only;have h4:=HOK.out.ok.2 i n HNK.out HH2.out;rw[HCR.out] at h4;congr 1;omega)
       clear hfd hz2;have f0:=HW5.out.cell (o:=0) (u:=.string (strOf x.1)) rfl;have f1:=HW5.out.cell (o:=1) (u:=.int .i64 (x.2:Int)) rfl;have fl:=HW5.out.lt;have r0:=HG5.out.2.1.cell (o:=0) (u:=.slice none 0 0) rfl;have r1:=HG5.out.2.1.cell (o:=1) (u:=.slice none 0 0) rfl;have r2:=HG5.out.2.1.cell (o:=2) (u:=.string ⟨#[]⟩) rfl;have r3:=HG5.out.2.1.cell (o:=3) (u:=.int .i64 0) rfl;have r4:=HG5.out.2.1.cell (o:=4) (u:=.int .i64 0) rfl;have rf:=HG5.out.2.1.free;have rl:=HG5.out.2.1.lt;go_wp2;refine bodyPost_ret (v:=.agg #[.slice none 0 0,.slice none 0 0,.string (strOf x.1),.int .i64 3,.int .i64 (x.2:Int)]) (by simp[results,Tryz.results12,go_sem,r0,r1,r2,r3,r4]) rfl ?_;exact ROfIs.und HDN.out HU.out (zhn HB2.out (Nat.le_succ _) _ _ _ _ _)
      |some j=>
       rw[hfd] at HUB HZ;have hz2:z=(j:Int):=HZ.out.symm;have k2:¬z<0:=by omega
       have HR:Hid (fbad (badN (nmR rs) (nmC f) f.nodes) f.nodes.length 0=fbad (badN (nmR rs) (nmC f) f.nodes) (f.nodes.length-(i+1)) (i+1)):=Lib.hid (HF.out.trans (zbz (by rw[HUB.out];rfl)));clear hfd hz2
       go_upto_region 18 with fail
       obtain⟨W3,rfl⟩:∃W3,W3=W5:=⟨_,rfl⟩;have HG3:=HG5;have g1:=HG3.out.2.2.1.cell (o:=1) (u:=.slice na i nc) rfl;have gl:=HG3.out.2.2.1.lt;have hs3:=HG3.out.bel.size;have HCC:=Lib.hid (zc7 W3 (nodeC ((⟨n.op,n.kids,z,n.s0,n.s1,n.s2,n.s3⟩:PN),.slice ka n.kids.length kc)) 73)
       go_wp2_with (at_builtin;(refine wpList_append_own _ rfl _ _ 23 rfl w.heap.size 73 ie _ 7 72 Tryz.underlying23 hie hze0 hze1 hze2 rfl (by decide) _ (zan (nmR rs) (nmC f) (f.nodes.take i)).length _ rfl (zab HG3.out.nrow (zaa W3 _)) ⟨_,0,none⟩ 1 1 (nodeC ((⟨n.op,n.kids,z,n.s0,n.s1,n.s2,n.s3⟩:PN),.slice ka n.kids.length kc)) rfl rfl HCC.out (by simp[nodeC,Value.oneCell']) (by rw[HLEN.out];unfold maxLen;omega) (by rw[HLEN.out];omega) (by simp;omega) ?_);intro v6 w6 hown6 hgrow6 _;obtain⟨a6,c6,rfl⟩:=zag hown6;have HG4:=Lib.hid (RGst.node (n:=(⟨n.op,n.kids,z,n.s0,n.s1,n.s2,n.s3⟩:PN)) (HG3.out.below (zaa W3 _)) (HKV.out _ rfl) hgrow6 hown6);have hm5:=RGst.mid2 (HG3.out.below (zaa W3 _)) hgrow6;have z0:=hm5.cell (o:=1) (u:=.slice na i nc) rfl;have zf:=hm5.free 1;have zl:=hm5.lt;rw[HLEN.out] at HG4 ⊢;clear hown6 hgrow6 hm5)
       go_roundw
       case rel=>exact⟨i+1,a6,c6,_,hlt,by go_num,HR.out,by
        have:=HG4.out;rw[HX.out,HNP.out];exact this⟩
       case measure=>simp[intOf];omega
     ·have HNP:Hid (gNode (nmR rs) (nmC f) n=n):=Lib.hid (if_neg h2)
      have q1:(n.op == 2)=false:=zae h2;have HR:Hid (fbad (badN (nmR rs) (nmC f) f.nodes) f.nodes.length 0=fbad (badN (nmR rs) (nmC f) f.nodes) (f.nodes.length-(i+1)) (i+1)):=Lib.hid (HF.out.trans (zbz (by rw[HBN.out,decide_eq_false h2];rfl)));clear h2;have y1:=HN2.out.cell (o:=1) (u:=.slice ka n.kids.length kc) rfl;have y2:=HN2.out.cell (o:=2) (u:=.int .i64 n.rule) rfl;have y3:=HN2.out.cell (o:=3) (u:=.int .u64 n.s0) rfl;have y4:=HN2.out.cell (o:=4) (u:=.int .u64 n.s1) rfl;have y5:=HN2.out.cell (o:=5) (u:=.int .u64 n.s2) rfl;have y6:=HN2.out.cell (o:=6) (u:=.int .u64 n.s3) rfl
      go_upto_region 18 with fail
      obtain⟨W3,rfl⟩:∃W3,W3=W2:=⟨_,rfl⟩;have HG3:=HG2;clear x0 x1 x2 xl;have g1:=HG3.out.2.2.1.cell (o:=1) (u:=.slice na i nc) rfl;have gl:=HG3.out.2.2.1.lt;have hs3:=HG3.out.bel.size;have HCC:=Lib.hid (zc7 W3 (nodeC (n,.slice ka n.kids.length kc)) 73)
      go_wp2_with (at_builtin;(refine wpList_append_own _ rfl _ _ 23 rfl w.heap.size 73 ie _ 7 72 Tryz.underlying23 hie hze0 hze1 hze2 rfl (by decide) _ (zan (nmR rs) (nmC f) (f.nodes.take i)).length _ rfl (zab HG3.out.nrow (zaa W3 _)) ⟨_,0,none⟩ 1 1 (nodeC (n,.slice ka n.kids.length kc)) rfl rfl HCC.out (by simp[nodeC,Value.oneCell']) (by rw[HLEN.out];unfold maxLen;omega) (by rw[HLEN.out];omega) (by simp;omega) ?_);intro v6 w6 hown6 hgrow6 _;obtain⟨a6,c6,rfl⟩:=zag hown6;have HG4:=Lib.hid (RGst.node (n:=n) (HG3.out.below (zaa W3 _)) (HKV.out _ rfl) hgrow6 hown6);have hm5:=RGst.mid2 (HG3.out.below (zaa W3 _)) hgrow6;have z0:=hm5.cell (o:=1) (u:=.slice na i nc) rfl;have zf:=hm5.free 1;have zl:=hm5.lt;rw[HLEN.out] at HG4 ⊢;clear hown6 hgrow6 hm5)
      go_roundw
      case rel=>exact⟨i+1,a6,c6,_,hlt,by go_num,HR.out,by
       have:=HG4.out;rw[HX.out,HNP.out];exact this⟩
      case measure=>simp[intOf];omega
    ·obtain rfl:i=f.nodes.length:=by omega
     have k1:¬(f.nodes.length:Int)<(f.nodes.length:Int):=by omega
     have HE:Hid (RGst w #[.slice a1 rs.length c1,.slice a2 f.nodes.length c2,.slice a3 f.calls.length c3] (.slice ra rs.length rc) rs.length (zb5 (zam rs)) (.slice na f.nodes.length nc) (zan (nmR rs) (nmC f) f.nodes) qs wr):=Lib.hid (by
      have:=HG.out;rw[List.take_length] at this;exact this)
     have HU:Hid (undO (nmR rs) f=none):=Lib.hid (by
      refine zoc ?_;have h3:=zn8 (l:=nmR rs) (zcv f) HOK.out.ok;rw[HF.out,Nat.sub_self,zcv] at h3;exact h3)
     have g0:=HE.out.2.2.1.cell (o:=0) (u:=.slice ra rs.length rc) rfl;have g1:=HE.out.2.2.1.cell (o:=1) (u:=.slice na f.nodes.length nc) rfl;have gl:=HE.out.2.2.1.lt;have r0:=HE.out.2.1.cell (o:=0) (u:=.slice none 0 0) rfl;have r1:=HE.out.2.1.cell (o:=1) (u:=.slice none 0 0) rfl;have r2:=HE.out.2.1.cell (o:=2) (u:=.string ⟨#[]⟩) rfl;have r3:=HE.out.2.1.cell (o:=3) (u:=.int .i64 0) rfl;have r4:=HE.out.2.1.cell (o:=4) (u:=.int .i64 0) rfl;have rf:=HE.out.2.1.free;have rl:=HE.out.2.1.lt;have HL:Hid ((zam rs).length=rs.length):=Lib.hid (List.length_map _);have HB5:=Lib.hid (zhn HE.out.bel (Nat.le_succ _) (.slice ra rs.length rc) (.slice na f.nodes.length nc) (.string ⟨#[]⟩) (.int .i64 0) (.int .i64 0));have HFN:Hid (RulesIn _ _ (zam rs)/\NodesAt _ _ (zan (nmR rs) (nmC f) f.nodes)):=Lib.hid (RGst.fin (by rw[HL.out];exact HE.out) (by rw[HL.out];unfold maxLen;omega) (by rw[zc1];unfold maxLen;omega) (fun q hq=>by
      obtain⟨p,hp,rfl⟩:=List.mem_map.1 hq;rw[zk8];have:=HOK.out.kl p hp;unfold maxLen;omega) (fun b _ hb=>zx3 wr hb (.slice ra rs.length rc) (.slice na f.nodes.length nc) (.string ⟨#[]⟩) (.int .i64 0) (.int .i64 0)) HB5.out)
     clear hG HG HB hbs;go_wp2;refine bodyPost_ret (v:=.agg #[.slice ra rs.length rc,.slice na f.nodes.length nc,.string ⟨#[]⟩,.int .i64 0,.int .i64 0]) (by simp[results,Tryz.results12,go_sem,r0,r1,r2,r3,r4]) rfl ?_;exact ROfIs.ok HDN.out HU.out HFN.out.1 HFN.out.2 HB5.out
end
end Go.Proofs.YtnmflokhnaiiiaaGreatDoor
