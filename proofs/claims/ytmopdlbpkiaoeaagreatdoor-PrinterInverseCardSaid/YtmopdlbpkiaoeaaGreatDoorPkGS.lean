/- The reference's Same. -/
import Derived.Deep.Cut
import Derived.Test.YtmopdlbpkiaoeaaGreatDoorPkA
import Derived.Test.YtmopdlbpkiaoeaaGreatDoorPkD
set_option maxRecDepth 100000
set_option maxHeartbeats 8000000
namespace Go.Proofs.YtmopdlbpkiaoeaaGreatDoor
open Go.RowKit
theorem zjs {rs ts:List PR}{ns ms:List PN}{i:Nat}{x y:PN}(hx:ns[i]?=some x)(hy:ms[i]?=some y)(h:x≠y):Hid (decide (rs=ts/\ns=ms)=false):=decN fun e=>by
 rw[e.2,hy] at hx;exact h (Option.some.inj hx).symm
theorem PN.same {x y:PN}(h0:x.op=y.op)(h1:x.kids=y.kids)(h2:x.rule=y.rule)(h3:x.s0=y.s0/\x.s1=y.s1/\x.s2=y.s2/\x.s3=y.s3):x=y:=by
 obtain⟨o1,ks,r1,x0,x1,x2,x3⟩:=x;obtain⟨o2,ms,r2,y0,y1,y2,y3⟩:=y;obtain⟨g0,g1,g2,g3⟩:=h3;dsimp only at *;subst h0 h1 h2 g0 g1 g2 g3;rfl
theorem zom (ru nu rv nv:Value)(rs ts:List PR)(ns ms:List PN)(w:World)(h1:RulesIn w ru rs)(h2:NodesAt w nu ns)(h3:RulesIn w rv ts)(h4:NodesAt w nv ms) :
  Calls Tryz.prog 16 #[.agg #[ru,nu],.agg #[rv,nv]] w fun e w'=>e=.returned (.bool (decide (rs=ts/\ns=ms)))/\Below w.heap.size w w':=by
 have HB:=Lib.hid (fun(o o':Obj)=>zbo w o o');obtain⟨hl1,a1,c1,rfl,ha1⟩:=h1;obtain⟨hl2,a2,c2,rfl,ha2⟩:=h2;obtain⟨hl3,a3,c3,rfl,ha3⟩:=h3;obtain⟨hl4,a4,c4,rfl,ha4⟩:=h4;unfold maxLen at hl1 hl2 hl3 hl4;by_cases hr:rs.length=ts.length
 ·have q1:((rs.length:Int) != (ts.length:Int))=false:=by rw[hr];simp
  by_cases hn:ns.length=ms.length
  ·have q2:((ns.length:Int) != (ms.length:Int))=false:=by rw[hn];simp
   go_enter Tryz.func16,Tryz.ntmps16;go_wp2
   go_loopw [5] (fun c wr=>∃k:Nat,k<=rs.length/\c=.int .i64 k/\Below w.heap.size w wr/\w.heap.size+1<wr.heap.size/\wr.cell? ⟨w.heap.size,0,none⟩=some (.slice a1 rs.length c1)/\wr.cell? ⟨w.heap.size,1,none⟩=some (.slice a2 ns.length c2)/\wr.cell? ⟨w.heap.size+1,0,none⟩=some (.slice a3 ts.length c3)/\wr.cell? ⟨w.heap.size+1,1,none⟩=some (.slice a4 ms.length c4)/\rs.take k=ts.take k) (fun c _=>rs.length-(intOf c).toNat)
   case atStart=>exact⟨0,Nat.zero_le _,rfl,HB.out _ _,by simp,by simp<;>omega,by simp<;>omega,by simp<;>omega,by simp<;>omega,rfl⟩
   case round=>
    obtain⟨k,hk,rfl,hbw,hsw,b0,b1,b2,b3,hq⟩:=hrel;have HQ:=Lib.hid hq;have HW:=Lib.hid hbw;clear hq;by_cases hlt:k<rs.length
    ·obtain⟨x,hx⟩:∃x,rs[k]?=some x:=⟨_,List.getElem?_eq_getElem hlt⟩
     obtain⟨y,hy⟩:∃y,ts[k]?=some y:=⟨_,List.getElem?_eq_getElem (by omega)⟩;rcases ha1 with h0|⟨ab,ao,rfl,hca⟩
     ·rw[h0] at hlt;exact absurd hlt (Nat.not_lt_zero _)
     rcases ha3 with h0|⟨bb,bo,rfl,hcb⟩
     ·rw[hr,h0] at hlt;exact absurd hlt (Nat.not_lt_zero _)
     obtain⟨e1,e2⟩:=(hca k x hx).kept hbw (Nat.le_refl _);obtain⟨e3,e4⟩:=(hcb k y hy).kept hbw (Nat.le_refl _);have hlm:k<ts.length:=by omega
     have k1:(k:Int)<(rs.length:Int):=by omega
     have k2:(k:Int)<(ts.length:Int):=by omega
     have HX:=Lib.hid hx;have HY:=Lib.hid hy;clear hca hcb hx hy hr hn hbw ha2 ha4;have qg:=zzy;by_cases hxy:x=y
     ·subst hxy
      have q2:∀w,(binOp .neq 32 (.agg #[.string x.name,.int .i64 x.root]) (.agg #[.string x.name,.int .i64 x.root])).run Tryz.prog w=.ok (.bool false) w:=fun w=>by rw[znt];simp
      go_wp2;go_quiet (fail);go_wp2;go_roundw
      case rel=>exact⟨k+1,by omega,by go_num,zak HW.out,hsw,b0,b1,b2,b3,by rw[za3 rs k x HX.out,za3 ts k x HY.out,HQ.out]⟩
      case measure=>simp[intOf];omega
     ·have q2:∀w,(binOp .neq 32 (.agg #[.string x.name,.int .i64 x.root]) (.agg #[.string y.name,.int .i64 y.root])).run Tryz.prog w=.ok (.bool true) w:=fun w=>by
       rw[znt,zeq];have:¬(x.name=y.name/\x.root=y.root):=fun h=>hxy ((PR.eq_iff x y).1 h)
       by_cases h1:x.name=y.name<;>by_cases h2:x.root=y.root<;>simp_all
      have HN:Hid (decide (rs=ts/\ns=ms)=false):=decN fun e=>by
       have h1:=HX.out;rw[e.1,HY.out] at h1;exact hxy (Option.some.inj h1).symm
      clear hxy;go_wp2;go_quiet (fail);go_wp2;go_ret;exact⟨zap HN.out.symm,zak HW.out⟩
    ·have HRT:Hid (rs=ts):=Lib.hid (by
      have hk':k=rs.length:=by omega
      have h1:=HQ.out;rw[List.take_of_length_le (by omega),List.take_of_length_le (by omega)] at h1;exact h1)
     have k1:¬(k:Int)<(rs.length:Int):=by omega
     clear ha1 ha3 hbw hr;go_wp2
     go_loopw [6] (fun c wq=>∃k:Nat,k<=ns.length/\c=.int .i64 k/\Below w.heap.size w wq/\w.heap.size+1<wq.heap.size/\wq.cell? ⟨w.heap.size,1,none⟩=some (.slice a2 ns.length c2)/\wq.cell? ⟨w.heap.size+1,1,none⟩=some (.slice a4 ms.length c4)/\ns.take k=ms.take k) (fun c _=>ns.length-(intOf c).toNat)
     case atStart=>exact⟨0,Nat.zero_le _,rfl,HW.out,hsw,b1,b3,rfl⟩
     case round=>
      clear b0 b1 b2 b3 HW hsw hlt;obtain⟨i,hi,rfl,hbw,hsw,b1,b3,hq⟩:=hrel;have HQ:=Lib.hid hq;have HW:=Lib.hid hbw;clear hq;by_cases hlt:i<ns.length
      ·obtain⟨x,hx⟩:∃x,ns[i]?=some x:=⟨_,List.getElem?_eq_getElem hlt⟩
       obtain⟨y,hy⟩:∃y,ms[i]?=some y:=⟨_,List.getElem?_eq_getElem (by omega)⟩;rcases ha2 with h0|⟨ab,ao,rfl,hca⟩
       ·rw[h0] at hlt;exact absurd hlt (Nat.not_lt_zero _)
       rcases ha4 with h0|⟨bb,bo,rfl,hcb⟩
       ·rw[hn,h0] at hlt;exact absurd hlt (Nat.not_lt_zero _)
       obtain⟨kv,c0,c1,c2,c3,c4,c5,c6,ci,cl⟩:=(hca i x hx).kept hbw (Nat.le_refl _);obtain⟨kv',d0,d1,d2,d3,d4,d5,d6,di,-⟩:=(hcb i y hy).kept hbw (Nat.le_refl _);have hlm:i<ms.length:=by omega
       unfold maxLen at cl;have j1:(i:Int)<(ns.length:Int):=by omega
       have j2:(i:Int)<(ms.length:Int):=by omega
       have HX:=Lib.hid hx;have HY:=Lib.hid hy;have la:=zai c0;have lb:=zai d0;clear hca hcb hx hy hn hbw;have CI:=Lib.hid ci;have DI:=Lib.hid di;obtain⟨ka,kc,rfl,-⟩:=ci;obtain⟨ka',kc',rfl,-⟩:=di
       go_upto_region 13 with fail
       have hb2:=zbo wr (.cells #[.int .i64 x.op,.slice ka x.kids.length kc,.int .i64 x.rule,.int .u64 x.s0,.int .u64 x.s1,.int .u64 x.s2,.int .u64 x.s3] 54) (.cells #[.int .i64 y.op,.slice ka' y.kids.length kc',.int .i64 y.rule,.int .u64 y.s0,.int .u64 y.s1,.int .u64 y.s2,.int .u64 y.s3] 54);obtain⟨W2,hW2⟩:∃W2,((wr.alloc (.cells #[.int .i64 x.op,.slice ka x.kids.length kc,.int .i64 x.rule,.int .u64 x.s0,.int .u64 x.s1,.int .u64 x.s2,.int .u64 x.s3] 54)).alloc (.cells #[.int .i64 y.op,.slice ka' y.kids.length kc',.int .i64 y.rule,.int .u64 y.s0,.int .u64 y.s1,.int .u64 y.s2,.int .u64 y.s3] 54))=W2:=⟨_,rfl⟩;have f0:W2.cell? ⟨wr.heap.size,0,none⟩=some (.int .i64 x.op):=by rw[<-hW2];simp
       have f1:W2.cell? ⟨wr.heap.size,1,none⟩=some (.slice ka x.kids.length kc):=by rw[<-hW2];simp
       have f2:W2.cell? ⟨wr.heap.size,2,none⟩=some (.int .i64 x.rule):=by rw[<-hW2];simp
       have f3:W2.cell? ⟨wr.heap.size,3,none⟩=some (.int .u64 x.s0):=by rw[<-hW2];simp
       have f4:W2.cell? ⟨wr.heap.size,4,none⟩=some (.int .u64 x.s1):=by rw[<-hW2];simp
       have f5:W2.cell? ⟨wr.heap.size,5,none⟩=some (.int .u64 x.s2):=by rw[<-hW2];simp
       have f6:W2.cell? ⟨wr.heap.size,6,none⟩=some (.int .u64 x.s3):=by rw[<-hW2];simp
       have g0:W2.cell? ⟨wr.heap.size+1,0,none⟩=some (.int .i64 y.op):=by rw[<-hW2];simp
       have g1:W2.cell? ⟨wr.heap.size+1,1,none⟩=some (.slice ka' y.kids.length kc'):=by rw[<-hW2];simp
       have g2:W2.cell? ⟨wr.heap.size+1,2,none⟩=some (.int .i64 y.rule):=by rw[<-hW2];simp
       have g3:W2.cell? ⟨wr.heap.size+1,3,none⟩=some (.int .u64 y.s0):=by rw[<-hW2];simp
       have g4:W2.cell? ⟨wr.heap.size+1,4,none⟩=some (.int .u64 y.s1):=by rw[<-hW2];simp
       have g5:W2.cell? ⟨wr.heap.size+1,5,none⟩=some (.int .u64 y.s2):=by rw[<-hW2];simp
       have g6:W2.cell? ⟨wr.heap.size+1,6,none⟩=some (.int .u64 y.s3):=by rw[<-hW2];simp
       rw[hW2];rw[hW2] at hb2;have hsz2:=hb2.size;have HW2:=Lib.hid (HW.out.trans (hb2.mono (by omega)));have m1:=(bcell hb2).1 _ 1 (zai b1);have m3:=(bcell hb2).1 _ 1 (zai b3);rw[b1] at m1;rw[b3] at m3;have CI2:=Lib.hid (CI.out.kept hb2 (Nat.le_refl _));have DI2:=Lib.hid (DI.out.kept hb2 (Nat.le_refl _));clear hW2 hb2 b1 b3 c0 c1 c2 c3 c4 c5 c6 d0 d1 d2 d3 d4 d5 d6 la lb CI DI;by_cases h1:x.op=y.op
       ·have p1:(x.op != y.op)=false:=by rw[h1];simp
        by_cases h2:x.rule=y.rule
        ·have p2:(x.rule != y.rule)=false:=by rw[h2];simp
         by_cases h3:x.s0=y.s0/\x.s1=y.s1/\x.s2=y.s2/\x.s3=y.s3
         ·have qs:∀w,(binOp .neq 41 (.agg #[.int .u64 x.s0,.int .u64 x.s1,.int .u64 x.s2,.int .u64 x.s3]) (.agg #[.int .u64 y.s0,.int .u64 y.s1,.int .u64 y.s2,.int .u64 y.s3])).run Tryz.prog w=.ok (.bool false) w:=fun w=>by rw[zl1,zrj,decide_eq_true h3];rfl
          have HS:=Lib.hid qs;clear qs;by_cases h4:x.kids.length=y.kids.length
          ·have p4:((x.kids.length:Int) != (y.kids.length:Int))=false:=by rw[h4];simp
           have HEQ:=Lib.hid (fun(h:x.kids=y.kids)=>PN.same h1 h h2 h3);clear h1 h2 h3
           go_wp2_with (with_reducible refine zaf BinOp.neq 41 _ _ _ rfl rfl _ _ rfl rfl zal _ (HS.out _) ?_)
           go_loopw [9] (fun c wq=>∃j q:Nat,j<=x.kids.length/\c=.int .i64 j/\wq=W2.drewN q/\x.kids.take j=y.kids.take j) (fun c _=>x.kids.length-(intOf c).toNat)
           case atStart=>exact⟨0,0,Nat.zero_le _,rfl,rfl,rfl⟩
           case round=>
            obtain⟨j,q,hj,rfl,rfl,hq⟩:=hrel;have HQ2:=Lib.hid hq;clear hq;by_cases hjl:j<x.kids.length
            ·obtain⟨u,hu⟩:∃u,x.kids[j]?=some u:=⟨_,List.getElem?_eq_getElem hjl⟩
             obtain⟨v,hv⟩:∃v,y.kids[j]?=some v:=⟨_,List.getElem?_eq_getElem (by omega)⟩;obtain⟨_,_,es,hk1⟩:=CI2.out;injection es with es1 es2 es3;subst es1 es3;obtain⟨_,_,es,hk2⟩:=DI2.out;injection es with es1 es2 es3;subst es1 es3;rcases hk1 with h0|⟨kb,ko,rfl,hk1⟩
             ·rw[h0] at hjl;exact absurd hjl (Nat.not_lt_zero _)
             rcases hk2 with h0|⟨kb',ko',rfl,hk2⟩
             ·rw[h4,h0] at hjl;exact absurd hjl (Nat.not_lt_zero _)
             have hu1:=hk1 j u hu;have hv1:=hk2 j v hv;have z1:(j:Int)<(x.kids.length:Int):=by omega
             have z2:(j:Int)<(y.kids.length:Int):=by omega
             have z3:j<y.kids.length:=by omega
             have HU:=Lib.hid hu;have HV:=Lib.hid hv;clear hk1 hk2 hu hv CI2 DI2 h4;by_cases huv:u=v
             ·have q3:(u != v)=false:=by rw[huv];simp
              go_wp2;go_quiet (fail);go_wp2;go_roundw
              case rel=>exact⟨j+1,_,by omega,by go_num,rfl,by rw[za3 x.kids j u HU.out,za3 y.kids j v HV.out,HQ2.out,huv]⟩
              case measure=>simp[intOf];omega
             ·have q3:(u != v)=true:=zah huv
              have HN:Hid (decide (rs=ts/\ns=ms)=false):=zjs HX.out HY.out (fun e=>by
               have h1:=HU.out;rw[e,HV.out] at h1;exact huv (Option.some.inj h1).symm)
              clear huv;go_wp2;go_quiet (fail);go_wp2;go_ret;exact⟨zap HN.out.symm,zak (zak HW2.out)⟩
            ·have z1:¬(j:Int)<(x.kids.length:Int):=by omega
             have HXY:=Lib.hid (HEQ.out (by
              have h1:=HQ2.out;rw[List.take_of_length_le (by omega),List.take_of_length_le (by omega)] at h1;exact h1))
             go_wp2;go_roundw
             case rel=>exact⟨i+1,by omega,by go_num,zak HW2.out,(show w.heap.size+1<W2.heap.size by omega),m1,m3,by rw[za3 ns i x HX.out,za3 ms i y HY.out,HQ.out,HXY.out]⟩
             case measure=>simp[intOf];omega
          ·have p4:((x.kids.length:Int) != (y.kids.length:Int))=true:=zah (by omega)
           have HN:Hid (decide (rs=ts/\ns=ms)=false):=zjs HX.out HY.out (fun e=>h4 (by rw[e]));clear h1 h2 h3 h4
           go_wp2_with (with_reducible refine zaf BinOp.neq 41 _ _ _ rfl rfl _ _ rfl rfl zal _ (HS.out _) ?_)
           go_ret;exact⟨zap HN.out.symm,HW2.out⟩
         ·have qs:∀w,(binOp .neq 41 (.agg #[.int .u64 x.s0,.int .u64 x.s1,.int .u64 x.s2,.int .u64 x.s3]) (.agg #[.int .u64 y.s0,.int .u64 y.s1,.int .u64 y.s2,.int .u64 y.s3])).run Tryz.prog w=.ok (.bool true) w:=fun w=>by rw[zl1,zrj,decide_eq_false h3];rfl
          have HS:=Lib.hid qs;have HN:Hid (decide (rs=ts/\ns=ms)=false):=zjs HX.out HY.out (fun e=>h3 (by rw[e];exact⟨rfl,rfl,rfl,rfl⟩));clear qs h1 h2 h3
          go_wp2_with (with_reducible refine zaf BinOp.neq 41 _ _ _ rfl rfl _ _ rfl rfl zal _ (HS.out _) ?_)
          go_ret;exact⟨zap HN.out.symm,HW2.out⟩
        ·have p2:(x.rule != y.rule)=true:=zah h2
         have HN:Hid (decide (rs=ts/\ns=ms)=false):=zjs HX.out HY.out (fun e=>h2 (by rw[e]));clear h1 h2;go_wp2;go_ret;exact⟨zap HN.out.symm,HW2.out⟩
       ·have p1:(x.op != y.op)=true:=zah h1
        have HN:Hid (decide (rs=ts/\ns=ms)=false):=zjs HX.out HY.out (fun e=>h1 (by rw[e]));clear h1;go_wp2;go_ret;exact⟨zap HN.out.symm,HW2.out⟩
      ·have HN:Hid (decide (rs=ts/\ns=ms)=true):=decY ⟨HRT.out,by
        have h1:=HQ.out;rw[List.take_of_length_le (by omega),List.take_of_length_le (by omega)] at h1;exact h1⟩
       have j1:¬(i:Int)<(ns.length:Int):=by omega
       clear hbw;go_wp2;go_ret;exact⟨zap (HN.out.symm.trans (Bool.decide_and _ _)),HW.out⟩
  ·have q2:((ns.length:Int) != (ms.length:Int))=true:=zah (by omega)
   have HN:Hid (decide (rs=ts/\ns=ms)=false):=decN fun e=>hn (by rw[e.2])
   go_enter Tryz.func16,Tryz.ntmps16;go_wp2;go_ret;exact⟨zap HN.out.symm,HB.out _ _⟩
 ·have q1:((rs.length:Int) != (ts.length:Int))=true:=zah (by omega)
  have HN:Hid (decide (rs=ts/\ns=ms)=false):=decN fun e=>hr (by rw[e.1])
  go_enter Tryz.func16,Tryz.ntmps16;go_wp2;go_ret;exact⟨zap HN.out.symm,HB.out _ _⟩
end Go.Proofs.YtmopdlbpkiaoeaaGreatDoor
