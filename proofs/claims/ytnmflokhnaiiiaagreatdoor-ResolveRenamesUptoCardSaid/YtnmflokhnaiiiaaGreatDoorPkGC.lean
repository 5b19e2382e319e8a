/- The reference's Same. Two grammars that are the same; what the reference's Of returns, case by case. The reference's Check, Valid, Small. -/
import Derived.Deep.Cut
import Derived.Test.YtnmflokhnaiiiaaGreatDoorPkA
import Derived.Test.YtnmflokhnaiiiaaGreatDoorPkE
import Derived.Test.YtnmflokhnaiiiaaGreatDoorPkD
import Derived.Test.YtnmflokhnaiiiaaGreatDoorPkGA
import Derived.Test.YtnmflokhnaiiiaaGreatDoorPkGramMade
import Derived.Test.YtnmflokhnaiiiaaGreatDoorPkRF
import Derived.Test.YtnmflokhnaiiiaaGreatDoorPkResROf
set_option maxRecDepth 100000
set_option maxHeartbeats 8000000
namespace Go.Proofs.YtnmflokhnaiiiaaGreatDoor
open Go.RowKit
theorem zjs {rs ts:List PR}{ns ms:List PN}{i:Nat}{x y:PN}(hx:ns[i]?=some x)(hy:ms[i]?=some y)(h:x≠y):Hid (decide (rs=ts/\ns=ms)=false):=decN fun e=>by
 rw[e.2,hy] at hx;exact h (Option.some.inj hx).symm
theorem PN.same {x y:PN}(h0:x.op=y.op)(h1:x.kids=y.kids)(h2:x.rule=y.rule)(h3:x.s0=y.s0/\x.s1=y.s1/\x.s2=y.s2/\x.s3=y.s3):x=y:=by
 obtain⟨o1,ks,r1,x0,x1,x2,x3⟩:=x;obtain⟨o2,ms,r2,y0,y1,y2,y3⟩:=y;obtain⟨g0,g1,g2,g3⟩:=h3;dsimp only at *;subst h0 h1 h2 g0 g1 g2 g3;rfl
theorem zom (ru nu rv nv:Value)(rs ts:List PR)(ns ms:List PN)(w:World)(h1:RulesIn w ru rs)(h2:NodesAt w nu ns)(h3:RulesIn w rv ts)(h4:NodesAt w nv ms) :
  Calls Tryz.prog 13 #[.agg #[ru,nu],.agg #[rv,nv]] w fun e w'=>e=.returned (.bool (decide (rs=ts/\ns=ms)))/\Below w.heap.size w w':=by
 have HB:=Lib.hid (fun(o o':Obj)=>zbo w o o');obtain⟨hl1,a1,c1,rfl,ha1⟩:=h1;obtain⟨hl2,a2,c2,rfl,ha2⟩:=h2;obtain⟨hl3,a3,c3,rfl,ha3⟩:=h3;obtain⟨hl4,a4,c4,rfl,ha4⟩:=h4;unfold maxLen at hl1 hl2 hl3 hl4;by_cases hr:rs.length=ts.length
 ·have q1:((rs.length:Int) != (ts.length:Int))=false:=by rw[hr];simp
  by_cases hn:ns.length=ms.length
  ·have q2:((ns.length:Int) != (ms.length:Int))=false:=by rw[hn];simp
   go_enter Tryz.func13,Tryz.ntmps13;go_wp2
   go_loopw [5] (fun c wr=>∃k:Nat,k<=rs.length/\c=.int .i64 k/\Below w.heap.size w wr/\w.heap.size+1<wr.heap.size/\wr.cell? ⟨w.heap.size,0,none⟩=some (.slice a1 rs.length c1)/\wr.cell? ⟨w.heap.size,1,none⟩=some (.slice a2 ns.length c2)/\wr.cell? ⟨w.heap.size+1,0,none⟩=some (.slice a3 ts.length c3)/\wr.cell? ⟨w.heap.size+1,1,none⟩=some (.slice a4 ms.length c4)/\rs.take k=ts.take k) (fun c _=>rs.length-(intOf c).toNat)
   case atStart=>exact⟨0,Nat.zero_le _,rfl,HB.out _ _,by simp,by simp<;>omega,by simp<;>omega,by simp<;>omega,by simp<;>omega,rfl⟩
   case round=>
    obtain⟨k,hk,rfl,hbw,hsw,b0,b1,b2,b3,hq⟩:=hrel;have HQ:=Lib.hid hq;have HW:=Lib.hid hbw;clear hq;by_cases hlt:k<rs.length
    ·obtain⟨x,hx⟩:∃x,rs[k]?=some x:=⟨_,List.getElem?_eq_getElem hlt⟩
     obtain⟨y,hy⟩:∃y,ts[k]?=some y:=⟨_,List.getElem?_eq_getElem (by omega)⟩;rcases ha1 with h0|⟨ab,ao,rfl,hca⟩
     ·rw[h0] at hlt;exact absurd hlt (Nat.not_lt_zero _)
     rcases ha3 with h0|⟨bb,bo,rfl,hcb⟩
     ·rw[hr,h0] at hlt;exact absurd hlt (Nat.not_lt_zero _)
     obtain⟨e1,e2⟩:=(hca k x hx).kept hbw (Nat.le_refl _);obtain⟨e3,e4⟩:=(hcb k y hy).kept hbw (Nat.le_refl _);have hlm:k<ts.length:=by omega
     have k1:(k:Int)<(rs.length:Int):=by omega
     have k2:(k:Int)<(ts.length:Int):=by omega
     have HX:=Lib.hid hx;have HY:=Lib.hid hy;clear hca hcb hx hy hr hn hbw ha2 ha4;have qg:=zzy;by_cases hxy:x=y
     ·subst hxy
      have q2:∀w,(binOp .neq 75 (.agg #[.string x.name,.int .i64 x.root]) (.agg #[.string x.name,.int .i64 x.root])).run Tryz.prog w=.ok (.bool false) w:=fun w=>by rw[znt];simp
      go_wp2;go_quiet (fail);go_wp2;go_roundw
      case rel=>exact⟨k+1,by omega,by go_num,zak HW.out,hsw,b0,b1,b2,b3,by rw[za3 rs k x HX.out,za3 ts k x HY.out,HQ.out]⟩
      case measure=>simp[intOf];omega
     ·have q2:∀w,(binOp .neq 75 (.agg #[.string x.name,.int .i64 x.root]) (.agg #[.string y.name,.int .i64 y.root])).run Tryz.prog w=.ok (.bool true) w:=fun w=>by
       rw[znt,zeq];have:¬(x.name=y.name/\x.root=y.root):=fun h=>hxy ((PR.eq_iff x y).1 h)
       by_cases h1:x.name=y.name<;>by_cases h2:x.root=y.root<;>simp_all
      have HN:Hid (decide (rs=ts/\ns=ms)=false):=decN fun e=>by
       have h1:=HX.out;rw[e.1,HY.out] at h1;exact hxy (Option.some.inj h1).symm
      clear hxy;go_wp2;go_quiet (fail);go_wp2;go_ret;exact⟨zap HN.out.symm,zak HW.out⟩
    ·have HRT:Hid (rs=ts):=Lib.hid (by
      have hk':k=rs.length:=by omega
      have h1:=HQ.out;rw[List.take_of_length_le (by omega),List.take_of_length_le (by omega)] at h1;exact h1)
     have k1:¬(k:Int)<(rs.length:Int):=by omega
     clear ha1 ha3 hbw hr;go_wp2
     go_loopw [6] (fun c wq=>∃k:Nat,k<=ns.length/\c=.int .i64 k/\Below w.heap.size w wq/\w.heap.size+1<wq.heap.size/\wq.cell? ⟨w.heap.size,1,none⟩=some (.slice a2 ns.length c2)/\wq.cell? ⟨w.heap.size+1,1,none⟩=some (.slice a4 ms.length c4)/\ns.take k=ms.take k) (fun c _=>ns.length-(intOf c).toNat)
     case atStart=>exact⟨0,Nat.zero_le _,rfl,HW.out,hsw,b1,b3,rfl⟩
     case round=>
      clear b0 b1 b2 b3 HW hsw hlt;obtain⟨i,hi,rfl,hbw,hsw,b1,b3,hq⟩:=hrel;have HQ:=Lib.hid hq;have HW:=Lib.hid hbw;clear hq;by_cases hlt:i<ns.length
      ·obtain⟨x,hx⟩:∃x,ns[i]?=some x:=⟨_,List.getElem?_eq_getElem hlt⟩
       obtain⟨y,hy⟩:∃y,ms[i]?=some y:=⟨_,List.getElem?_eq_getElem (by omega)⟩;rcases ha2 with h0|⟨ab,ao,rfl,hca⟩
       ·rw[h0] at hlt;exact absurd hlt (Nat.not_lt_zero _)
       rcases ha4 with h0|⟨bb,bo,rfl,hcb⟩
       ·rw[hn,h0] at hlt;exact absurd hlt (Nat.not_lt_zero _)
       obtain⟨kv,c0,c1,c2,c3,c4,c5,c6,ci,cl⟩:=(hca i x hx).kept hbw (Nat.le_refl _);obtain⟨kv',d0,d1,d2,d3,d4,d5,d6,di,-⟩:=(hcb i y hy).kept hbw (Nat.le_refl _);have hlm:i<ms.length:=by omega
       unfold maxLen at cl;have j1:(i:Int)<(ns.length:Int):=by omega
       have j2:(i:Int)<(ms.length:Int):=by omega
       have HX:=Lib.hid hx;have HY:=Lib.hid hy;have la:=zai c0;have lb:=zai d0;clear hca hcb hx hy hn hbw;have CI:=Lib.hid ci;have DI:=Lib.hid di;obtain⟨ka,kc,rfl,-⟩:=ci;obtain⟨ka',kc',rfl,-⟩:=di
       go_upto_region 13 with fail
       have hb2:=zbo wr (.cells #[.int .i64 x.op,.slice ka x.kids.length kc,.int .i64 x.rule,.int .u64 x.s0,.int .u64 x.s1,.int .u64 x.s2,.int .u64 x.s3] 73) (.cells #[.int .i64 y.op,.slice ka' y.kids.length kc',.int .i64 y.rule,.int .u64 y.s0,.int .u64 y.s1,.int .u64 y.s2,.int .u64 y.s3] 73);obtain⟨W2,hW2⟩:∃W2,((wr.alloc (.cells #[.int .i64 x.op,.slice ka x.kids.length kc,.int .i64 x.rule,.int .u64 x.s0,.int .u64 x.s1,.int .u64 x.s2,.int .u64 x.s3] 73)).alloc (.cells #[.int .i64 y.op,.slice ka' y.kids.length kc',.int .i64 y.rule,.int .u64 y.s0,.int .u64 y.s1,.int .u64 y.s2,.int .u64 y.s3] 73))=W2:=⟨_,rfl⟩;have f0:W2.cell? ⟨wr.heap.size,0,none⟩=some (.int .i64 x.op):=by rw[<-hW2];simp
       have f1:W2.cell? ⟨wr.heap.size,1,none⟩=some (.slice ka x.kids.length kc):=by rw[<-hW2];simp
       have f2:W2.cell? ⟨wr.heap.size,2,none⟩=some (.int .i64 x.rule):=by rw[<-hW2];simp
       have f3:W2.cell? ⟨wr.heap.size,3,none⟩=some (.int .u64 x.s0):=by rw[<-hW2];simp
       have f4:W2.cell? ⟨wr.heap.size,4,none⟩=some (.int .u64 x.s1):=by rw[<-hW2];simp
       have f5:W2.cell? ⟨wr.heap.size,5,none⟩=some (.int .u64 x.s2):=by rw[<-hW2];simp
       have f6:W2.cell? ⟨wr.heap.size,6,none⟩=some (.int .u64 x.s3):=by rw[<-hW2];simp
       have g0:W2.cell? ⟨wr.heap.size+1,0,none⟩=some (.int .i64 y.op):=by rw[<-hW2];simp
       have g1:W2.cell? ⟨wr.heap.size+1,1,none⟩=some (.slice ka' y.kids.length kc'):=by rw[<-hW2];simp
       have g2:W2.cell? ⟨wr.heap.size+1,2,none⟩=some (.int .i64 y.rule):=by rw[<-hW2];simp
       have g3:W2.cell? ⟨wr.heap.size+1,3,none⟩=some (.int .u64 y.s0):=by rw[<-hW2];simp
       have g4:W2.cell? ⟨wr.heap.size+1,4,none⟩=some (.int .u64 y.s1):=by rw[<-hW2];simp
       have g5:W2.cell? ⟨wr.heap.size+1,5,none⟩=some (.int .u64 y.s2):=by rw[<-hW2];simp
       have g6:W2.cell? ⟨wr.heap.size+1,6,none⟩=some (.int .u64 y.s3):=by rw[<-hW2];simp
       rw[hW2];rw[hW2] at hb2;have hsz2:=hb2.size;have HW2:=Lib.hid (HW.out.trans (hb2.mono (by omega)));have m1:=(bcell hb2).1 _ 1 (zai b1);have m3:=(bcell hb2).1 _ 1 (zai b3);rw[b1] at m1;rw[b3] at m3;have CI2:=Lib.hid (CI.out.kept hb2 (Nat.le_refl _));have DI2:=Lib.hid (DI.out.kept hb2 (Nat.le_refl _));clear hW2 hb2 b1 b3 c0 c1 c2 c3 c4 c5 c6 d0 d1 d2 d3 d4 d5 d6 la lb CI DI;by_cases h1:x.op=y.op
       ·have p1:(x.op != y.op)=false:=by rw[h1];simp
        by_cases h2:x.rule=y.rule
        ·have p2:(x.rule != y.rule)=false:=by rw[h2];simp
         by_cases h3:x.s0=y.s0/\x.s1=y.s1/\x.s2=y.s2/\x.s3=y.s3
         ·have qs:∀w,(binOp .neq 71 (.agg #[.int .u64 x.s0,.int .u64 x.s1,.int .u64 x.s2,.int .u64 x.s3]) (.agg #[.int .u64 y.s0,.int .u64 y.s1,.int .u64 y.s2,.int .u64 y.s3])).run Tryz.prog w=.ok (.bool false) w:=fun w=>by rw[zl1,zrj,decide_eq_true h3];rfl
          have HS:=Lib.hid qs;clear qs;by_cases h4:x.kids.length=y.kids.length
          ·have p4:((x.kids.length:Int) != (y.kids.length:Int))=false:=by rw[h4];simp
           have HEQ:=Lib.hid (fun(h:x.kids=y.kids)=>PN.same h1 h h2 h3);clear h1 h2 h3
           go_wp2_with (with_reducible refine zaf BinOp.neq 71 _ _ _ rfl rfl _ _ rfl rfl zal _ (HS.out _) ?_)
           go_loopw [9] (fun c wq=>∃j q:Nat,j<=x.kids.length/\c=.int .i64 j/\wq=W2.drewN q/\x.kids.take j=y.kids.take j) (fun c _=>x.kids.length-(intOf c).toNat)
           case atStart=>exact⟨0,0,Nat.zero_le _,rfl,rfl,rfl⟩
           case round=>
            obtain⟨j,q,hj,rfl,rfl,hq⟩:=hrel;have HQ2:=Lib.hid hq;clear hq;by_cases hjl:j<x.kids.length
            ·obtain⟨u,hu⟩:∃u,x.kids[j]?=some u:=⟨_,List.getElem?_eq_getElem hjl⟩
             obtain⟨v,hv⟩:∃v,y.kids[j]?=some v:=⟨_,List.getElem?_eq_getElem (by omega)⟩;obtain⟨_,_,es,hk1⟩:=CI2.out;injection es with es1 es2 es3;subst es1 es3;obtain⟨_,_,es,hk2⟩:=DI2.out;injection es with es1 es2 es3;subst es1 es3;rcases hk1 with h0|⟨kb,ko,rfl,hk1⟩
             ·rw[h0] at hjl;exact absurd hjl (Nat.not_lt_zero _)
             rcases hk2 with h0|⟨kb',ko',rfl,hk2⟩
             ·rw[h4,h0] at hjl;exact absurd hjl (Nat.not_lt_zero _)
             have hu1:=hk1 j u hu;have hv1:=hk2 j v hv;have z1:(j:Int)<(x.kids.length:Int):=by omega
             have z2:(j:Int)<(y.kids.length:Int):=by omega
             have z3:j<y.kids.length:=by omega
             have HU:=Lib.hid hu;have HV:=Lib.hid hv;clear hk1 hk2 hu hv CI2 DI2 h4;by_cases huv:u=v
             ·have q3:(u != v)=false:=by rw[huv];simp
              go_wp2;go_quiet (fail);go_wp2;go_roundw
              case rel=>exact⟨j+1,_,by omega,by go_num,rfl,by rw[za3 x.kids j u HU.out,za3 y.kids j v HV.out,HQ2.out,huv]⟩
              case measure=>simp[intOf];omega
             ·have q3:(u != v)=true:=zah huv
              have HN:Hid (decide (rs=ts/\ns=ms)=false):=zjs HX.out HY.out (fun e=>by
               have h1:=HU.out;rw[e,HV.out] at h1;exact huv (Option.some.inj h1).symm)
              clear huv;go_wp2;go_quiet (fail);go_wp2;go_ret;exact⟨zap HN.out.symm,zak (zak HW2.out)⟩
            ·have z1:¬(j:Int)<(x.kids.length:Int):=by omega
             have HXY:=Lib.hid (HEQ.out (by
              have h1:=HQ2.out;rw[List.take_of_length_le (by omega),List.take_of_length_le (by omega)] at h1;exact h1))
             go_wp2;go_roundw
             case rel=>exact⟨i+1,by omega,by go_num,zak HW2.out,(show w.heap.size+1<W2.heap.size by omega),m1,m3,by rw[za3 ns i x HX.out,za3 ms i y HY.out,HQ.out,HXY.out]⟩
             case measure=>simp[intOf];omega
          ·have p4:((x.kids.length:Int) != (y.kids.length:Int))=true:=zah (by omega)
           have HN:Hid (decide (rs=ts/\ns=ms)=false):=zjs HX.out HY.out (fun e=>h4 (by rw[e]));clear h1 h2 h3 h4
           go_wp2_with (with_reducible refine zaf BinOp.neq 71 _ _ _ rfl rfl _ _ rfl rfl zal _ (HS.out _) ?_)
           go_ret;exact⟨zap HN.out.symm,HW2.out⟩
         ·have qs:∀w,(binOp .neq 71 (.agg #[.int .u64 x.s0,.int .u64 x.s1,.int .u64 x.s2,.int .u64 x.s3]) (.agg #[.int .u64 y.s0,.int .u64 y.s1,.int .u64 y.s2,.int .u64 y.s3])).run Tryz.prog w=.ok (.bool true) w:=fun w=>by rw[zl1,zrj,decide_eq_false h3];rfl
          have HS:=Lib.hid qs;have HN:Hid (decide (rs=ts/\ns=ms)=false):=zjs HX.out HY.out (fun e=>h3 (by rw[e];exact⟨rfl,rfl,rfl,rfl⟩));clear qs h1 h2 h3
          go_wp2_with (with_reducible refine zaf BinOp.neq 71 _ _ _ rfl rfl _ _ rfl rfl zal _ (HS.out _) ?_)
          go_ret;exact⟨zap HN.out.symm,HW2.out⟩
        ·have p2:(x.rule != y.rule)=true:=zah h2
         have HN:Hid (decide (rs=ts/\ns=ms)=false):=zjs HX.out HY.out (fun e=>h2 (by rw[e]));clear h1 h2;go_wp2;go_ret;exact⟨zap HN.out.symm,HW2.out⟩
       ·have p1:(x.op != y.op)=true:=zah h1
        have HN:Hid (decide (rs=ts/\ns=ms)=false):=zjs HX.out HY.out (fun e=>h1 (by rw[e]));clear h1;go_wp2;go_ret;exact⟨zap HN.out.symm,HW2.out⟩
      ·have HN:Hid (decide (rs=ts/\ns=ms)=true):=decY ⟨HRT.out,by
        have h1:=HQ.out;rw[List.take_of_length_le (by omega),List.take_of_length_le (by omega)] at h1;exact h1⟩
       have j1:¬(i:Int)<(ns.length:Int):=by omega
       clear hbw;go_wp2;go_ret;exact⟨zap (HN.out.symm.trans (Bool.decide_and _ _)),HW.out⟩
  ·have q2:((ns.length:Int) != (ms.length:Int))=true:=zah (by omega)
   have HN:Hid (decide (rs=ts/\ns=ms)=false):=decN fun e=>hn (by rw[e.2])
   go_enter Tryz.func13,Tryz.ntmps13;go_wp2;go_ret;exact⟨zap HN.out.symm,HB.out _ _⟩
 ·have q1:((rs.length:Int) != (ts.length:Int))=true:=zah (by omega)
  have HN:Hid (decide (rs=ts/\ns=ms)=false):=decN fun e=>hr (by rw[e.1])
  go_enter Tryz.func13,Tryz.ntmps13;go_wp2;go_ret;exact⟨zap HN.out.symm,HB.out _ _⟩
end Go.Proofs.YtnmflokhnaiiiaaGreatDoor
namespace Go.Proofs.YtnmflokhnaiiiaaGreatDoor
section
open Go.RowKit
theorem zx8 {rs:List (List Nat × Nat × Int)}{f:MF}{x:List Nat × Nat}{w w':World}{e:Ending}(hd:dupO rs=some x)(h:ROfIs rs f w e w'):e=.returned (.agg #[.slice none 0 0,.slice none 0 0,.string (strOf x.1),.int .i64 2,.int .i64 (x.2:Int)])/\Below w.heap.size w w':=by
 unfold ROfIs at h;rw[hd] at h;exact h
theorem zx9 {rs:List (List Nat × Nat × Int)}{f:MF}{x:List Nat × Nat}{w w':World}{e:Ending}(hd:dupO rs=none)(hu:undO (nmR rs) f=some x)(h:ROfIs rs f w e w'):e=.returned (.agg #[.slice none 0 0,.slice none 0 0,.string (strOf x.1),.int .i64 3,.int .i64 (x.2:Int)])/\Below w.heap.size w w':=by
 unfold ROfIs at h;rw[hd] at h;dsimp only at h;rw[hu] at h;exact h
theorem zya {rs:List (List Nat × Nat × Int)}{f:MF}{w w':World}{e:Ending}(hd:dupO rs=none)(hu:undO (nmR rs) f=none)(h:ROfIs rs f w e w'):∃ra rc na nc,e=.returned (.agg #[.slice ra (zam rs).length rc,.slice na (zan (nmR rs) (nmC f) f.nodes).length nc,.string ⟨#[]⟩,.int .i64 0,.int .i64 0])/\RulesIn w' (.slice ra (zam rs).length rc) (zam rs)/\NodesAt w' (.slice na (zan (nmR rs) (nmC f) f.nodes).length nc) (zan (nmR rs) (nmC f) f.nodes)/\Below w.heap.size w w':=by
 unfold ROfIs at h;rw[hd] at h;dsimp only at h;rw[hu] at h;obtain⟨rv,nv,rfl,h1,h2,h3⟩:=h;have h1':=h1;have h2':=h2;obtain⟨-,ra,rc,rfl,-⟩:=h1;obtain⟨-,na,nc,rfl,-⟩:=h2;exact⟨ra,rc,na,nc,rfl,h1',h2',h3⟩
theorem zoo (w:World):RulesIn w (.slice none 0 0) []:=⟨Nat.zero_le _,none,0,rfl,.inl rfl⟩
theorem zop (w:World):NodesAt w (.slice none 0 0) []:=⟨Nat.zero_le _,none,0,rfl,.inl rfl⟩
theorem zjt (w:World):Calls Tryz.prog 13 #[.agg #[.slice none 0 0,.slice none 0 0],.agg #[.slice none 0 0,.slice none 0 0]] w fun e w'=>e=.returned (.bool true)/\Below w.heap.size w w':=by
 have h:=zom _ _ _ _ [] [] [] [] w (zoo w) (zop w) (zoo w) (zop w);rw[decide_eq_true ⟨rfl,rfl⟩] at h;exact h
theorem zmj (ru nu rv nv:Value)(rs:List PR)(ns:List PN)(w:World)(h1:RulesIn w ru rs)(h2:NodesAt w nu ns)(h3:RulesIn w rv rs)(h4:NodesAt w nv ns):Calls Tryz.prog 13 #[.agg #[ru,nu],.agg #[rv,nv]] w fun e w'=>e=.returned (.bool true)/\Below w.heap.size w w':=by
 have h:=zom _ _ _ _ _ _ _ _ w h1 h2 h3 h4;rw[decide_eq_true ⟨rfl,rfl⟩] at h;exact h
end
open Go.RowKit
theorem zty (n:PN)(ka:Option Addr)(kc R:Nat)(w:World)(hl:n.kids.length<=9223372036854775807) :
  Calls Tryz.prog 69 #[.agg #[.int .i64 n.op,.slice ka n.kids.length kc,.int .i64 n.rule,.int .u64 n.s0,.int .u64 n.s1,.int .u64 n.s2,.int .u64 n.s3],.int .i64 (R:Int)] w fun e w'=>e=.returned (.bool (madeB n R))/\Below w.heap.size w w':=by
 rw[zsa,zxk];exact z8l _ _ _ _ _ _ _ _ _ _ w hl
def chkT:Chk->ByteArray × Int × Int
 |.ok=>(⟨#[]⟩,0,0)
 |.large=>(⟨#[]⟩,4,0)
 |.rules i=>(⟨#[114,117,108,101,115]⟩,10,(i:Int))
 |.nodes i=>(⟨#[110,111,100,101,115]⟩,10,(i:Int))
 |.order=>(⟨#[]⟩,10,0)
 |.deep i=>(⟨#[110,111,100,101,115]⟩,5,(i:Int))
def RChkIs (c:Chk)(w:World)(e:Ending)(w':World):Prop:=e=.returned (.tuple #[.string (chkT c).1,.int .i64 (chkT c).2.1,.int .i64 (chkT c).2.2])/\Below w.heap.size w w'
theorem RChkIs.mk {c d:Chk}{w w':World}(h:c=d)(hb:Below w.heap.size w w'):RChkIs c w (.returned (.tuple #[.string (chkT d).1,.int .i64 (chkT d).2.1,.int .i64 (chkT d).2.2])) w':=by subst h;exact⟨rfl,hb⟩
theorem nodK {n b0 nb o:Nat}{v0 v1 x0 x1 x2 x3 x4 x5 x6:Value}{w W W':World}(hn:n<=w.heap.size)(hb:Below W.heap.size W W')(h:W.cell? ⟨b0,0,none⟩=some v0/\W.cell? ⟨b0,1,none⟩=some v1/\W.cell? ⟨nb,o,none⟩=some x0/\W.cell? ⟨nb,o+1,none⟩=some x1/\W.cell? ⟨nb,o+2,none⟩=some x2/\W.cell? ⟨nb,o+3,none⟩=some x3/\W.cell? ⟨nb,o+4,none⟩=some x4/\W.cell? ⟨nb,o+5,none⟩=some x5/\W.cell? ⟨nb,o+6,none⟩=some x6/\b0<W.heap.size/\Below n w W) :
  W'.cell? ⟨b0,0,none⟩=some v0/\W'.cell? ⟨b0,1,none⟩=some v1/\W'.cell? ⟨nb,o,none⟩=some x0/\W'.cell? ⟨nb,o+1,none⟩=some x1/\W'.cell? ⟨nb,o+2,none⟩=some x2/\W'.cell? ⟨nb,o+3,none⟩=some x3/\W'.cell? ⟨nb,o+4,none⟩=some x4/\W'.cell? ⟨nb,o+5,none⟩=some x5/\W'.cell? ⟨nb,o+6,none⟩=some x6/\b0<W'.heap.size/\Below n w W':=by
 obtain⟨h0,h1,g0,g1,g2,g3,g4,g5,g6,h4,h5⟩:=h;have hc:=(bcell hb).1;have hl:=zai g0;exact⟨by rw[hc _ _ h4];exact h0,by rw[hc _ _ h4];exact h1,by rw[hc _ _ hl];exact g0,by rw[hc _ _ hl];exact g1,by rw[hc _ _ hl];exact g2,by rw[hc _ _ hl];exact g3,by rw[hc _ _ hl];exact g4,by rw[hc _ _ hl];exact g5,by rw[hc _ _ hl];exact g6,Nat.lt_of_lt_of_le h4 hb.size,h5.trans (hb.mono (Nat.le_trans hn h5.size))⟩
theorem ztz {rs:List PR}{ns:List PN}(h:1000<rs.length∨10000<ns.length):chkL rs ns=.large:=if_pos h
theorem zx4 {rs:List PR}{ns:List PN}(h:¬(1000<rs.length∨10000<ns.length))(h0:rs.length=0):chkL rs ns=.rules 0:=by unfold chkL;rw[if_neg h,if_pos h0]
theorem zlc {rs:List PR}{ns:List PN}{i:Nat}(h:¬(1000<rs.length∨10000<ns.length))(h0:rs.length≠0)(h1:fbad (zbp rs) rs.length 0=some i):chkL rs ns=.rules i:=by unfold chkL;rw[if_neg h,if_neg h0,h1]
theorem zt0 {rs:List PR}{ns:List PN}{i:Nat}(h:¬(1000<rs.length∨10000<ns.length))(h0:rs.length≠0)(h1:fbad (zbp rs) rs.length 0=none)(h2:fbad (zbv ns rs.length) ns.length 0=some i):chkL rs ns=.nodes i:=by unfold chkL;rw[if_neg h,if_neg h0,h1];dsimp only;rw[h2]
theorem zt1 {rs:List PR}{ns:List PN}(h:¬(1000<rs.length∨10000<ns.length))(h0:rs.length≠0)(h1:fbad (zbp rs) rs.length 0=none)(h2:fbad (zbv ns rs.length) ns.length 0=none)(h3:ordR ns rs (-1)=false):chkL rs ns=.order:=by
 unfold chkL;rw[if_neg h,if_neg h0,h1];dsimp only;rw[h2];dsimp only;rw[if_neg (by rw[h3];exact Bool.false_ne_true)]
theorem zx5 {rs:List PR}{ns:List PN}{i:Nat}(h:¬(1000<rs.length∨10000<ns.length))(h0:rs.length≠0)(h1:fbad (zbp rs) rs.length 0=none)(h2:fbad (zbv ns rs.length) ns.length 0=none)(h3:ordR ns rs (-1)=true)(h4:fbad (zb2 ns) ns.length 0=some i):chkL rs ns=.deep i:=by
 unfold chkL;rw[if_neg h,if_neg h0,h1];dsimp only;rw[h2];dsimp only;rw[if_pos h3,h4]
theorem zx6 {rs:List PR}{ns:List PN}(h:¬(1000<rs.length∨10000<ns.length))(h0:rs.length≠0)(h1:fbad (zbp rs) rs.length 0=none)(h2:fbad (zbv ns rs.length) ns.length 0=none)(h3:ordR ns rs (-1)=true)(h4:fbad (zb2 ns) ns.length 0=none):chkL rs ns=.ok:=by
 unfold chkL;rw[if_neg h,if_neg h0,h1];dsimp only;rw[h2];dsimp only;rw[if_pos h3,h4]
theorem zon (ra na:Option Addr)(rn rc nn nc:Nat)(w:World)(hr:rn<=9223372036854775807)(hn:nn<=9223372036854775807)(h:1000<rn∨10000<nn) :
  Calls Tryz.prog 48 #[.agg #[.slice ra rn rc,.slice na nn nc]] w (RChkIs .large w):=by
 have HB:=Lib.hid (zaa w);by_cases h1:1000<rn
 ·have k1:(1000:Int)<(rn:Int):=by omega
  clear h;go_enter Tryz.func48,Tryz.ntmps48;go_wp2
  go_ret3
  exact RChkIs.mk (d:=.large) rfl (HB.out _)
 ·have k1:¬(1000:Int)<(rn:Int):=by omega
  have k2:(10000:Int)<(nn:Int):=by omega
  clear h;go_enter Tryz.func48,Tryz.ntmps48;go_wp2
  go_ret3
  exact RChkIs.mk (d:=.large) rfl (HB.out _)
theorem zqf (ra na:Option Addr)(rc nn nc:Nat)(w:World)(hn:nn<=10000) :
  Calls Tryz.prog 48 #[.agg #[.slice ra 0 rc,.slice na nn nc]] w (RChkIs (.rules 0) w):=by
 have HB:=Lib.hid (zaa w);have k2:¬(10000:Int)<(nn:Int):=by omega
 go_enter Tryz.func48,Tryz.ntmps48;go_wp2
 go_ret3
 exact RChkIs.mk (d:=.rules 0) rfl (HB.out _)
theorem zqg (rv nv:Value)(rs:List PR)(ns:List PN)(w:World)(hR:RulesIn w rv rs)(hN:NodesAt w nv ns)(hnm:∀r,r ∈ rs->r.name.size<=2000000)(hsm:¬(1000<rs.length∨10000<ns.length))(hr0:rs.length≠0) :
  Calls Tryz.prog 48 #[.agg #[rv,nv]] w (RChkIs (chkL rs ns) w):=by
 have HB:=Lib.hid (zaa w);have HM:=Lib.hid hnm;have HSM:=Lib.hid hsm;have HNR:=Lib.hid hR;have HNN:=Lib.hid hN;have k0:¬(1000:Int)<(rs.length:Int):=by omega
 have k00:¬(10000:Int)<(ns.length:Int):=by omega
 have q0:((rs.length:Int) == 0)=false:=zae (by omega);obtain⟨-,ra,rc,rfl,hra⟩:=hR;obtain⟨-,na,nc,rfl,hna⟩:=hN;rcases hra with h1|⟨rb,ro,rfl,hcr⟩
 ·rw[h1] at hr0;exact absurd rfl hr0
 have hrl:rs.length<=1000:=by omega
 have hnl:ns.length<=10000:=by omega
 clear hnm hsm;go_enter Tryz.func48,Tryz.ntmps48;go_wp2
 go_loopw [5] (fun c wr=>∃k:Nat,k<=rs.length/\c=.int .i64 k/\Below w.heap.size w wr/\w.heap.size<wr.heap.size/\wr.cell? ⟨w.heap.size,0,none⟩=some (.slice (some ⟨rb,ro,none⟩) rs.length rc)/\wr.cell? ⟨w.heap.size,1,none⟩=some (.slice na ns.length nc)/\fbad (zbp rs) rs.length 0=fbad (zbp rs) (rs.length-k) k) (fun c _=>rs.length-(intOf c).toNat)
 case atStart=>exact⟨0,Nat.zero_le _,rfl,HB.out _,by simp,by simp,by simp,rfl⟩
 case round=>
  obtain⟨k,hk,rfl,hbw,hsw,b0,b1,hf⟩:=hrel;have HF:=Lib.hid hf;have HW:=Lib.hid hbw;clear hf;by_cases hlt:k<rs.length
  ·obtain⟨r,hr⟩:∃r,rs[k]?=some r:=⟨_,List.getElem?_eq_getElem hlt⟩
   obtain⟨c0,c1⟩:=(hcr k r hr).kept hbw (Nat.le_refl _);have lb:=zai c0;have k1:(k:Int)<(rs.length:Int):=by omega
   have hsub:rs.length-k=(rs.length-(k+1))+1:=by omega
   rw[hsub] at HF;have hnb:=zk6 hr;have HP:=Lib.hid (fun w=>zvt r.name w (HM.out r (List.mem_of_getElem? hr)));have HCR:=Lib.hid hcr;clear hsub hr hbw hcr;cases hnm:nameB (bts r.name) with
   |false=>
    rw[hnm,Bool.not_false,Bool.or_true] at hnb;rw[hnm] at HP;have HR:=Lib.hid (zlc (ns:=ns) HSM.out hr0 (HF.out.trans (zbn hnb)));clear hnb hnm
    go_wp2_with (go_at_call 68;(with_reducible refine(HP.out _).mono ?_);rintro e w2 ⟨rfl,hw⟩;obtain rfl:=hw.symm;clear hw)
    go_ret3
    exact RChkIs.mk (d:=.rules k) HR.out HW.out
   |true=>
    rw[hnm,Bool.not_true,Bool.or_false] at hnb;rw[hnm] at HP;have HNB:=Lib.hid hnb;clear hnb hnm
    go_wp2_with (go_at_call 68;(with_reducible refine(HP.out _).mono ?_);rintro e w2 ⟨rfl,hw⟩;obtain rfl:=hw.symm;clear hw)
    go_loopw [6] (fun c wq=>∃(j q:Nat),j<=k/\c=.int .i64 j/\wq=wr.drewN q/\seenL rs j r.name=false) (fun c _=>k-(intOf c).toNat)
    case atStart=>exact⟨0,0,Nat.zero_le _,rfl,rfl,rfl⟩
    case round=>
     obtain⟨j,q,hj,rfl,rfl,hs⟩:=hrel;have HS:=Lib.hid hs;clear hs;by_cases hjk:j<k
     ·obtain⟨x,hx⟩:∃x,rs[j]?=some x:=⟨_,List.getElem?_eq_getElem (by omega)⟩
      obtain⟨d0,d1⟩:=(HCR.out j x hx).kept HW.out (Nat.le_refl _);have hss:=zk5 hx r.name;have k2:(j:Int)<(k:Int):=by omega
      have k3:(j:Int)<(rs.length:Int):=by omega
      by_cases hxr:x.name=r.name
      ·have hin:seenL rs k r.name=true:=by
        have h1:x ∈ rs.take k:=by
         rw[List.mem_iff_getElem?];exact⟨j,by rw[List.getElem?_take,if_pos hjk];exact hx⟩
        unfold seenL;rw[List.any_eq_true];exact⟨x,h1,decide_eq_true hxr⟩
       have HR:=Lib.hid (zlc (ns:=ns) HSM.out hr0 (HF.out.trans (zbn (HNB.out.trans hin))));have q1:(x.name.toList == r.name.toList)=true:=by rw[hxr];simp
       clear hx hss hin hxr;go_wp2;go_quiet (fail);go_wp2
       go_ret3
       exact RChkIs.mk (d:=.rules k) HR.out (zak (zak HW.out))
      ·have q1:(x.name.toList == r.name.toList)=false:=by rw[zeq,decide_eq_false hxr]
       have HSS:Hid (seenL rs (j+1) r.name=false):=Lib.hid (by rw[hss,HS.out,decide_eq_false hxr];rfl);clear hx hss hxr;go_wp2;go_quiet (fail);go_wp2;go_roundw
       case rel=>exact⟨j+1,_,by omega,by go_num,rfl,HSS.out⟩
       case measure=>simp[intOf];omega
     ·obtain rfl:j=k:=by omega
      have k2:¬(j:Int)<(j:Int):=by omega
      have HR:=Lib.hid (HF.out.trans (zbz (HNB.out.trans HS.out)));go_wp2;refine⟨⟨j+1,by omega,by go_num,zak HW.out,hsw,b0,b1,HR.out⟩,by simp[intOf];omega⟩
  ·obtain rfl:k=rs.length:=by omega
   have k1:¬(rs.length:Int)<(rs.length:Int):=by omega
   have HR1:Hid (fbad (zbp rs) rs.length 0=none):=Lib.hid (by rw[HF.out,Nat.sub_self];rfl);clear hbw hcr;go_wp2
   go_loopw [7] (fun c wr=>∃k:Nat,k<=ns.length/\c=.int .i64 k/\Below w.heap.size w wr/\w.heap.size<wr.heap.size/\wr.cell? ⟨w.heap.size,0,none⟩=some (.slice (some ⟨rb,ro,none⟩) rs.length rc)/\wr.cell? ⟨w.heap.size,1,none⟩=some (.slice na ns.length nc)/\fbad (zbv ns rs.length) ns.length 0=fbad (zbv ns rs.length) (ns.length-k) k) (fun c _=>ns.length-(intOf c).toNat)
   case atStart=>exact⟨0,Nat.zero_le _,rfl,HW.out,hsw,b0,b1,rfl⟩
   case round=>
    obtain⟨k,hk,rfl,hbw2,hsw2,b02,b12,hf2⟩:=hrel;have HF2:=Lib.hid hf2;have HW2:=Lib.hid hbw2;clear hf2 HF HW b0 b1 hsw;by_cases hlt2:k<ns.length
    ·obtain⟨n,hn⟩:∃r,ns[k]?=some r:=⟨_,List.getElem?_eq_getElem hlt2⟩
     rcases hna with h0|⟨nb,no,rfl,hca⟩
     ·rw[h0] at hlt2;exact absurd hlt2 (Nat.not_lt_zero _)
     obtain⟨kv,c0,c1,c2,c3,c4,c5,c6,⟨ka,kc,rfl,-⟩,cl⟩:=(hca k n hn).kept hbw2 (Nat.le_refl _);have k2:(k:Int)<(ns.length:Int):=by omega
     have hsub:ns.length-k=(ns.length-(k+1))+1:=by omega
     rw[hsub] at HF2;have hnb:zbv ns rs.length k=!madeB n rs.length:=by unfold zbv;rw[hn]
     unfold maxLen at cl;have HC:=Lib.hid (fun W=>zty n ka kc rs.length W (by omega));clear hsub hca hn hbw2;cases hm:madeB n rs.length with
     |false=>
      rw[hm] at hnb HC;have HR:=Lib.hid (zt0 HSM.out hr0 HR1.out (HF2.out.trans (zbn hnb)));clear hnb hm;go_wp2;obtain⟨n0,hn0⟩:∃n0,w.heap.size=n0:=⟨_,rfl⟩;have hnw:n0<=w.heap.size:=Nat.le_of_eq hn0.symm;have HN0:=Lib.hid hn0;have hS:(fun W:World=>W.cell? ⟨w.heap.size,0,none⟩=some (.slice (some ⟨rb,ro,none⟩) rs.length rc)/\W.cell? ⟨w.heap.size,1,none⟩=some (.slice (some ⟨nb,no,none⟩) ns.length nc)/\W.cell? ⟨nb,no+k*7,none⟩=some (.int .i64 n.op)/\W.cell? ⟨nb,no+k*7+1,none⟩=some (.slice ka n.kids.length kc)/\W.cell? ⟨nb,no+k*7+2,none⟩=some (.int .i64 n.rule)/\W.cell? ⟨nb,no+k*7+3,none⟩=some (.int .u64 n.s0)/\W.cell? ⟨nb,no+k*7+4,none⟩=some (.int .u64 n.s1)/\W.cell? ⟨nb,no+k*7+5,none⟩=some (.int .u64 n.s2)/\W.cell? ⟨nb,no+k*7+6,none⟩=some (.int .u64 n.s3)/\w.heap.size<W.heap.size/\Below n0 w W) wr.drew:=⟨b02,b12,c0,c1,c2,c3,c4,c5,c6,hsw2,by rw[<-hn0];exact HW2.out.drew⟩;clear hn0 b02 b12 c0 c1 c2 c3 c4 c5 c6 hsw2 HW2;dsimp only at hS
      go_region_held3 (fun W=>W.cell? ⟨w.heap.size,0,none⟩=some (.slice (some ⟨rb,ro,none⟩) rs.length rc)/\W.cell? ⟨w.heap.size,1,none⟩=some (.slice (some ⟨nb,no,none⟩) ns.length nc)/\W.cell? ⟨nb,no+k*7,none⟩=some (.int .i64 n.op)/\W.cell? ⟨nb,no+k*7+1,none⟩=some (.slice ka n.kids.length kc)/\W.cell? ⟨nb,no+k*7+2,none⟩=some (.int .i64 n.rule)/\W.cell? ⟨nb,no+k*7+3,none⟩=some (.int .u64 n.s0)/\W.cell? ⟨nb,no+k*7+4,none⟩=some (.int .u64 n.s1)/\W.cell? ⟨nb,no+k*7+5,none⟩=some (.int .u64 n.s2)/\W.cell? ⟨nb,no+k*7+6,none⟩=some (.int .u64 n.s3)/\w.heap.size<W.heap.size/\Below n0 w W) (first|exact hS)
       (first|(go_at_call 69;with_reducible refine(HC.out _).mono ?_;rintro ev w3 ⟨rfl,hb⟩;replace hS:=nodK hnw hb hS;clear hb))
      have HB3:=Lib.hid hS.2.2.2.2.2.2.2.2.2.2;clear hS;go_wp2
      go_ret3
      exact RChkIs.mk (d:=.nodes k) HR.out (by rw[HN0.out];exact HB3.out)
     |true=>
      rw[hm] at hnb HC;have HR:=Lib.hid (HF2.out.trans (zbz hnb));clear hnb hm;go_wp2;obtain⟨n0,hn0⟩:∃n0,w.heap.size=n0:=⟨_,rfl⟩;have hnw:n0<=w.heap.size:=Nat.le_of_eq hn0.symm;have HN0:=Lib.hid hn0;have hS:(fun W:World=>W.cell? ⟨w.heap.size,0,none⟩=some (.slice (some ⟨rb,ro,none⟩) rs.length rc)/\W.cell? ⟨w.heap.size,1,none⟩=some (.slice (some ⟨nb,no,none⟩) ns.length nc)/\W.cell? ⟨nb,no+k*7,none⟩=some (.int .i64 n.op)/\W.cell? ⟨nb,no+k*7+1,none⟩=some (.slice ka n.kids.length kc)/\W.cell? ⟨nb,no+k*7+2,none⟩=some (.int .i64 n.rule)/\W.cell? ⟨nb,no+k*7+3,none⟩=some (.int .u64 n.s0)/\W.cell? ⟨nb,no+k*7+4,none⟩=some (.int .u64 n.s1)/\W.cell? ⟨nb,no+k*7+5,none⟩=some (.int .u64 n.s2)/\W.cell? ⟨nb,no+k*7+6,none⟩=some (.int .u64 n.s3)/\w.heap.size<W.heap.size/\Below n0 w W) wr.drew:=⟨b02,b12,c0,c1,c2,c3,c4,c5,c6,hsw2,by rw[<-hn0];exact HW2.out.drew⟩;clear hn0 b02 b12 c0 c1 c2 c3 c4 c5 c6 hsw2 HW2;dsimp only at hS
      go_region_held3 (fun W=>W.cell? ⟨w.heap.size,0,none⟩=some (.slice (some ⟨rb,ro,none⟩) rs.length rc)/\W.cell? ⟨w.heap.size,1,none⟩=some (.slice (some ⟨nb,no,none⟩) ns.length nc)/\W.cell? ⟨nb,no+k*7,none⟩=some (.int .i64 n.op)/\W.cell? ⟨nb,no+k*7+1,none⟩=some (.slice ka n.kids.length kc)/\W.cell? ⟨nb,no+k*7+2,none⟩=some (.int .i64 n.rule)/\W.cell? ⟨nb,no+k*7+3,none⟩=some (.int .u64 n.s0)/\W.cell? ⟨nb,no+k*7+4,none⟩=some (.int .u64 n.s1)/\W.cell? ⟨nb,no+k*7+5,none⟩=some (.int .u64 n.s2)/\W.cell? ⟨nb,no+k*7+6,none⟩=some (.int .u64 n.s3)/\w.heap.size<W.heap.size/\Below n0 w W) (first|exact hS)
       (first|(go_at_call 69;with_reducible refine(HC.out _).mono ?_;rintro ev w3 ⟨rfl,hb⟩;replace hS:=nodK hnw hb hS;clear hb))
      obtain⟨b03,b13,-,-,-,-,-,-,-,hsw3,hb3⟩:=hS;have HB3:=Lib.hid hb3;clear hb3;go_wp2;go_roundw
      case rel=>exact⟨k+1,by omega,by go_num,by rw[HN0.out];exact HB3.out,hsw3,b03,b13,HR.out⟩
      case measure=>simp[intOf];omega
    ·obtain rfl:k=ns.length:=by omega
     have k2:¬(ns.length:Int)<(ns.length:Int):=by omega
     have HR2:Hid (fbad (zbv ns rs.length) ns.length 0=none):=Lib.hid (by rw[HF2.out,Nat.sub_self];rfl);have HO:=Lib.hid (fun W (hb:Below w.heap.size w W)=>zp9 (.slice (some ⟨rb,ro,none⟩) rs.length rc) na ns.length nc rs ns W (by omega) (HNR.out.kept hb (Nat.le_refl _)) (HNN.out.kept hb (Nat.le_refl _)));clear hbw2;cases ho:ordR ns rs (-1) with
     |false=>
      rw[ho] at HO;have HR:=Lib.hid (zt1 HSM.out hr0 HR1.out HR2.out ho);clear ho
      go_wp2_with (go_at_call 70;(with_reducible refine(HO.out _ HW2.out).mono ?_);rintro e w3 ⟨rfl,hb⟩;replace HW2:=Lib.hid (HW2.out.trans (hb.mono HW2.out.size));clear hb)
      go_ret3
      exact RChkIs.mk (d:=.order) HR.out HW2.out
     |true=>
      rw[ho] at HO;have HK:=Lib.hid (zuh ho).kids;have HOR:=Lib.hid ho;clear ho
      go_wp2_with (go_at_call 70;(with_reducible refine(HO.out _ HW2.out).mono ?_);rintro e w3 ⟨rfl,hb⟩;replace HW2:=Lib.hid (HW2.out.trans (hb.mono HW2.out.size));have q1:=(bcell hb).1 _ 0 hsw2;have q2:=(bcell hb).1 _ 1 hsw2;rw[b02] at q1;rw[b12] at q2;have hsw3:=Nat.lt_of_lt_of_le hsw2 hb.size;clear hb b02 b12 hsw2)
      go_loopw [8] (fun c wr=>∃k:Nat,k<=ns.length/\c=.int .i64 k/\Below w.heap.size w wr/\w.heap.size<wr.heap.size/\wr.cell? ⟨w.heap.size,0,none⟩=some (.slice (some ⟨rb,ro,none⟩) rs.length rc)/\wr.cell? ⟨w.heap.size,1,none⟩=some (.slice na ns.length nc)/\fbad (zb2 ns) ns.length 0=fbad (zb2 ns) (ns.length-k) k) (fun c _=>ns.length-(intOf c).toNat)
      case atStart=>exact⟨0,Nat.zero_le _,rfl,HW2.out,hsw3,q1,q2,rfl⟩
      case round=>
       obtain⟨k,hk4,rfl,hbw4,hsw4,b04,b14,hf4⟩:=hrel;have HF4:=Lib.hid hf4;have HW4:=Lib.hid hbw4;clear hf4 HW2 q1 q2 hsw3;by_cases hlt4:k<ns.length
       ·have k4:(k:Int)<(ns.length:Int):=by omega
        have hsub:ns.length-k=(ns.length-(k+1))+1:=by omega
        rw[hsub] at HF4;have hrd:=zuk HK.out 205 (k:Int) (by omega) (by omega);rw[show(k:Int).toNat=k by omega] at hrd;have HC:=Lib.hid (zn4 (some ⟨rb,ro,none⟩) na rs.length rc ns.length nc ns (by omega) HK.out 205 k 205 wr rfl (by omega) hlt4 (HNN.out.kept HW4.out (Nat.le_refl _)));generalize rdF ns 205 (k:Int)=y at HC hrd;clear hsub hbw4;by_cases hd:200<dpL ns k
        ·have hbad:zb2 ns k=true:=decide_eq_true hd
         have HR:=Lib.hid (zx5 HSM.out hr0 HR1.out HR2.out HOR.out (HF4.out.trans (zbn hbad)));have k5:(200:Int)<(y:Int):=by omega
         clear hbad hrd
         go_wp2_with (go_at_call 71;(with_reducible refine HC.out.mono ?_);rintro e w5 ⟨rfl,hb⟩;replace HW4:=Lib.hid (HW4.out.trans (hb.mono HW4.out.size));clear hb)
         go_ret3
         exact RChkIs.mk (d:=.deep k) HR.out HW4.out
        ·have hbad:zb2 ns k=false:=decide_eq_false hd
         have HR:=Lib.hid (HF4.out.trans (zbz hbad));have k5:¬(200:Int)<(y:Int):=by omega
         clear hbad hrd
         go_wp2_with (go_at_call 71;(with_reducible refine HC.out.mono ?_);rintro e w5 ⟨rfl,hb⟩;replace HW4:=Lib.hid (HW4.out.trans (hb.mono HW4.out.size));have q1:=(bcell hb).1 _ 0 hsw4;have q2:=(bcell hb).1 _ 1 hsw4;rw[b04] at q1;rw[b14] at q2;have hsw5:=Nat.lt_of_lt_of_le hsw4 hb.size;clear hb b04 b14 hsw4)
         go_roundw
         case rel=>exact⟨k+1,by omega,by go_num,HW4.out,hsw5,q1,q2,HR.out⟩
         case measure=>simp[intOf];omega
       ·obtain rfl:k=ns.length:=by omega
        have k4:¬(ns.length:Int)<(ns.length:Int):=by omega
        have HR4:Hid (fbad (zb2 ns) ns.length 0=none):=Lib.hid (by rw[HF4.out,Nat.sub_self];rfl);have HR:=Lib.hid (zx6 HSM.out hr0 HR1.out HR2.out HOR.out HR4.out);clear hbw4;go_wp2
        go_ret3
        exact RChkIs.mk (d:=.ok) HR.out HW4.out
theorem zho (rv nv:Value)(rs:List PR)(ns:List PN)(w:World)(hR:RulesIn w rv rs)(hN:NodesAt w nv ns)(hnm:∀r,r ∈ rs->r.name.size<=2000000) :
  Calls Tryz.prog 48 #[.agg #[rv,nv]] w (RChkIs (chkL rs ns) w):=by
 by_cases hl:1000<rs.length∨10000<ns.length
 ·rw[ztz hl]
  obtain⟨hlr,ra,rc,rfl,-⟩:=hR;obtain⟨hln,na,nc,rfl,-⟩:=hN;unfold maxLen at hlr hln;exact zon ra na rs.length rc ns.length nc w (by omega) (by omega) hl
 ·by_cases h0:rs.length=0
  ·rw[zx4 hl h0]
   obtain⟨-,ra,rc,rfl,-⟩:=hR;obtain⟨-,na,nc,rfl,-⟩:=hN;rw[h0];exact zqf ra na rc ns.length nc w (by omega)
  ·exact zqg rv nv rs ns w hR hN hnm hl h0
def okB (c:Chk):Bool:=match c with
 |.ok=>true
 |_=>false
theorem z1g (c:Chk):((chkT c).2.1 == 0)=okB c:=by cases c<;>rfl
theorem zx7 (rv nv:Value)(rs:List PR)(ns:List PN)(w:World)(hR:RulesIn w rv rs)(hN:NodesAt w nv ns)(hnm:∀r,r ∈ rs->r.name.size<=2000000) :
  Calls Tryz.prog 26 #[.agg #[rv,nv]] w fun e w'=>e=.returned (.bool (okB (chkL rs ns)))/\Below w.heap.size w w':=by
 have HC:=Lib.hid (fun(o:Obj)=>zho rv nv rs ns (w.alloc o) (hR.kept (zaa w o) (Nat.le_refl _)) (hN.kept (zaa w o) (Nat.le_refl _)) hnm);have hq:=z1g (chkL rs ns);obtain⟨-,ra,rc,rfl,-⟩:=hR;obtain⟨-,na,nc,rfl,-⟩:=hN;generalize chkL rs ns=c at *;unfold RChkIs at HC;generalize (chkT c).1=x1 at *;generalize (chkT c).2.1=x2 at *;generalize (chkT c).2.2=x3 at *;cases hb:okB c with
 |false=>
  rw[hb] at hq;clear hb;go_enter Tryz.func26,Tryz.ntmps26
  go_wp2_with (go_at_call 48;(with_reducible refine(HC.out _).mono ?_);rintro e w5 ⟨rfl,hb⟩;have HW:=Lib.hid ((zaa w _).trans (hb.mono (zaa w _).size));clear hb)
  go_ret;exact⟨rfl,HW.out⟩
 |true=>
  rw[hb] at hq;clear hb;go_enter Tryz.func26,Tryz.ntmps26
  go_wp2_with (go_at_call 48;(with_reducible refine(HC.out _).mono ?_);rintro e w5 ⟨rfl,hb⟩;have HW:=Lib.hid ((zaa w _).trans (hb.mono (zaa w _).size));clear hb)
  go_ret;exact⟨rfl,HW.out⟩
end Go.Proofs.YtnmflokhnaiiiaaGreatDoor
