/- The reference's Node at a sequence or a choice: what its loops know. The reference's Node at a sequence. The reference's Node at a choice. The reference's Node  -/
import Derived.Deep.Cut
import Derived.Deep.QuietTactic
import Derived.Test.YthhppmehhdlmnaaGreatDoorPzD
import Derived.Test.YthhppmehhdlmnaaGreatDoorPzFS
set_option maxRecDepth 100000
set_option maxHeartbeats 8000000
namespace Go.Proofs.YthhppmehhdlmnaaGreatDoor
open Go.RowKit
def okK (p:Int->Fc)(ks:List Int)(m:Nat):Bool:=(ks.take m).all fun x=>(p x).ok
def faK (p:Int->Fc)(ks:List Int)(m:Nat):Bool:=(ks.take m).all fun x=>(p x).fai
def sqK (p:Int->Fc)(ks:List Int)(k:Nat):Fc × Bool:=((ks.take k).map p).foldl seqS (⟨true,false,false⟩,true)
def chK (p:Int->Fc)(ks:List Int)(k:Nat):Fc:=((ks.take k).map p).foldl choS ⟨false,false,true⟩
theorem z0s {p:Int->Fc}{ks:List Int}{m:Nat}{x:Int}(h:ks[m]?=some x):okK p ks (m+1)=(okK p ks m&&(p x).ok):=by
 unfold okK;rw[zap ks m x h,List.all_append];simp
theorem z0t {p:Int->Fc}{ks:List Int}{m:Nat}{x:Int}(h:ks[m]?=some x):faK p ks (m+1)=(faK p ks m&&(p x).fai):=by
 unfold faK;rw[zap ks m x h,List.all_append];simp
theorem z0u {p:Int->Fc}{ks:List Int}{m:Nat}{x:Int}(h:ks[m]?=some x):sqK p ks (m+1)=seqS (sqK p ks m) (p x):=by
 unfold sqK;rw[zap ks m x h,List.map_append,List.foldl_append];rfl
theorem z0v {p:Int->Fc}{ks:List Int}{m:Nat}{x:Int}(h:ks[m]?=some x):chK p ks (m+1)=choS (chK p ks m) (p x):=by
 unfold chK;rw[zap ks m x h,List.map_append,List.foldl_append];rfl
theorem z8k (p:Int->Fc)(ks:List Int)(m:Nat):(sqK p ks m).2=okK p ks m:=by
 have key:∀(l:List Int) (s:Fc × Bool),((l.map p).foldl seqS s).2=(s.2&&l.all fun x=>(p x).ok):=by
  intro l
  induction l with
  |nil=>intro s;simp
  |cons x t ih=>intro s;show((t.map p).foldl seqS (seqS s (p x))).2=_;rw[ih];show(s.2&&(p x).ok&&_)=_;rw[Bool.and_assoc];rfl
 unfold sqK okK;rw[key];simp
theorem z5p (p:Int->Fc)(ks:List Int)(m:Nat):(chK p ks m).fai=faK p ks m:=by
 have key:∀(l:List Int) (s:Fc),((l.map p).foldl choS s).fai=(s.fai&&l.all fun x=>(p x).fai):=by
  intro l
  induction l with
  |nil=>intro s;simp
  |cons x t ih=>intro s;show((t.map p).foldl choS (choS s (p x))).fai=_;rw[ih];show(s.fai&&(p x).fai&&_)=_;rw[Bool.and_assoc];rfl
 unfold chK faK;rw[key];simp
theorem FactsAt.open {w:World}{a:Option Addr}{n c:Nat}{l:List Fc}(h:FactsAt w (.slice a n c) l)(h0:0<l.length):∃b off,a=some ⟨b,off,none⟩/\∀i f,l[i]?=some f->FactAt w b (off+i*3) f:=by
 obtain⟨-,a',c',e,h⟩:=h;injection e with e1 e2 e3;subst e1;rcases h with h|⟨b,off,rfl,hc⟩
 ·rw[h] at h0;exact absurd h0 (Nat.lt_irrefl _)
 ·exact⟨b,off,rfl,hc⟩
def RnAt (w:World)(nv:Array Value)(s:Fc)(W:World):Prop:=Below w.heap.size w W/\Bl W (w.heap.size+1) 100 #[.bool false,.bool false,.bool false]/\Bl W (w.heap.size+1+1) 51 nv/\Bl W (w.heap.size+1+1+1) 100 #[.bool s.nul,.bool s.eat,.bool s.fai]
section
variable {w W W':World} {nv:Array Value} {s:Fc}
theorem RnAt.lo (h:RnAt w nv s W):Below w.heap.size w W:=h.1
theorem RnAt.r (h:RnAt w nv s W):Bl W (w.heap.size+1) 100 #[.bool false,.bool false,.bool false]:=h.2.1
theorem RnAt.n (h:RnAt w nv s W):Bl W (w.heap.size+1+1) 51 nv:=h.2.2.1
theorem RnAt.o (h:RnAt w nv s W):Bl W (w.heap.size+1+1+1) 100 #[.bool s.nul,.bool s.eat,.bool s.fai]:=h.2.2.2
theorem RnAt.below (h:RnAt w nv s W)(hb:Below W.heap.size W W'):RnAt w nv s W':=⟨bl_on h.lo hb,h.r.below hb,h.n.below hb,h.o.below hb⟩
theorem RnAt.past {o:Obj}(h:RnAt w nv s W):RnAt w nv s (W.alloc o):=h.below (zab W o)
theorem RnAt.p0 (h:RnAt w nv s W)(b:Bool):RnAt w nv ⟨b,s.eat,s.fai⟩ (W.setCell ⟨w.heap.size+1+1+1,0,none⟩ (.bool b)):=⟨za5 h.lo (by omega),h.r.off (by omega),h.n.off (by omega),h.o.p0 _⟩
theorem RnAt.p1 (h:RnAt w nv s W)(b:Bool):RnAt w nv ⟨s.nul,b,s.fai⟩ (W.setCell ⟨w.heap.size+1+1+1,1,none⟩ (.bool b)):=⟨za5 h.lo (by omega),h.r.off (by omega),h.n.off (by omega),h.o.p1 _⟩
theorem RnAt.p2 (h:RnAt w nv s W)(b:Bool):RnAt w nv ⟨s.nul,s.eat,b⟩ (W.setCell ⟨w.heap.size+1+1+1,2,none⟩ (.bool b)):=⟨za5 h.lo (by omega),h.r.off (by omega),h.n.off (by omega),h.o.p2 _⟩
end
theorem z5q (rv nv v:Value)(rs:List PR)(ns:List PN)(l:List Fc)(i:Nat)(n:PN)(w:World)(hR:RulesIn w rv rs)(hN:NodesAt w nv ns)(hF:FactsAt w v l)(hn:ns[i]?=some n)(hI:NodeIn rs l.length n)(eo:n.op=3) :
  Calls Tryz.prog 144 #[.agg #[rv,nv],.int .i64 (i:Int),v] w fun e w'=>e=.returned (factV (nodeF rs n l))/\Below w.heap.size w w':=by
 obtain⟨-,na,nc,rfl,hna⟩:=id hN;have hil:=(List.getElem?_eq_some_iff.1 hn).1;rcases hna with h0|⟨nb,no,rfl,hca⟩
 ·rw[h0] at hil;exact absurd hil (Nat.not_lt_zero _)
 obtain⟨kv,c0,c1,c2,c3,c4,c5,c6,hk,hkl⟩:=hca i n hn;have lr:=zac c0;have k1:(i:Int)<(ns.length:Int):=by omega
 obtain⟨ka,kc,rfl,hki⟩:=id hk;rw[eo] at c0;have hv:nodeF rs n l=seqF (n.kids.map (atF l)):=by unfold nodeF;rw[if_neg (by omega),if_neg (by omega),if_neg (by omega),if_pos eo]
 rw[hv];obtain⟨va,vc,rfl⟩:=hF.slice;obtain⟨-,ra,rc,rfl,-⟩:=id hR;have hkid:=hI.kid;unfold maxLen at hkl;clear hR hN hca hk hv hn hI eo;go_enter Tryz.func144,Tryz.ntmps144
 go_upto_region 3 with(fail)
 generalize hW:World.alloc (World.alloc (World.alloc (World.alloc _ _) _) _) _=W;have dB:Below w.heap.size w W:=by rw[<-hW];exact zcd _ _ _ _ _
 have dG:Bl W w.heap.size 25 #[.slice ra rs.length rc,.slice (some ⟨nb,no,none⟩) ns.length nc]:=by rw[<-hW];exact Bl.past (Bl.past (Bl.past (Bl.new w _ _)))
 have dR:Bl W (w.heap.size+1) 100 #[.bool false,.bool false,.bool false]:=by rw[<-hW];exact Bl.past (Bl.past (Bl.new' (by simp)))
 have dN:Bl W (w.heap.size+1+1) 51 #[.int .i64 3,.slice ka n.kids.length kc,.int .i64 n.rule,.int .u64 n.s0,.int .u64 n.s1,.int .u64 n.s2,.int .u64 n.s3]:=by rw[<-hW];exact Bl.past (Bl.new' (by simp))
 have dO:Bl W (w.heap.size+1+1+1) 100 #[.bool false,.bool false,.bool false]:=by rw[<-hW];exact Bl.new' (by simp)
 have lO:=dO.lt;have n0:W.cell? ⟨w.heap.size+1+1,0,none⟩=some (.int .i64 3):=dN.cell (o:=0) rfl;have n1:W.cell? ⟨w.heap.size+1+1,1,none⟩=some (.slice ka n.kids.length kc):=dN.cell (o:=1) rfl;have n2:W.cell? ⟨w.heap.size+1+1,2,none⟩=some (.int .i64 n.rule):=dN.cell (o:=2) rfl;have DB:=Lib.hid dB;have DR:=Lib.hid dR;have DO:=Lib.hid dO;have HRN:Hid (RnAt w #[.int .i64 3,.slice ka n.kids.length kc,.int .i64 n.rule,.int .u64 n.s0,.int .u64 n.s1,.int .u64 n.s2,.int .u64 n.s3] fc0 W):=Lib.hid ⟨dB,dR,dN,dO⟩;have o0:=dO.c0;have o1:=dO.c1;have o2:=dO.c2;have oz:=dO.free;clear hW dB dG dR dN dO DB DR DO n2 c0 c1 c2 c3 c4 c5 c6 lr k1 hil;go_wp2
 go_loopw [9,10] (fun c d wr=>∃(k:Nat) (s:Fc × Bool),k<=n.kids.length/\c=.bool s.2/\d=.int .i64 (k:Int)/\RnAt w #[.int .i64 3,.slice ka n.kids.length kc,.int .i64 n.rule,.int .u64 n.s0,.int .u64 n.s1,.int .u64 n.s2,.int .u64 n.s3] s.1 wr/\sqK (atF l) n.kids k=s) (fun _ d _=>n.kids.length-(intOf d).toNat)
 case atStart=>exact⟨0,(⟨true,false,false⟩,true),Nat.zero_le _,rfl,rfl,HRN.out.p0 true,rfl⟩
 case round=>
  clear n0 n1 o0 o1 o2 oz lO;obtain⟨k,s,hk,rfl,rfl,hq,hs⟩:=hrel;have n1:wr.cell? ⟨w.heap.size+1+1,1,none⟩=some (.slice ka n.kids.length kc):=hq.n.cell (o:=1) rfl;by_cases hlt:k<n.kids.length
  ·have k1:(k:Int)<(n.kids.length:Int):=by omega
   obtain⟨x,hx⟩:∃x,n.kids[k]?=some x:=⟨_,List.getElem?_eq_getElem hlt⟩;rcases hki with h0|⟨kb,ko,rfl,hkc⟩
   ·rw[h0] at hlt;exact absurd hlt (Nat.not_lt_zero _)
   obtain⟨xl,xu⟩:=hkid x (List.mem_of_getElem? hx);obtain⟨y,rfl⟩:∃y:Nat,x=y:=⟨x.toNat,by omega⟩;obtain⟨fb,fo,rfl,hfc⟩:=hF.open (by omega);obtain⟨f,hf⟩:∃f,l[y]?=some f:=⟨_,List.getElem?_eq_getElem (by omega)⟩;have y1:(y:Int)<(l.length:Int):=by omega
   have kx:=hkc k _ hx;have lk:=zac kx;rw[<-(bcell hq.lo).1 _ _ lk] at kx;obtain⟨f0,f1,f2⟩:=hfc y f hf;have lf:=zac f0;rw[<-(bcell hq.lo).1 _ _ lf] at f0 f1 f2;have hsk:=z0u (p:=atF l) hx;rw[hs,za6 hf] at hsk;have hok:=z8k (atF l) n.kids k;rw[hs] at hok;have HSK:=Lib.hid hsk;have HOK:=Lib.hid hok;have HKC:=Lib.hid hkc;have HFC:=Lib.hid hfc;have HKID:=Lib.hid hkid;have HQ:=Lib.hid hq;have o0:=hq.o.c0;have o1:=hq.o.c1;have o2:=hq.o.c2;have oz:=hq.o.free;have lo:=hq.o.lt;obtain⟨v0,hv0⟩:∃v0,v0=(s.1.nul&&f.nul):=⟨_,rfl⟩;have HV0:=Lib.hid hv0;clear hx hkc hfc hkid hsk hok hq hs hf hF hv0;obtain⟨⟨sn,se,sf⟩,sb⟩:=s;cases sn <;>
   ·go_upto_region 19 with(fail)
    generalize hW1:World.alloc _ _=W1;have q1:RnAt w #[.int .i64 3,.slice (some ⟨kb,ko,none⟩) n.kids.length kc,.int .i64 n.rule,.int .u64 n.s0,.int .u64 n.s1,.int .u64 n.s2,.int .u64 n.s3] ⟨v0,se,sf⟩ W1:=by rw[<-hW1,HV0.out];exact(HQ.out.p0 _).past
    have q2:Bl W1 wr.heap.size 100 #[.bool f.nul,.bool f.eat,.bool f.fai]:=by rw[<-hW1];exact Bl.new' (by simp)
    have hlo:=HQ.out.o.lt;clear hW1 o0 o1 o2 oz lo kx f0 f1 f2 n1 HQ;generalize wr.heap.size=F at *;have Q1:=Lib.hid q1;have Q2:=Lib.hid q2;clear q1 q2;go_wp2
    go_loopw [12,13] (fun c d wq=>∃m:Nat,m<=k/\c=.bool (okK (atF l) n.kids m)/\d=.int .i64 (m:Int)/\Below W1.heap.size W1 wq) (fun _ d _=>k-(intOf d).toNat)
    case atStart=>exact⟨0,Nat.zero_le _,rfl,rfl,Below.refl _ _⟩
    case round=>
     obtain⟨m,hm,rfl,rfl,hb⟩:=hrel;have hqb:=Q1.out.below hb;by_cases hmk:m<k
     ·have m1:(m:Int)<(k:Int):=by omega
      have m2:(m:Int)<(n.kids.length:Int):=by omega
      obtain⟨x,hx⟩:∃x,n.kids[m]?=some x:=⟨_,List.getElem?_eq_getElem (by omega)⟩;obtain⟨xl,xu⟩:=HKID.out x (List.mem_of_getElem? hx);obtain⟨z,rfl⟩:∃z:Nat,x=z:=⟨x.toNat,by omega⟩;obtain⟨g,hg⟩:∃g,l[z]?=some g:=⟨_,List.getElem?_eq_getElem (by omega)⟩;have z1:(z:Int)<(l.length:Int):=by omega
      have kx:=HKC.out m _ hx;rw[<-(bcell hqb.lo).1 _ _ lk] at kx;obtain⟨f0,f1,f2⟩:=HFC.out z g hg;rw[<-(bcell hqb.lo).1 _ _ lf] at f0 f1 f2;have n1:wr.cell? ⟨w.heap.size+1+1,1,none⟩=some (.slice (some ⟨kb,ko,none⟩) n.kids.length kc):=hqb.n.cell (o:=1) rfl;have hkk:=z0s (p:=atF l) hx;rw[za6 hg] at hkk;have HKK:=Lib.hid hkk;have HR:=Lib.hid (fun W=>zfj g W);unfold factV at HR;have HB:=Lib.hid hb;clear hx hg hkk hb hqb;cases hc:okK (atF l) n.kids m with
      |false=>
       rw[hc] at HKK;go_wp2;go_roundw
       case rel=>exact⟨m+1,by omega,by rw[HKK.out];rfl,by go_num,HB.out⟩
       case measure=>simp[intOf];omega
      |true=>
       rw[hc] at HKK
       go_wp2_with (go_at_call 158;(with_reducible refine(HR.out _).mono ?_);rintro e w5 ⟨rfl,hb⟩;have HB5:=Lib.hid (HB.out.trans (hb.mono HB.out.size));clear hb)
       go_roundw
       case rel=>exact⟨m+1,by omega,by rw[HKK.out];rfl,by go_num,HB5.out⟩
       case measure=>simp[intOf];omega
     ·obtain rfl:m=k:=by omega
      have m1:¬(m:Int)<(m:Int):=by omega
      rw[<-HOK.out];have q8:=Q2.out.below hb;have f0:=q8.c0;have f1:=q8.c1;have f2:=q8.c2;have lf':=q8.lt;have o0:=hqb.o.c0;have o1:=hqb.o.c1;have o2:=hqb.o.c2;have oz:=hqb.o.free;have lo:=hqb.o.lt;have Q5:=Lib.hid hqb;have HR:=Lib.hid (fun W=>zfj f W);obtain⟨fn,fe,ff⟩:=f;unfold factV at HR;obtain⟨Y,hY⟩:∃Y,Y=(se || fe):=⟨_,rfl⟩;have T5:=Lib.hid ((Q5.out.p2 (sf || (ff&&sb))).p1 (se || fe));have HY:=Lib.hid hY;clear hY;have hneq:F≠w.heap.size+1+1+1:=by omega
      have Q8:=Lib.hid q8;clear hb hqb q8 Q1 Q2 HKC HFC HKID HOK m1;cases sf<;>cases ff<;>cases sb<;>cases se <;>
      ·go_wp2_with (go_at_call 158;(with_reducible refine(HR.out _).mono ?_);rintro e w5 ⟨rfl,hb⟩;have q6:=(Q5.out.p2 _).below hb;have q9:=(Q8.out.off (c:=w.heap.size+1+1+1) (o:=2) hneq).below hb;have e0:=q9.c0;have e1:=q9.c1;have e2:=q9.c2;have p0:=q6.o.c0;have p1:=q6.o.c1;have p2:=q6.o.c2;have pz:=q6.o.free;have lo5:=q6.o.lt;have Q6:=Lib.hid q6;clear hb q6 q9)
       refine⟨⟨m+1,_,by omega,?_,?_,?_,HSK.out⟩,by simp[intOf];omega⟩
       ·rfl
       ·go_num
       ·first
        |(have:=Q6.out.p1 Y;rw[HY.out,HV0.out] at this;exact this)
        |(have:=T5.out;rw[HV0.out] at this;exact this)
  ·obtain rfl:k=n.kids.length:=by omega
   have k1:¬(n.kids.length:Int)<(n.kids.length:Int):=by omega
   have hse:seqF (n.kids.map (atF l))=seqE s:=by rw[<-hs];unfold sqK seqF;rw[List.take_length]
   have HSE:=Lib.hid hse;have o0:=hq.o.c0;have o1:=hq.o.c1;have o2:=hq.o.c2;have oz:=hq.o.free;have lo:=hq.o.lt;have q0:=hq.r.c0;have q1:=hq.r.c1;have q2:=hq.r.c2;have qz:=hq.r.free;obtain⟨⟨sn,se,sf⟩,sb⟩:=s;have HQ:=Lib.hid hq;clear hq hs hse hF hki hkid;cases se with
   |false=>
    go_wp2;rw[HSE.out,show seqE (⟨sn,false,sf⟩,sb)=⟨sn,false,sf⟩ from rfl];have d:=(((HQ.out.r.off (c:=w.heap.size+1+1+1) (o:=1) (v:=.bool false) (Nat.ne_of_lt (by omega))).p0 (.bool sn)).p1 (.bool false)).p2 (.bool sf);have r0:=d.c0;have r1:=d.c1;have r2:=d.c2;exact bodyPost_ret (v:=factV ⟨sn,false,sf⟩) (by simp[results,Tryz.results144,go_sem,factV,r0,r1,r2]) rfl ⟨rfl,zay (za5 HQ.out.lo (by omega)) (Nat.le_succ _) _ _ _⟩
   |true=>
    go_wp2;rw[HSE.out,show seqE (⟨sn,true,sf⟩,sb)=⟨sn,sb,sf⟩ from rfl];have d:=(((HQ.out.r.off (c:=w.heap.size+1+1+1) (o:=1) (v:=.bool sb) (Nat.ne_of_lt (by omega))).p0 (.bool sn)).p1 (.bool sb)).p2 (.bool sf);have r0:=d.c0;have r1:=d.c1;have r2:=d.c2;exact bodyPost_ret (v:=factV ⟨sn,sb,sf⟩) (by simp[results,Tryz.results144,go_sem,factV,r0,r1,r2]) rfl ⟨rfl,zay (za5 HQ.out.lo (by omega)) (Nat.le_succ _) _ _ _⟩
theorem z5r (rv nv v:Value)(rs:List PR)(ns:List PN)(l:List Fc)(i:Nat)(n:PN)(w:World)(hR:RulesIn w rv rs)(hN:NodesAt w nv ns)(hF:FactsAt w v l)(hn:ns[i]?=some n)(hI:NodeIn rs l.length n)(eo:n.op=4) :
  Calls Tryz.prog 144 #[.agg #[rv,nv],.int .i64 (i:Int),v] w fun e w'=>e=.returned (factV (nodeF rs n l))/\Below w.heap.size w w':=by
 obtain⟨-,na,nc,rfl,hna⟩:=id hN;have hil:=(List.getElem?_eq_some_iff.1 hn).1;rcases hna with h0|⟨nb,no,rfl,hca⟩
 ·rw[h0] at hil;exact absurd hil (Nat.not_lt_zero _)
 obtain⟨kv,c0,c1,c2,c3,c4,c5,c6,hk,hkl⟩:=hca i n hn;have lr:=zac c0;have k1:(i:Int)<(ns.length:Int):=by omega
 obtain⟨ka,kc,rfl,hki⟩:=id hk;rw[eo] at c0;have hv:nodeF rs n l=choF (n.kids.map (atF l)):=by unfold nodeF;rw[if_neg (by omega),if_neg (by omega),if_neg (by omega),if_neg (by omega),if_pos eo]
 rw[hv];obtain⟨va,vc,rfl⟩:=hF.slice;obtain⟨-,ra,rc,rfl,-⟩:=id hR;have hkid:=hI.kid;unfold maxLen at hkl;clear hR hN hca hk hv hn hI eo;go_enter Tryz.func144,Tryz.ntmps144
 go_upto_region 3 with(fail)
 generalize hW:World.alloc (World.alloc (World.alloc (World.alloc _ _) _) _) _=W;have dB:Below w.heap.size w W:=by rw[<-hW];exact zcd _ _ _ _ _
 have dG:Bl W w.heap.size 25 #[.slice ra rs.length rc,.slice (some ⟨nb,no,none⟩) ns.length nc]:=by rw[<-hW];exact Bl.past (Bl.past (Bl.past (Bl.new w _ _)))
 have dR:Bl W (w.heap.size+1) 100 #[.bool false,.bool false,.bool false]:=by rw[<-hW];exact Bl.past (Bl.past (Bl.new' (by simp)))
 have dN:Bl W (w.heap.size+1+1) 51 #[.int .i64 4,.slice ka n.kids.length kc,.int .i64 n.rule,.int .u64 n.s0,.int .u64 n.s1,.int .u64 n.s2,.int .u64 n.s3]:=by rw[<-hW];exact Bl.past (Bl.new' (by simp))
 have dO:Bl W (w.heap.size+1+1+1) 100 #[.bool false,.bool false,.bool false]:=by rw[<-hW];exact Bl.new' (by simp)
 have lO:=dO.lt;have n0:W.cell? ⟨w.heap.size+1+1,0,none⟩=some (.int .i64 4):=dN.cell (o:=0) rfl;have n1:W.cell? ⟨w.heap.size+1+1,1,none⟩=some (.slice ka n.kids.length kc):=dN.cell (o:=1) rfl;have n2:W.cell? ⟨w.heap.size+1+1,2,none⟩=some (.int .i64 n.rule):=dN.cell (o:=2) rfl;have DB:=Lib.hid dB;have DR:=Lib.hid dR;have DO:=Lib.hid dO;have HRN:Hid (RnAt w #[.int .i64 4,.slice ka n.kids.length kc,.int .i64 n.rule,.int .u64 n.s0,.int .u64 n.s1,.int .u64 n.s2,.int .u64 n.s3] fc0 W):=Lib.hid ⟨dB,dR,dN,dO⟩;have o0:=dO.c0;have o1:=dO.c1;have o2:=dO.c2;have oz:=dO.free;clear hW dB dG dR dN dO DB DR DO n2 c0 c1 c2 c3 c4 c5 c6 lr k1 hil;go_wp2
 go_loopw [14] (fun d wr=>∃(k:Nat) (s:Fc),k<=n.kids.length/\d=.int .i64 (k:Int)/\RnAt w #[.int .i64 4,.slice ka n.kids.length kc,.int .i64 n.rule,.int .u64 n.s0,.int .u64 n.s1,.int .u64 n.s2,.int .u64 n.s3] s wr/\chK (atF l) n.kids k=s) (fun d _=>n.kids.length-(intOf d).toNat)
 case atStart=>exact⟨0,⟨false,false,true⟩,Nat.zero_le _,rfl,HRN.out.p2 true,rfl⟩
 case round=>
  clear n0 n1 o0 o1 o2 oz lO;obtain⟨k,s,hk,rfl,hq,hs⟩:=hrel;have n1:wr.cell? ⟨w.heap.size+1+1,1,none⟩=some (.slice ka n.kids.length kc):=hq.n.cell (o:=1) rfl;by_cases hlt:k<n.kids.length
  ·have k1:(k:Int)<(n.kids.length:Int):=by omega
   obtain⟨x,hx⟩:∃x,n.kids[k]?=some x:=⟨_,List.getElem?_eq_getElem hlt⟩;rcases hki with h0|⟨kb,ko,rfl,hkc⟩
   ·rw[h0] at hlt;exact absurd hlt (Nat.not_lt_zero _)
   obtain⟨xl,xu⟩:=hkid x (List.mem_of_getElem? hx);obtain⟨y,rfl⟩:∃y:Nat,x=y:=⟨x.toNat,by omega⟩;obtain⟨fb,fo,rfl,hfc⟩:=hF.open (by omega);obtain⟨f,hf⟩:∃f,l[y]?=some f:=⟨_,List.getElem?_eq_getElem (by omega)⟩;have y1:(y:Int)<(l.length:Int):=by omega
   have kx:=hkc k _ hx;have lk:=zac kx;rw[<-(bcell hq.lo).1 _ _ lk] at kx;obtain⟨f0,f1,f2⟩:=hfc y f hf;have lf:=zac f0;rw[<-(bcell hq.lo).1 _ _ lf] at f0 f1 f2;have hsk:=z0v (p:=atF l) hx;rw[hs,za6 hf] at hsk;have hok:=z5p (atF l) n.kids k;rw[hs] at hok;have HSK:=Lib.hid hsk;have HOK:=Lib.hid hok;have HKC:=Lib.hid hkc;have HFC:=Lib.hid hfc;have HKID:=Lib.hid hkid;have hlo:=hq.o.lt;have q2:Bl (wr.alloc (.cells #[.bool f.nul,.bool f.eat,.bool f.fai] 100)) wr.heap.size 100 #[.bool f.nul,.bool f.eat,.bool f.fai]:=Bl.new wr _ _;have q1:=hq.past (o:=.cells #[.bool f.nul,.bool f.eat,.bool f.fai] 100);clear hx hkc hfc hkid hsk hok hq hs hf hF
   go_upto_region 34 with(fail)
   generalize wr.alloc _=W1 at *;clear kx f0 f1 f2 n1;generalize wr.heap.size=F at *;have Q1:=Lib.hid q1;have Q2:=Lib.hid q2;clear q1 q2;go_wp2
   go_loopw [16,17] (fun c d wq=>∃m:Nat,m<=k/\c=.bool (faK (atF l) n.kids m)/\d=.int .i64 (m:Int)/\Below W1.heap.size W1 wq) (fun _ d _=>k-(intOf d).toNat)
   case atStart=>exact⟨0,Nat.zero_le _,rfl,rfl,Below.refl _ _⟩
   case round=>
    obtain⟨m,hm,rfl,rfl,hb⟩:=hrel;have hqb:=Q1.out.below hb;by_cases hmk:m<k
    ·have m1:(m:Int)<(k:Int):=by omega
     have m2:(m:Int)<(n.kids.length:Int):=by omega
     obtain⟨x,hx⟩:∃x,n.kids[m]?=some x:=⟨_,List.getElem?_eq_getElem (by omega)⟩;obtain⟨xl,xu⟩:=HKID.out x (List.mem_of_getElem? hx);obtain⟨z,rfl⟩:∃z:Nat,x=z:=⟨x.toNat,by omega⟩;obtain⟨g,hg⟩:∃g,l[z]?=some g:=⟨_,List.getElem?_eq_getElem (by omega)⟩;have z1:(z:Int)<(l.length:Int):=by omega
     have kx:=HKC.out m _ hx;rw[<-(bcell hqb.lo).1 _ _ lk] at kx;obtain⟨f0,f1,f2⟩:=HFC.out z g hg;rw[<-(bcell hqb.lo).1 _ _ lf] at f0 f1 f2;have n1:wr.cell? ⟨w.heap.size+1+1,1,none⟩=some (.slice (some ⟨kb,ko,none⟩) n.kids.length kc):=hqb.n.cell (o:=1) rfl;have hkk:=z0t (p:=atF l) hx;rw[za6 hg] at hkk;have HKK:=Lib.hid hkk;have HB:=Lib.hid hb;clear hx hg hkk hb hqb;cases hc:faK (atF l) n.kids m <;>
     ·rw[hc] at HKK
      go_wp2;go_roundw
      case rel=>exact⟨m+1,by omega,by rw[HKK.out];rfl,by go_num,HB.out⟩
      case measure=>simp[intOf];omega
    ·obtain rfl:m=k:=by omega
     have m1:¬(m:Int)<(m:Int):=by omega
     rw[<-HOK.out];have q8:=Q2.out.below hb;have f0:=q8.c0;have f1:=q8.c1;have f2:=q8.c2;have lf':=q8.lt;have o0:=hqb.o.c0;have o1:=hqb.o.c1;have o2:=hqb.o.c2;have oz:=hqb.o.free;have lo:=hqb.o.lt;obtain⟨sn,se,sf⟩:=s;obtain⟨fn,fe,ff⟩:=f;have T5:=Lib.hid (((hqb.p0 (sn || (fn&&sf))).p1 (se || (fe&&sf))).p2 (sf&&ff));have hneq:F≠w.heap.size+1+1+1:=by omega
     clear hb hqb q8 Q1 Q2 HKC HFC HKID HOK m1;cases sn<;>cases fn<;>cases se<;>cases fe<;>cases sf <;>
     ·go_wp2
      refine⟨⟨m+1,_,by omega,?_,?_,HSK.out⟩,by simp[intOf];omega⟩
      ·go_num
      ·exact T5.out
  ·obtain rfl:k=n.kids.length:=by omega
   have k1:¬(n.kids.length:Int)<(n.kids.length:Int):=by omega
   have hse:choF (n.kids.map (atF l))=s:=by rw[<-hs];unfold chK choF;rw[List.take_length]
   have HSE:=Lib.hid hse;have o0:=hq.o.c0;have o1:=hq.o.c1;have o2:=hq.o.c2;have oz:=hq.o.free;have lo:=hq.o.lt;have q0:=hq.r.c0;have q1:=hq.r.c1;have q2:=hq.r.c2;have qz:=hq.r.free;obtain⟨sn,se,sf⟩:=s;have HQ:=Lib.hid hq;clear hq hs hse hF hki hkid;go_wp2;rw[HSE.out];have d:=((HQ.out.r.p0 (.bool sn)).p1 (.bool se)).p2 (.bool sf);have r0:=d.c0;have r1:=d.c1;have r2:=d.c2;exact bodyPost_ret (v:=factV ⟨sn,se,sf⟩) (by simp[results,Tryz.results144,go_sem,factV,r0,r1,r2]) rfl ⟨rfl,zay HQ.out.lo (Nat.le_succ _) _ _ _⟩
theorem zwb (rv nv v:Value)(rs:List PR)(ns:List PN)(l:List Fc)(i:Nat)(n:PN)(w:World)(hR:RulesIn w rv rs)(hN:NodesAt w nv ns)(hF:FactsAt w v l)(hn:ns[i]?=some n)(hI:NodeIn rs l.length n) :
  Calls Tryz.prog 144 #[.agg #[rv,nv],.int .i64 (i:Int),v] w fun e w'=>e=.returned (factV (nodeF rs n l))/\Below w.heap.size w w':=by
 have h0:=hI.ok.lo;have h9:=hI.ok.hi;rcases(show n.op=0∨n.op=1∨n.op=2∨n.op=3∨n.op=4∨n.op=5∨n.op=6∨n.op=7∨n.op=8∨n.op=9 by omega) with h|h|h|h|h|h|h|h|h|h
 ·exact z5d rv nv v rs ns l i n w hR hN hn h
 ·exact z5e rv nv v rs ns l i n w hR hN hn h
 ·exact z5f rv nv v rs ns l i n w hR hN hF hn hI h
 ·exact z5q rv nv v rs ns l i n w hR hN hF hn hI h
 ·exact z5r rv nv v rs ns l i n w hR hN hF hn hI h
 ·exact z5g rv nv v rs ns l i n w hR hN hF hn hI h
 ·exact z5h rv nv v rs ns l i n w hR hN hF hn hI h
 ·exact z5i rv nv v rs ns l i n w hR hN hF hn hI h
 ·exact z5j rv nv v rs ns l i n w hR hN hF hn hI h
 ·exact z5k rv nv v rs ns l i n w hR hN hF hn hI h
def eqFc (f g:Fc):Bool:=f.nul == g.nul&&(f.eat == g.eat&&f.fai == g.fai)
theorem zwc (f g:Fc):eqFc f g=decide (f=g):=by
 rw[Bool.eq_iff_iff,decide_eq_true_iff,<-Fc.eq_iff];unfold eqFc;simp
theorem feqR (f g:Fc)(w:World):(Op.equal 100 (factV f) (factV g)).run Tryz.prog w=.ok (eqFc f g) w:=by
 obtain⟨a,b,c⟩:=f;obtain⟨x,y,z⟩:=g;cases a<;>cases b<;>cases c<;>cases x<;>cases y<;>cases z<;>kernel_rfl
theorem feqF (f g:Fc)(w:World):(Op.equal 120 (factV f) (factV g)).run Tryz.prog w=.ok (eqFc f g) w:=by
 obtain⟨a,b,c⟩:=f;obtain⟨x,y,z⟩:=g;cases a<;>cases b<;>cases c<;>cases x<;>cases y<;>cases z<;>kernel_rfl
theorem neqR (f g:Fc)(w:World):(binOp .neq 100 (.agg #[.bool f.nul,.bool f.eat,.bool f.fai]) (.agg #[.bool g.nul,.bool g.eat,.bool g.fai])).run Tryz.prog w=.ok (.bool (!decide (f=g))) w:=by
 rw[<-zwc];have h:=feqR f g w;unfold factV at h;simp[binOp,h]
theorem eqlF (f g:Fc)(w:World):(binOp .eql 120 (.agg #[.bool f.nul,.bool f.eat,.bool f.fai]) (.agg #[.bool g.nul,.bool g.eat,.bool g.fai])).run Tryz.prog w=.ok (.bool (decide (f=g))) w:=by
 rw[<-zwc];have h:=feqF f g w;unfold factV at h;simp[binOp,h]
theorem gtR:Tryz.prog.eqGuardType Tryz.prog.depth 100=false:=by kernel_rfl
theorem gtF:Tryz.prog.eqGuardType Tryz.prog.depth 120=false:=by kernel_rfl
def factC (f:Fc):List Value:=[.bool f.nul,.bool f.eat,.bool f.fai]
def zf6 (l:List Fc):List Value:=l.flatMap factC
theorem zo7 (l:List Fc)(f:Fc):zf6 (l++[f])=zf6 l++[.bool f.nul,.bool f.eat,.bool f.fai]:=by unfold zf6;rw[List.flatMap_append];simp[factC]
theorem zo8 {l:List Fc}{k:Nat}{f:Fc}(h:l[k]?=some f):zf6 (l.take (k+1))=zf6 (l.take k)++[.bool f.nul,.bool f.eat,.bool f.fai]:=by rw[zap l k f h,zo7]
theorem FactsAt.of_own {w:World}{base:Nat}{t:TypeId}{v:Value}{l:List Fc}(h:w.ownsRow base t 3 v l.length (zf6 l))(hl:l.length<=maxLen):FactsAt w v l:=by
 refine⟨hl,?_⟩;have h':=h;rcases h.2 with⟨rfl,h0⟩|⟨g,cap,cur,rfl,-⟩
 ·exact⟨none,0,by rw[h0],.inl (List.length_eq_zero_iff.1 h0)⟩
 ·refine⟨_,cap,rfl,.inr ⟨g,0,rfl,fun i f hf=>?_⟩⟩
  have hc:∀j u,(zf6 l)[j]?=some u->w.cell? ⟨g,0+j,none⟩=some u:=fun j u hu=>by
   have:=h'.cells rfl j u hu;rw[Addr.add_lit] at this;exact this
  refine⟨hc (i*3) _ ?_,?_,?_⟩
  ·have:=zcx factC 3 (fun _=>rfl) l i f 0 hf (by decide);exact this
  ·rw[Nat.add_assoc];exact hc (i*3+1) _ (zcx factC 3 (fun _=>rfl) l i f 1 hf (by decide))
  ·rw[Nat.add_assoc];exact hc (i*3+2) _ (zcx factC 3 (fun _=>rfl) l i f 2 hf (by decide))
theorem FactsAt.of_own' {w:World}{base n:Nat}{t:TypeId}{v:Value}{l:List Fc}(h:w.ownsRow base t 3 v n (zf6 l))(hn:l.length=n)(hl:l.length<=maxLen):FactsAt w v l:=by subst hn;exact FactsAt.of_own h hl
theorem zjo:(Tryz.prog.info? 100).map (fun i=>(i.zero,i.size,i.bytes))=some (some (.agg #[.bool false,.bool false,.bool false]),3,3):=by kernel_rfl
theorem zib (kl kc:IntKind)(n:Nat)(hn:n<=1000000)(w:World) :
  (Instr.makeSlice 97 (.int kl (n:Int)) (.int kc (n:Int))).run Tryz.prog w=.ok (.slice (some ⟨w.heap.size,0,none⟩) n n) (w.alloc (.cells (madeCells #[.bool false,.bool false,.bool false] (n*3)) 100)):=by
 obtain⟨i,hi,hz,hs,hb⟩:=info_parts zjo;have hr:=run_make (P:=Tryz.prog) w 97 100 i _ Tryz.underlying97 hi hz kl kc n n (by omega) (Int.le_refl _) (by rw[hb];omega) (by omega);simp only[Int.toNat_natCast,hs] at hr;exact hr
structure FlowOk (rs:List PR) (ns:List PN):Prop where
 nl:ns.length<=400
 kl:∀n,n ∈ ns->n.kids.length<=60
 ok:∀n,n ∈ ns->NodeIn rs ns.length n
theorem zwd (rv nv v:Value)(rs:List PR)(ns:List PN)(l:List Fc)(w:World)(hR:RulesIn w rv rs)(hN:NodesAt w nv ns)(hF:FactsAt w v l)(hl:l.length=ns.length)(hO:FlowOk rs ns) :
  Calls Tryz.prog 106 #[.agg #[rv,nv],v] w (NewF (stepF rs ns l) w):=by
 obtain⟨-,ra,rc,rfl,-⟩:=id hR;obtain⟨-,na,nc,rfl,-⟩:=id hN;obtain⟨ii,hii,hz0,hz1,hz2⟩:=info_parts zjo;have hs:=hO.nl;have HY:=Lib.hid (fun(W:World) (hb:Below w.heap.size w W) (i:Nat) (n:PN) (hn:ns[i]?=some n)=>zwb _ _ v rs ns l i n W (hR.kept hb (Nat.le_refl _)) (hN.kept hb (Nat.le_refl _)) (hF.kept hb (Nat.le_refl _)) hn (by rw[hl];exact hO.ok n (List.mem_of_getElem? hn)));have hlen:=zba rs ns l;have HA:=Lib.hid (fun(i:Nat) (n:PN) (hn:ns[i]?=some n)=>zdy (rs:=rs) (l:=l) hn);generalize stepF rs ns l=L at *;clear hR hN hF hO hl;go_enter Tryz.func106,Tryz.ntmps106;go_wp2
 go_loopw [5,6] (fun u c wr=>∃k:Nat,k<=ns.length/\c=.int .i64 (k:Int)/\wr.ownsRow w.heap.size 100 3 u k (zf6 (L.take k))/\Bl wr w.heap.size 25 #[.slice ra rs.length rc,.slice na ns.length nc]/\Below w.heap.size w wr) (fun _ c _=>ns.length-(intOf c).toNat)
 case atStart=>exact⟨0,Nat.zero_le _,rfl,World.ownsRow_nil _ _ _ _,Bl.new w _ _,zab _ _⟩
 case round=>
  obtain⟨k,hk,rfl,ho,hg,hb⟩:=hrel;obtain⟨ua,uc,rfl⟩:=zad ho;have g0:=hg.cell (o:=0) (u:=.slice ra rs.length rc) rfl;have g1:=hg.cell (o:=1) (u:=.slice na ns.length nc) rfl;by_cases hlt:k<ns.length
  ·have k1:(k:Int)<(ns.length:Int):=by omega
   obtain⟨n,hn⟩:∃n,ns[k]?=some n:=⟨_,List.getElem?_eq_getElem hlt⟩;have HC:=Lib.hid (HY.out wr hb k n hn);have hx:=HA.out k n hn;generalize nodeF rs n l=f at *;have HT:=Lib.hid (zo8 hx);have HO:=Lib.hid ho;have HG:=Lib.hid hg;have HB:=Lib.hid hb;unfold factV at HC;clear hn hx ho hg hb
   go_wp2_with (first
    |(go_at_call 144;(with_reducible refine HC.out.mono ?_);rintro e w4 ⟨rfl,hb⟩;have HB4:=Lib.hid (bl_on HB.out hb);have HO4:=Lib.hid (zaa HO.out hb);have HG4:=Lib.hid (HG.out.below hb);clear hb)
    |(at_builtin;refine wpList_append_own _ rfl _ _ 97 rfl w.heap.size 100 ii _ 3 3 Tryz.underlying97 hii hz0 hz1 hz2 rfl (by decide) _ k _ rfl (zaa HO4.out (zab _ _)) ⟨_,0,none⟩ 1 1 [.bool f.nul,.bool f.eat,.bool f.fai] rfl rfl (Bl.news (Bl.new _ 100 _)) (by simp[Value.oneCell']) (by unfold maxLen;omega) (by omega) (by have:=HB4.out.size;simp;omega) ?_;intro v5 w5 hown' hgrow _;have HO5:=Lib.hid hown';have HG5:=Lib.hid (HG4.out.past.grown hgrow (fun g e=>by obtain⟨c,fz,hc⟩:=Lib.ownsRow_kind (zaa HO4.out (zab _ _)) g e;exact⟨c,100,fz,hc,by decide⟩));have HB5:=Lib.hid ((zar HB4.out).grown hgrow (zar HB4.out).size (fun g e=>(HO4.out.lt g e).1));clear hown' hgrow))
   go_roundw
   case rel=>exact⟨k+1,by omega,by go_num,by rw[HT.out];exact HO5.out,HG5.out,HB5.out⟩
   case measure=>simp[intOf];omega
  ·obtain rfl:k=ns.length:=by omega
   have k1:¬(ns.length:Int)<(ns.length:Int):=by omega
   rw[<-hlen,List.take_length] at ho;have HO:=Lib.hid ho;have HB:=Lib.hid hb;clear ho hb hg;go_wp2;go_ret;exact⟨ua,uc,by rw[hlen];rfl,by rw[hlen] at HO ⊢;exact FactsAt.of_own' HO.out hlen (by unfold maxLen;omega),HB.out⟩
theorem zic (u v:Value)(l m:List Fc)(w:World)(hu:FactsAt w u l)(hv:FactsAt w v m)(hl:l.length<=1000000) :
  Calls Tryz.prog 107 #[u,v] w fun e w'=>e=.returned (.bool (decide (l=m)))/\∃q,w'=w.drewN q:=by
 obtain⟨ua,uc,rfl⟩:=hu.slice;obtain⟨va,vc,rfl⟩:=hv.slice;by_cases hlen:l.length=m.length
 ·have q1:((l.length:Int) != (m.length:Int))=false:=by rw[hlen];simp
  go_enter Tryz.func107,Tryz.ntmps107;go_wp2
  go_loopw [5] (fun c wr=>∃(k q:Nat),k<=l.length/\c=.int .i64 k/\wr=w.drewN q/\l.take k=m.take k) (fun c _=>l.length-(intOf c).toNat)
  case atStart=>exact⟨0,0,Nat.zero_le _,rfl,rfl,rfl⟩
  case round=>
   obtain⟨k,q,hk,rfl,rfl,hq⟩:=hrel;have HQ:=Lib.hid hq;clear hq;by_cases hlt:k<l.length
   ·obtain⟨x,hx⟩:∃x,l[k]?=some x:=⟨_,List.getElem?_eq_getElem hlt⟩
    obtain⟨y,hy⟩:∃y,m[k]?=some y:=⟨_,List.getElem?_eq_getElem (by omega)⟩;obtain⟨ab,ao,rfl,a0,a1,a2⟩:=hu.at hx;obtain⟨bb,bo,rfl,b0,b1,b2⟩:=hv.at hy;have hlm:k<m.length:=by omega
    have k1:(k:Int)<(l.length:Int):=by omega
    have k2:(k:Int)<(m.length:Int):=by omega
    have HX:=Lib.hid hx;have HY:=Lib.hid hy;have HL:=Lib.hid hlen;have HN:=neqR x y;clear hx hy hlen hu hv;by_cases hxy:x=y
    ·rw[decide_eq_true hxy] at HN
     go_wp2;go_quiet (with_reducible refine zc4 BinOp.neq 100 _ _ _ rfl rfl _ _ rfl rfl gtR _ HN ?_);go_wp2;go_roundw
     case rel=>exact⟨k+1,_,by omega,by go_num,rfl,by rw[zap l k x HX.out,zap m k y HY.out,HQ.out,hxy]⟩
     case measure=>simp[intOf];omega
    ·rw[decide_eq_false hxy] at HN
     have HN2:Hid (decide (l=m)=false):=decN fun e=>by
      have h1:=HX.out;rw[e,HY.out] at h1;exact hxy (Option.some.inj h1).symm
     go_wp2;go_quiet (with_reducible refine zc4 BinOp.neq 100 _ _ _ rfl rfl _ _ rfl rfl gtR _ HN ?_);go_wp2;go_ret;exact⟨zaf HN2.out.symm,_,World.drewN_drewN _ _ _⟩
   ·have HN:Hid (decide (l=m)=true):=decY (by
     have hk':k=l.length:=by omega
     have h1:=HQ.out;rw[List.take_of_length_le (by omega),List.take_of_length_le (by omega)] at h1;exact h1)
    have k1:¬(k:Int)<(l.length:Int):=by omega
    go_wp2;go_ret;exact⟨zaf HN.out.symm,_,rfl⟩
 ·have q1:((l.length:Int) != (m.length:Int))=true:=zbx (by omega)
  have HN:Hid (decide (l=m)=false):=decN fun e=>hlen (by rw[e])
  go_enter Tryz.func107,Tryz.ntmps107;go_wp2;go_ret;exact⟨zaf HN.out.symm,0,rfl⟩
end Go.Proofs.YthhppmehhdlmnaaGreatDoor
