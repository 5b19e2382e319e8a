/- The reference's holds. slices.Equal of bools; the reference's Of and Needs. The reference's Needs. -/
import Derived.Laws.OwnMore
import Derived.Test.YthhppmehhdlmnaaGreatDoorPzFM
import Derived.Test.YthhppmehhdlmnaaGreatDoorPzWN
import Derived.Test.YthhppmehhdlmnaaGreatDoorPzWD
import Derived.Test.YthhppmehhdlmnaaGreatDoorPzFlowROf
set_option maxRecDepth 100000
set_option maxHeartbeats 8000000
namespace Go.Proofs.YthhppmehhdlmnaaGreatDoor
open Go.RowKit
def okF (l:List Bool)(k:Int):Bool:=l.getD k.toNat false
theorem zy8 {l:List Bool}{i:Nat}{b:Bool}(h:l[i]?=some b):okF l (i:Int)=b:=by
 unfold okF;rw[List.getD_eq_getElem?_getD,show((i:Int)).toNat=i by omega,h];rfl
section
variable {rs:List PR} {ns:List PN} {L:List Fc} {l:List Bool} {n:PN} {i:Nat} {w:World} {rv nv fv ov:Value}
theorem z4b (hI:NodeIn rs ns.length n)(hl:l.length=ns.length)(hF:L.length=ns.length){k:Nat}{x:Int}(hx:n.kids[k]?=some x):∃j b f,x=((j:Nat):Int)/\l[j]?=some b/\okF l x=b/\L[j]?=some f/\atF L x=f/\j<ns.length:=by
 obtain⟨h0,h1⟩:=hI.kid x (List.mem_of_getElem? hx);obtain⟨j,rfl⟩:∃j:Nat,x=j:=⟨x.toNat,by omega⟩;have hj:l[j]?=some l[j]:=List.getElem?_eq_getElem (by omega);have hf:L[j]?=some L[j]:=List.getElem?_eq_getElem (by omega);exact⟨j,_,_,rfl,hj,zy8 hj,hf,za6 hf,by omega⟩
def nulsB (L:List Fc)(ks:List Int)(m:Nat):Bool:=(ks.take m).all fun y=>(atF L y).nul
theorem zt4 (L:List Fc)(ks:List Int):nulsB L ks 0=true:=by unfold nulsB;simp
theorem zt5 {L:List Fc}{ks:List Int}{m:Nat}{x:Int}(h:ks[m]?=some x):nulsB L ks (m+1)=(nulsB L ks m&&(atF L x).nul):=by
 unfold nulsB;rw[List.take_add_one,h,List.all_append];simp
end
def zkm (l:List Bool):List Value:=l.map .bool
theorem BoolsAt.of_own {w:World}{base:Nat}{v:Value}{l:List Bool}(h:w.ownsRow base 4 1 v l.length (zkm l)):BoolsAt w v l:=by
 have h':=h;rcases h.2 with⟨rfl,h0⟩|⟨g,cap,cur,rfl,-⟩
 ·exact⟨none,0,by rw[h0],.inl (List.length_eq_zero_iff.1 h0)⟩
 ·refine⟨_,cap,rfl,.inr ⟨g,0,rfl,fun i x hx=>?_⟩⟩
  have:=h'.cells rfl i (.bool x) (by unfold zkm;rw[List.getElem?_map,hx];rfl);rw[Addr.add_lit] at this;exact this
def mkL (rs:List PR)(ns:List PN)(k:Nat):List Bool:=(List.range ns.length).map fun i=>itG (needW rs ns (lfp rs ns)) (loopW ns (lfp rs ns)) k i
theorem zix (rs:List PR)(ns:List PN)(k:Nat):(mkL rs ns k).length=ns.length:=by unfold mkL;rw[List.length_map,List.length_range]
theorem z95 (w:World)(base:Nat)(x:Int)(hb:base<=w.heap.size):(w.alloc (.cells #[.int .i64 x] 3)).ownsRow base 3 1 (.slice (some ⟨w.heap.size,0,none⟩) 1 1) 1 [.int .i64 x]:=
 World.ownsRow_lit (size:=1) w #[.int .i64 x] 1 hb (by decide) rfl
def ndK (L:List Fc)(n:PN)(k:Nat):List Int:=if n.op=3 then seqNd L (n.kids.take k) else n.kids.take k
theorem z9r (L:List Fc)(x:Int):∀(ks:List Int),seqNd L (ks++[x])=if ks.all (fun y=>(atF L y).nul) then seqNd L ks++[x] else seqNd L ks
 | []=>by simp[seqNd]
 |y::r=>by
  have ih:=z9r L x r;rw[List.cons_append];unfold seqNd;cases hy:(atF L y).nul with
  |false=>simp[hy]
  |true=>
   rw[if_pos rfl,if_pos rfl,ih,List.all_cons,hy,Bool.true_and];split<;>rfl
theorem yaa0 {L:List Fc}{n:PN}{k:Nat}{x:Int}(h3:n.op≠3)(hx:n.kids[k]?=some x):ndK L n (k+1)=ndK L n k++[x]:=by
 unfold ndK;rw[if_neg h3,if_neg h3,List.take_add_one,hx];rfl
theorem yabk {L:List Fc}{n:PN}{k:Nat}{x:Int}(h3:n.op=3)(hx:n.kids[k]?=some x)(h:nulsB L n.kids k=true):ndK L n (k+1)=ndK L n k++[x]:=by
 unfold ndK;rw[if_pos h3,if_pos h3,List.take_add_one,hx];show seqNd L (_++[x])=_;rw[z9r];unfold nulsB at h;rw[if_pos h]
theorem yabr {L:List Fc}{n:PN}{k:Nat}{x:Int}(h3:n.op=3)(hx:n.kids[k]?=some x)(h:nulsB L n.kids k=false):ndK L n (k+1)=ndK L n k:=by
 unfold ndK;rw[if_pos h3,if_pos h3,List.take_add_one,hx];show seqNd L (_++[x])=_;rw[z9r,if_neg (by unfold nulsB at h;rw[h];decide)]
theorem yabl {rs:List PR}{L:List Fc}{n:PN}(h2:n.op≠2):needN rs L n=ndK L n n.kids.length:=by
 unfold needN ndK;rw[if_neg h2,List.take_length]
theorem yaaq (L:List Fc):∀(ks:List Int),(seqNd L ks).length<=ks.length
 | []=>Nat.le_refl _
 |y::r=>by have:=yaaq L r;unfold seqNd;split<;>simp<;>omega
theorem yabm (L:List Fc)(n:PN)(k:Nat):(ndK L n k).length<=k:=by
 have h:(n.kids.take k).length<=k:=by rw[List.length_take];omega
 unfold ndK;split
 ·exact Nat.le_trans (yaaq _ _) h
 ·exact h
theorem yabb (L:List Fc)(n:PN):ndK L n 0=[]:=by unfold ndK;rw[List.take_zero];split<;>rfl
theorem yaab (rv nv:Value)(rs:List PR)(ns:List PN)(i:Nat)(n:PN)(w:World)(hR:RulesIn w rv rs)(hN:NodesAt w nv ns)(hO:FlowOk rs ns)(hn:ns[i]?=some n) :
  Calls Tryz.prog 35 #[.agg #[rv,nv],.int .i64 (i:Int)] w (z3w (needN rs (lfp rs ns) n) w):=by
 have hs:=hO.nl;obtain⟨ii,hii,hz0,hz1,hz2⟩:=info_parts za3;have hmem:=List.mem_of_getElem? hn;have hI:=hO.ok n hmem;have hkl:=hO.kl n hmem;have hil:=(List.getElem?_eq_some_iff.1 hn).1;have hone:=zab w (.cells #[rv,nv] 25);have HF:=Lib.hid (zxl rv nv rs ns _ (hR.kept hone (Nat.le_refl _)) (hN.kept hone (Nat.le_refl _)) hO);have HKO:=Lib.hid (fun(k:Nat) (x:Int) (hx:n.kids[k]?=some x)=>z4b (l:=mkL rs ns 0) hI (zix rs ns 0) (za7 rs ns) hx);have HLF:=Lib.hid (za7 rs ns);obtain⟨-,na,nc,rfl,hna⟩:=hN;rcases hna with h0|⟨nb,no,rfl,hca⟩
 ·rw[h0] at hil;exact absurd hil (Nat.not_lt_zero _)
 obtain⟨kv,c0,c1,c2,c3,c4,c5,c6,hki,-⟩:=hca i n hn;have ln:=zac c0;obtain⟨ka,kc,rfl,-⟩:=id hki;obtain⟨-,ra,rc,rfl,hra⟩:=id hR;have HG:=Lib.hid (Bl.new w 25 #[.slice ra rs.length rc,.slice (some ⟨nb,no,none⟩) ns.length nc]);have HONE:=Lib.hid hone;have HK:=Lib.hid (fun(k:Nat) (x:Int) (hx:n.kids[k]?=some x)=>hki.cell hx);have HC0:=Lib.hid c0;have HC1:=Lib.hid c1;have HC2:=Lib.hid c2;have HC3:=Lib.hid c3;have HC4:=Lib.hid c4;have HC5:=Lib.hid c5;have HC6:=Lib.hid c6;have k1:(i:Int)<(ns.length:Int):=by omega
 unfold NewF at HF;rw[HLF.out] at HF;clear hR hO hone hca hki hmem c0 c1 c2 c3 c4 c5 c6;generalize hL:lfp rs ns=L at *;go_enter Tryz.func35,Tryz.ntmps35
 go_upto_region 3 with(go_at_call 65;(with_reducible refine HF.out.mono ?_);rintro e w3 ⟨fa,fc,rfl,hf,hb⟩;have HB3:=Lib.hid (bl_on HONE.out hb);have HF3:=Lib.hid hf;have HG3:=Lib.hid (HG.out.below hb);have g1:w3.cell? ⟨w.heap.size,1,none⟩=some (.slice (some ⟨nb,no,none⟩) ns.length nc):=HG3.out.cell (o:=1) rfl;have lg:=HG3.out.lt;have c0:=((bcell HB3.out).1 _ _ ln).trans HC0.out;have c1:=((bcell HB3.out).1 _ _ ln).trans HC1.out;have c2:=((bcell HB3.out).1 _ _ ln).trans HC2.out;have c3:=((bcell HB3.out).1 _ _ ln).trans HC3.out;have c4:=((bcell HB3.out).1 _ _ ln).trans HC4.out;have c5:=((bcell HB3.out).1 _ _ ln).trans HC5.out;have c6:=((bcell HB3.out).1 _ _ ln).trans HC6.out;have ln3:=zac c0;clear hf hb)
 have HM:=Lib.hid (Bl.new w3 51 #[.int .i64 n.op,.slice ka n.kids.length kc,.int .i64 n.rule,.int .u64 n.s0,.int .u64 n.s1,.int .u64 n.s2,.int .u64 n.s3]);have HB4:=Lib.hid (zar (o:=.cells #[.int .i64 n.op,.slice ka n.kids.length kc,.int .i64 n.rule,.int .u64 n.s0,.int .u64 n.s1,.int .u64 n.s2,.int .u64 n.s3] 51) HB3.out);have HF4:=Lib.hid (HF3.out.below (zab w3 (.cells #[.int .i64 n.op,.slice ka n.kids.length kc,.int .i64 n.rule,.int .u64 n.s0,.int .u64 n.s1,.int .u64 n.s2,.int .u64 n.s3] 51)));have HG4:=Lib.hid (HG3.out.past (o:=.cells #[.int .i64 n.op,.slice ka n.kids.length kc,.int .i64 n.rule,.int .u64 n.s0,.int .u64 n.s1,.int .u64 n.s2,.int .u64 n.s3] 51));clear g1 lg c0 c1 c2 c3 c4 c5 c6 ln3 HB3 HF3 HG3 HF HG HONE HC0 HC1 HC2 HC3 HC4 HC5 HC6;generalize hW4:World.alloc _ _=W4 at *;generalize hMB:w3.heap.size=MB at *;clear hW4 hMB;have m0:W4.cell? ⟨MB,0,none⟩=some (.int .i64 n.op):=HM.out.cell (o:=0) rfl;have m1:W4.cell? ⟨MB,1,none⟩=some (.slice ka n.kids.length kc):=HM.out.cell (o:=1) rfl;have lm:=HM.out.lt;by_cases e2:n.op=2
 ·obtain⟨r,x,hr,hx,h0,h1⟩:=hI.root e2
  have HRES:Hid (needN rs L n=[x.root]):=Lib.hid (by unfold needN;rw[if_pos e2,hr,zcn hx]);have m2:W4.cell? ⟨MB,2,none⟩=some (.int .i64 n.rule):=HM.out.cell (o:=2) rfl;have hrl:=(List.getElem?_eq_some_iff.1 hx).1;rcases hra with h|⟨rb,ro,rfl,hcr⟩
  ·rw[h] at hrl;exact absurd hrl (Nat.not_lt_zero _)
  obtain⟨-,r1⟩:=hcr r x hx;have lr:=zac r1;rw[<-(bcell HB4.out).1 _ _ lr] at r1;have lr2:=zac r1;have k2:(r:Int)<(rs.length:Int):=by omega
  have g0:W4.cell? ⟨w.heap.size,0,none⟩=some (.slice (some ⟨rb,ro,none⟩) rs.length rc):=HG4.out.cell (o:=0) rfl;have lg:=HG4.out.lt;rw[e2] at m0;rw[hr] at m2;clear hI hcr hx hn hr;go_wp2;go_ret;unfold z3w;rw[HRES.out];exact⟨_,_,rfl,z95 W4 w.heap.size x.root HB4.out.size,zar HB4.out⟩
 ·have q2:(n.op == 2)=false:=zaj e2
  have HRES:Hid (needN rs L n=ndK L n n.kids.length):=Lib.hid (yabl e2);have HKF:=Lib.hid (fun(j:Nat) (f:Fc) (hx:L[j]?=some f) (W:World) (hb:Below W4.heap.size W4 W)=>(HF4.out.below hb).at hx);clear hI hra hn;go_wp2;clear m0 m1 lm
  go_loopw [7,8] (fun s c wr=>∃k:Nat,k<=n.kids.length/\c=.int .i64 (k:Int)/\wr.ownsRow W4.heap.size 3 1 s (ndK L n k).length (intsV (ndK L n k))/\Below W4.heap.size W4 wr) (fun _ c _=>n.kids.length-(intOf c).toNat)
  case atStart=>exact⟨0,Nat.zero_le _,rfl,by rw[yabb];exact World.ownsRow_nil _ _ _ _,Below.refl _ _⟩
  case round=>
   obtain⟨k,hk,rfl,ho,hb⟩:=hrel;obtain⟨sa,sc,rfl⟩:=zad ho;have hm:=HM.out.below hb;have m0:wr.cell? ⟨MB,0,none⟩=some (.int .i64 n.op):=hm.cell (o:=0) rfl;have m1:wr.cell? ⟨MB,1,none⟩=some (.slice ka n.kids.length kc):=hm.cell (o:=1) rfl;have lm:=hm.lt;have hbw:=bl_on HB4.out hb;have hnk:=yabm L n k;have HO:=Lib.hid ho;have HB:=Lib.hid hb;have HBW:=Lib.hid hbw;have hz:=HB.out.size;clear ho hb hm hbw;by_cases hlt:k<n.kids.length
   ·have k2:(k:Int)<(n.kids.length:Int):=by omega
    go_wp2;obtain⟨w0,rfl⟩:∃w0,w0=wr:=⟨_,rfl⟩
    go_loopw [9,10] (fun v d wx=>∃m:Nat,m<=k/\d=.int .i64 (m:Int)/\v=.bool (nulsB L n.kids m)/\wx=w0) (fun _ d _=>k-(intOf d).toNat)
    case atStart=>exact⟨0,Nat.zero_le _,by first|rfl|trivial,by rw[zt4],by first|rfl|trivial⟩
    case round=>
     obtain⟨m,hm,rfl,rfl,hwr⟩:=hrel;obtain rfl:=hwr.symm;by_cases hmk:m<k
     ·have n1:(m:Int)<(k:Int):=by omega
      have n2:(m:Int)<(n.kids.length:Int):=by omega
      obtain⟨x,hx⟩:∃x,n.kids[m]?=some x:=⟨_,List.getElem?_eq_getElem (by omega)⟩;have HS:=Lib.hid (zt5 (L:=L) hx);obtain⟨j,b,f,rfl,-,-,hf,haf,hj⟩:=HKO.out m x hx;obtain⟨kb,ko,rfl,kx⟩:=HK.out m _ hx;obtain⟨fb,fo,rfl,f0,-,-⟩:=HKF.out j f hf w0 HB.out;have lk:=zac kx;rw[<-(bcell HBW.out).1 _ _ lk] at kx;have lk2:=zac kx;have lf2:=zac f0;have j1:(j:Int)<(ns.length:Int):=by omega
      have HAF:=Lib.hid haf;clear hx hf haf;cases hnb:nulsB L n.kids m with
      |false=>
       go_wp2;go_roundw
       case rel=>exact⟨m+1,by omega,by go_num,by rw[HS.out,hnb];rfl,by first|rfl|trivial⟩
       case measure=>simp[intOf];omega
      |true=>
       go_wp2;go_roundw
       case rel=>exact⟨m+1,by omega,by go_num,by rw[HS.out,hnb,HAF.out];rfl,by first|rfl|trivial⟩
       case measure=>simp[intOf];omega
     ·obtain rfl:m=k:=by omega
      have n1:¬(m:Int)<(m:Int):=by omega
      obtain⟨x,hx⟩:∃x,n.kids[m]?=some x:=⟨_,List.getElem?_eq_getElem hlt⟩;obtain⟨j,b,f,rfl,-,-,-,-,hj⟩:=HKO.out m x hx;obtain⟨kb,ko,rfl,kx⟩:=HK.out m _ hx;have lk:=zac kx;rw[<-(bcell HBW.out).1 _ _ lk] at kx;have lk2:=zac kx;by_cases e3:n.op=3
      ·rw[e3] at m0
       cases hnb:nulsB L n.kids m with
       |false=>
        have HN:=Lib.hid (yabr e3 hx hnb);clear hx;go_wp2;exact⟨⟨m+1,by omega,by first|go_num|omega,by rw[HN.out];exact HO.out,HB.out⟩,by simp[intOf];omega⟩
       |true=>
        have HN:=Lib.hid (yabk e3 hx hnb);clear hx;generalize ndK L n m=q at *
        go_wp2_with (at_builtin;(refine wpList_append_own _ rfl _ _ 29 rfl W4.heap.size 3 ii _ 1 8 Tryz.underlying29 hii hz0 hz1 hz2 rfl (by decide) _ q.length _ rfl (zaa HO.out (zab _ _)) ⟨_,0,none⟩ 1 1 [.int .i64 (j:Int)] rfl rfl (Bl.news (Bl.new _ 3 _)) (by simp[Value.oneCell']) (by unfold maxLen;omega) (by omega) (by have:=HB.out.size;simp;omega) ?_;intro v6 w6 hown' hgrow _;have HO6:=Lib.hid hown';have HB6:=Lib.hid ((zar HB.out).grown hgrow (zar HB.out).size (fun g e=>(HO.out.lt g e).1));clear hown' hgrow))
        exact⟨⟨m+1,by omega,by first|go_num|omega,by rw[HN.out,List.length_append,zbb];exact HO6.out,HB6.out⟩,by simp[intOf];omega⟩
      ·have q3:(n.op != 3)=true:=zbx e3
       have HN:=Lib.hid (yaa0 (L:=L) e3 hx);clear hx;generalize ndK L n m=q at *
       go_wp2_with (at_builtin;(refine wpList_append_own _ rfl _ _ 29 rfl W4.heap.size 3 ii _ 1 8 Tryz.underlying29 hii hz0 hz1 hz2 rfl (by decide) _ q.length _ rfl (zaa HO.out (zab _ _)) ⟨_,0,none⟩ 1 1 [.int .i64 (j:Int)] rfl rfl (Bl.news (Bl.new _ 3 _)) (by simp[Value.oneCell']) (by unfold maxLen;omega) (by omega) (by have:=HB.out.size;simp;omega) ?_;intro v6 w6 hown' hgrow _;have HO6:=Lib.hid hown';have HB6:=Lib.hid ((zar HB.out).grown hgrow (zar HB.out).size (fun g e=>(HO.out.lt g e).1));clear hown' hgrow))
       exact⟨⟨m+1,by omega,by first|go_num|omega,by rw[HN.out,List.length_append,zbb];exact HO6.out,HB6.out⟩,by simp[intOf];omega⟩
   ·obtain rfl:k=n.kids.length:=by omega
    have k2:¬(n.kids.length:Int)<(n.kids.length:Int):=by omega
    go_wp2;go_ret;unfold z3w;rw[HRES.out];exact⟨sa,sc,rfl,zax HO.out HB4.out.size,bl_on HB4.out HB.out⟩
end Go.Proofs.YthhppmehhdlmnaaGreatDoor
