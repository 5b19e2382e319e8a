/- Layer 13: left.Calls and its recursive closure over two maps. Layer 13: left.Calls is the list of the left calls. -/
import Derived.Laws.EntriesVeiled
import Derived.Deep.RegionWith
import Derived.Deep.Cut
import Derived.Test.YthhppmehhdlmnaaGreatDoorPzWD
import Derived.Test.YthhppmehhdlmnaaGreatDoorPzLA
import Derived.Test.YthhppmehhdlmnaaGreatDoorPzLeftSort
set_option maxRecDepth 100000
set_option maxHeartbeats 8000000
namespace Go.Proofs.YthhppmehhdlmnaaGreatDoor
section
open Go.RowKit
structure KM (x y:Nat) (w w':World):Prop where
 os:w'.os=w.os
 tape:w'.tape=w.tape
 output:w'.output=w.output
 size:w.heap.size<=w'.heap.size
 block:∀k,k<w.heap.size->k≠x->k≠y->w'.heap[k]?=w.heap[k]?
section
variable {x y:Nat} {w w1 w2 w':World}
theorem KM.refl (w:World):KM x y w w:=⟨rfl,rfl,rfl,Nat.le_refl _,fun _ _ _ _=>rfl⟩
theorem KM.trans (h:KM x y w w1)(k:KM x y w1 w2):KM x y w w2:=
 ⟨k.os.trans h.os,k.tape.trans h.tape,k.output.trans h.output,Nat.le_trans h.size k.size,fun j hj hx hy=>(k.block j (Nat.lt_of_lt_of_le hj h.size) hx hy).trans (h.block j hj hx hy)⟩
theorem KM.of_below (h:Below w.heap.size w w'):KM x y w w':=⟨h.os,h.tape,h.output,h.size,fun k hk _ _=>h.block k hk⟩
theorem KM.grown1 (h:w.grownBy w' (some x)):KM x y w w':=⟨h.os,h.tape,h.output,h.size,fun k hk hx _=>h.block k hk (fun e=>hx (by injection e))⟩
theorem KM.grown2 (h:w.grownBy w' (some y)):KM x y w w':=⟨h.os,h.tape,h.output,h.size,fun k hk _ hy=>h.block k hk (fun e=>hy (by injection e))⟩
theorem KM.low {n:Nat}(h:KM x y w w')(hx:n<=x)(hy:n<=y)(hs:n<=w.heap.size):Below n w w':=⟨h.os,h.tape,h.output,h.size,fun k hk=>h.block k (by omega) (by omega) (by omega)⟩
theorem KM.bl {b:Nat}{t:TypeId}{cs:Array Value}(h:KM x y w w')(hB:Bl w b t cs)(hx:b≠x)(hy:b≠y):Bl w' b t cs:=by
 unfold Bl at hB ⊢;rw[h.block b (Array.getElem?_eq_some_iff.1 hB).1 hx hy];exact hB
theorem KM.own {base n size:Nat}{e:TypeId}{v:Value}{xs:List Value}(h:KM x y w w')(hv:w.ownsRow base e size v n xs)(hx:v.ownBlock≠some x)(hy:v.ownBlock≠some y):w'.ownsRow base e size v n xs:=by
 refine⟨hv.1,?_⟩;rcases hv.2 with h1|⟨g,cap,cur,e1,e2,e3,e4⟩
 ·exact .inl h1
 ·subst e1
  exact .inr ⟨g,cap,cur,rfl,e2,(h.block g (Array.getElem?_eq_some_iff.1 e3).1 (fun e=>hx (by rw[e];rfl)) (fun e=>hy (by rw[e];rfl))).trans e3,e4⟩
theorem MZ.bl_ne {w:World}{b c:Nat}{m:Nat->Option Value}{t:TypeId}{cs:Array Value}(h:MZ w b m)(hB:Bl w c t cs):c≠b:=by
 rintro rfl;exact h.not_cells hB
theorem MZ.own_ne {w:World}{b base n size:Nat}{m:Nat->Option Value}{e:TypeId}{v:Value}{xs:List Value}(h:MZ w b m)(hv:w.ownsRow base e size v n xs):v.ownBlock≠some b:=fun e1=>by
 obtain⟨c,fz,hc⟩:=Lib.ownsRow_kind hv b e1;exact h.not_cells hc
end
def setM (M:Nat->Bool):Nat->Option Value:=fun k=>if M k=true then some (.bool true) else none
theorem z1h (M:Nat->Bool)(k:Nat):(setM M k).getD (.bool false)=.bool (M k):=by
 unfold setM;cases M k<;>rfl
theorem zw2 (M:Nat->Bool)(k:Nat):(setM M k).isSome=true↔M k=true:=by
 unfold setM;cases M k<;>simp
theorem zro (M:Nat->Bool)(k:Nat):putM (setM M) k (.bool true)=setM (setB M k):=by
 funext i;unfold putM setM setB;by_cases e:i=k
 ·rw[if_pos e,decide_eq_true e,Bool.or_true,if_pos rfl]
 ·rw[if_neg e,decide_eq_false e,Bool.or_false]
def folF (GB MB FB CB:Nat):Value:=.func (.func 31) #[] #[.pointer (some ⟨GB,0,none⟩),.pointer (some ⟨MB,0,none⟩),.pointer (some ⟨FB,0,none⟩),.pointer (some ⟨CB,0,none⟩)]
structure FolS (w0:World) (GB MB FB CB m1 m2:Nat) (rv nv:Value) (M C:Nat->Bool) (W:World):Prop where
 lo:Below w0.heap.size w0 W
 a1:w0.heap.size<=m1
 a2:w0.heap.size<=m2
 g:Bl W GB 25 #[rv,nv]
 m:Bl W MB 45 #[.map (some m1)]
 f:Bl W FB 46 #[folF GB MB FB CB]
 c:Bl W CB 45 #[.map (some m2)]
 s1:MZ W m1 (setM M)
 s2:MZ W m2 (setM C)
 ne:m1≠m2
section
variable {w0 W W':World} {GB MB FB CB m1 m2:Nat} {rv nv:Value} {M C:Nat->Bool}
theorem FolS.below (h:FolS w0 GB MB FB CB m1 m2 rv nv M C W)(hb:Below W.heap.size W W'):FolS w0 GB MB FB CB m1 m2 rv nv M C W':=
 ⟨h.lo.trans (hb.mono h.lo.size),h.a1,h.a2,h.g.below hb,h.m.below hb,h.f.below hb,h.c.below hb,h.s1.below hb h.s1.lt,h.s2.below hb h.s2.lt,h.ne⟩
theorem FolS.meet {i:Nat}(h:FolS w0 GB MB FB CB m1 m2 rv nv M C W)(hp:MZ W' m1 (putM (setM M) i (.bool true)))(hg:W.grownBy W' (some m1)):FolS w0 GB MB FB CB m1 m2 rv nv (setB M i) C W':=by
 have hk:KM m1 m2 W W':=KM.grown1 hg;rw[zro] at hp;exact⟨h.lo.trans (hk.low h.a1 h.a2 h.lo.size),h.a1,h.a2,hk.bl h.g (h.s1.bl_ne h.g) (h.s2.bl_ne h.g),hk.bl h.m (h.s1.bl_ne h.m) (h.s2.bl_ne h.m),hk.bl h.f (h.s1.bl_ne h.f) (h.s2.bl_ne h.f),hk.bl h.c (h.s1.bl_ne h.c) (h.s2.bl_ne h.c),hp,h.s2.kept hg (fun e=>h.ne (by injection e with e;exact e.symm)),h.ne⟩
theorem FolS.call {r:Nat}(h:FolS w0 GB MB FB CB m1 m2 rv nv M C W)(hp:MZ W' m2 (putM (setM C) r (.bool true)))(hg:W.grownBy W' (some m2)):FolS w0 GB MB FB CB m1 m2 rv nv M (setB C r) W':=by
 have hk:KM m1 m2 W W':=KM.grown2 hg;rw[zro] at hp;exact⟨h.lo.trans (hk.low h.a1 h.a2 h.lo.size),h.a1,h.a2,hk.bl h.g (h.s1.bl_ne h.g) (h.s2.bl_ne h.g),hk.bl h.m (h.s1.bl_ne h.m) (h.s2.bl_ne h.m),hk.bl h.f (h.s1.bl_ne h.f) (h.s2.bl_ne h.f),hk.bl h.c (h.s1.bl_ne h.c) (h.s2.bl_ne h.c),h.s1.kept hg (fun e=>h.ne (by injection e)),hp,h.ne⟩
end
theorem z1i {rs:List PR}{L:List Fc}{n:PN}(h2:n.op≠2):(needN rs L n).length<=n.kids.length:=by
 unfold needN;rw[if_neg h2];split
 ·exact(zij _ _).length_le
 ·exact Nat.le_refl _
theorem zph (w:World):(zeroValue 4).run Tryz.prog w=.ok (.bool false) w:=by kernel_rfl
def FolIs (w0:World)(GB MB FB CB m1 m2:Nat)(rv nv:Value)(nd:Nat->List Nat)(cl:Nat->Option Nat)(i:Nat)(M C:Nat->Bool)(W:World)(e:Ending)(w':World):Prop:=
 (∃v,e=.returned v)/\∃M' C',FolS w0 GB MB FB CB m1 m2 rv nv M' C' w'/\PostF nd cl i M C M' C'/\KM m1 m2 W w'
theorem zjy (w0:World)(GB MB FB CB m1 m2:Nat)(rv nv:Value)(rs:List PR)(ns:List PN)(hR:RulesIn w0 rv rs)(hN:NodesAt w0 nv ns)(hC:CapsAt w0 nv ns.length)(hO:FlowOk rs ns)(hrs:rs.length<=1000)(hA:∀x:Nat,x<ns.length->exL ns x ≠ -2) :
  ∀(f i:Nat) (M C:Nat->Bool) (W:World),i<f->i<ns.length->FolS w0 GB MB FB CB m1 m2 rv nv M C W->PreF (ndC (needW rs ns (lfp rs ns)) (clW ns)) (clW ns) i M C ->
  Calls Tryz.prog 31 #[.int .i64 (i:Int),.pointer (some ⟨GB,0,none⟩),.pointer (some ⟨MB,0,none⟩),.pointer (some ⟨FB,0,none⟩),.pointer (some ⟨CB,0,none⟩)] W (FolIs w0 GB MB FB CB m1 m2 rv nv (ndC (needW rs ns (lfp rs ns)) (clW ns)) (clW ns) i M C W)
 |0,i,_,_,_,hf,_,_,_=>absurd hf (Nat.not_lt_zero _)
 |f+1,i,M,C,W,hf,hi,hS,hP=>by
  have IH:=Lib.hid (zjy w0 GB MB FB CB m1 m2 rv nv rs ns hR hN hC hO hrs hA f);have hnl:=hO.nl;obtain⟨n,hn⟩:∃n,ns[i]?=some n:=⟨_,List.getElem?_eq_getElem hi⟩;have hnm:=List.mem_of_getElem? hn;have HT:=Lib.hid (zls (rs:=rs) (L:=lfp rs ns) hA);obtain⟨na,nc,rfl⟩:∃na nc,nv=.slice na ns.length nc:=by obtain⟨-,na,nc,rfl,-⟩:=hN;exact⟨na,nc,rfl⟩
  obtain⟨ra,rc,rfl⟩:∃ra rc,rv=.slice ra rs.length rc:=by obtain⟨-,ra,rc,rfl,-⟩:=hR;exact⟨ra,rc,rfl⟩
  have g0:W.cell? ⟨GB,0,none⟩=some (.slice ra rs.length rc):=hS.g.cell (o:=0) rfl;have g1:W.cell? ⟨GB,1,none⟩=some (.slice na ns.length nc):=hS.g.cell (o:=1) rfl;have lg:=hS.g.lt;have q0:W.cell? ⟨MB,0,none⟩=some (.map (some m1)):=hS.m.cell (o:=0) rfl;have lq:=hS.m.lt;have hlk:=hS.s1.find (t:=45) Tryz.underlying45 (zph W) i (by omega) false;simp only[z1h,Bool.false_eq_true,if_false] at hlk;have k0:¬(i:Int)<0:=by omega
  have k1:¬(ns.length:Int)<=(i:Int):=by omega
  have k2:(i:Int)<(ns.length:Int):=by omega
  have HS:=Lib.hid hS;have HP:=Lib.hid hP;cases hM:M i with
  |true=>
   rw[hM] at hlk;have HM:=Lib.hid (PostF.met hP hM);clear hS hP hM;go_enter Tryz.func31,Tryz.ntmps31;go_wp2
   go_end0
   exact⟨⟨_,rfl⟩,M,C,HS.out,HM.out,KM.refl _⟩
  |false=>
   rw[hM] at hlk;obtain⟨-,na',nc',hnv,hna⟩:=id hN;injection hnv with e1 e2 e3;subst e1 e3;rcases hna with h0|⟨nb,no,rfl,hca⟩
   ·rw[h0] at hi;exact absurd hi (Nat.not_lt_zero _)
   obtain⟨kv,c0,c1,c2,c3,c4,c5,c6,hki,-⟩:=hca i n hn;have lr:=zac c0;obtain⟨ka,kc,rfl,-⟩:=id hki;have HC0:=Lib.hid c0;have HC1:=Lib.hid c1;have HC2:=Lib.hid c2;have HC3:=Lib.hid c3;have HC4:=Lib.hid c4;have HC5:=Lib.hid c5;have HC6:=Lib.hid c6;have HNR:=Lib.hid (fun(W':World) (hb:Below w0.heap.size w0 W')=>zpg (.slice ra rs.length rc) (.slice (some ⟨nb,no,none⟩) ns.length nc) rs ns i n W' (hR.kept hb (Nat.le_refl _)) (hN.kept hb (Nat.le_refl _)) (hC.kept hN rfl hb) hO hn);have HI:=Lib.hid (hO.ok n hnm);have HKL:=Lib.hid (hO.kl n hnm);have HN:=Lib.hid hn;have s1:=hS.s1;clear hS hP hM hca hki c0 c1 c2 c3 c4 c5 c6 hnm e2 hR hN hC hO;go_enter Tryz.func31,Tryz.ntmps31
   go_upto_region 2 with(at_mapUpdate;refine zlp _ s1 rfl _ _ _ 45 4 rfl Tryz.underlying45 i (by omega) (.bool true) rfl rfl rfl ?_;intro w1 hm1 hg1)
   have HS1:=Lib.hid (HS.out.meet hm1 hg1);have HK1:=Lib.hid (KM.grown1 (x:=m1) (y:=m2) hg1);clear hm1 hg1 g0 g1 lg q0 lq hlk s1;have g0:w1.cell? ⟨GB,0,none⟩=some (.slice ra rs.length rc):=HS1.out.g.cell (o:=0) rfl;have g1:w1.cell? ⟨GB,1,none⟩=some (.slice (some ⟨nb,no,none⟩) ns.length nc):=HS1.out.g.cell (o:=1) rfl;have lg:=HS1.out.g.lt;have ln:nb<w1.heap.size:=Nat.lt_of_lt_of_le lr HS1.out.lo.size;have c0:=((bcell HS1.out.lo).1 _ _ lr).trans HC0.out;have c1:=((bcell HS1.out.lo).1 _ _ lr).trans HC1.out;have c2:=((bcell HS1.out.lo).1 _ _ lr).trans HC2.out;have c3:=((bcell HS1.out.lo).1 _ _ lr).trans HC3.out;have c4:=((bcell HS1.out.lo).1 _ _ lr).trans HC4.out;have c5:=((bcell HS1.out.lo).1 _ _ lr).trans HC5.out;have c6:=((bcell HS1.out.lo).1 _ _ lr).trans HC6.out
   go_upto_region 3 with fail
   obtain⟨W1,hW1⟩:∃W1,w1.alloc (.cells #[.int .i64 n.op,.slice ka n.kids.length kc,.int .i64 n.rule,.int .u64 n.s0,.int .u64 n.s1,.int .u64 n.s2,.int .u64 n.s3] 51)=W1:=⟨_,rfl⟩;have HB1:=Lib.hid (zab w1 (.cells #[.int .i64 n.op,.slice ka n.kids.length kc,.int .i64 n.rule,.int .u64 n.s0,.int .u64 n.s1,.int .u64 n.s2,.int .u64 n.s3] 51));have HND:=Lib.hid (Bl.new w1 51 #[.int .i64 n.op,.slice ka n.kids.length kc,.int .i64 n.rule,.int .u64 n.s0,.int .u64 n.s1,.int .u64 n.s2,.int .u64 n.s3]);obtain⟨NB,hNB⟩:∃NB,w1.heap.size=NB:=⟨_,rfl⟩;rw[hW1] at HB1 HND;have HS2:=Lib.hid (HS1.out.below HB1.out);have HK2:=Lib.hid (HK1.out.trans (KM.of_below HB1.out));rw[hNB] at HND;rw[hW1,hNB];clear g0 g1 lg ln c0 c1 c2 c3 c4 c5 c6 hW1 HB1 HK1 hNB;have n0:W1.cell? ⟨NB,0,none⟩=some (.int .i64 n.op):=HND.out.cell (o:=0) rfl;have n2:W1.cell? ⟨NB,2,none⟩=some (.int .i64 n.rule):=HND.out.cell (o:=2) rfl;have nl:=HND.out.lt;have g0:W1.cell? ⟨GB,0,none⟩=some (.slice ra rs.length rc):=HS2.out.g.cell (o:=0) rfl;have g1:W1.cell? ⟨GB,1,none⟩=some (.slice (some ⟨nb,no,none⟩) ns.length nc):=HS2.out.g.cell (o:=1) rfl;have lg:=HS2.out.g.lt;by_cases e2:n.op=2
   ·obtain⟨r,x,hr,hx,-,-⟩:=HI.out.root e2
    have hrl:=(List.getElem?_eq_some_iff.1 hx).1;have q0:W1.cell? ⟨CB,0,none⟩=some (.map (some m2)):=HS2.out.c.cell (o:=0) rfl;have lq:=HS2.out.c.lt;have s2:=HS2.out.s2;have hcl:clW ns i=some r:=by rw[zdz HN.out e2,hr];rfl
    have HPF:=Lib.hid (PostF.call HP.out hcl (zlr hcl));rw[e2] at n0;rw[hr] at n2;have k3:(0:Int)<=(r:Int):=by omega
    have k4:(r:Int)<(rs.length:Int):=by omega
    clear hx hr hcl
    go_wp2_with (at_mapUpdate;refine zlp _ s2 rfl _ _ _ 45 4 rfl Tryz.underlying45 r (by omega) (.bool true) rfl rfl rfl ?_;intro w2 hm2 hg2)
    go_end0
    exact⟨⟨_,rfl⟩,_,_,HS2.out.call hm2 hg2,HPF.out,HK2.out.trans (KM.grown2 hg2)⟩
   ·have q2:(n.op != 2)=true:=zbx e2
    have hcl:clW ns i=none:=zii HN.out e2;have hnd:ndC (needW rs ns (lfp rs ns)) (clW ns) i=(needN rs (lfp rs ns) n).map Int.toNat:=by rw[zlq hcl,zc8 HN.out]
    have HLT:=Lib.hid HT.out.less;have HMD:=Lib.hid (MidF.start HP.out);have HCL:=Lib.hid hcl;have HND2:=Lib.hid hnd;have HNR1:=Lib.hid (HNR.out W1 HS2.out.lo);obtain⟨l,hl⟩:∃l,needN rs (lfp rs ns) n=l:=⟨_,rfl⟩;rw[hl] at HND2 HNR1;unfold z3w at HNR1;have HNN:Hid (∀x,x ∈ l->0<=x):=Lib.hid (fun x hx=>by
     rw[<-hl] at hx;exact(zhj HI.out hx).1)
    have hll:l.length<=60:=by
     rw[<-hl];exact Nat.le_trans (z1i e2) HKL.out
    clear hnd hcl hl n2 HNR HT HP
    go_upto_region 5 with(go_at_call 32;(with_reducible refine HNR1.out.mono ?_);rintro e w3 ⟨a,c,rfl,ho,hb⟩;have HS3:=Lib.hid (HS2.out.below hb);have HK3:=Lib.hid (HK2.out.trans (KM.of_below hb));have HO3:=Lib.hid ho;clear ho hb)
    clear n0 nl g0 g1 lg;go_wp2
    go_loopw [37] (fun d wr=>∃(k:Nat) (M' C':Nat->Bool),k<=l.length/\d=.int .i64 (k:Int)/\FolS w0 GB MB FB CB m1 m2 (.slice ra rs.length rc) (.slice (some ⟨nb,no,none⟩) ns.length nc) M' C' wr/\MidF (ndC (needW rs ns (lfp rs ns)) (clW ns)) (clW ns) i (ndC (needW rs ns (lfp rs ns)) (clW ns) i) k M C M' C'/\KM m1 m2 W wr/\wr.ownsRow W1.heap.size 3 1 (.slice a l.length c) l.length (intsV l)) (fun d _=>l.length-(intOf d).toNat)
    case atStart=>exact⟨0,setB M i,C,Nat.zero_le _,rfl,HS3.out,HMD.out,HK3.out,HO3.out⟩
    case round=>
     obtain⟨k,M',C',hk,rfl,hs,hm,hkm,ho⟩:=hrel;by_cases hlt:k<l.length
     ·obtain⟨x,hx⟩:∃x,l[k]?=some x:=⟨_,List.getElem?_eq_getElem hlt⟩
      have hx0:=HNN.out x (List.mem_of_getElem? hx);obtain⟨j,rfl⟩:∃j:Nat,x=(j:Int):=⟨x.toNat,by omega⟩;have hj:(ndC (needW rs ns (lfp rs ns)) (clW ns) i)[k]?=some j:=by rw[HND2.out,List.getElem?_map,hx];rfl
      have hji:=HLT.out _ _ (List.mem_of_getElem? hj);obtain⟨gb,rfl,-,hc,-⟩:=zan ho (by omega);have cx:=hc k (.int .i64 (j:Int)) (by unfold intsV;rw[List.getElem?_map,hx];rfl);have f0:=hs.f.cell (o:=0) rfl;unfold folF at f0;have fl:=hs.f.lt;have hC4:=Lib.hid (IH.out j M' C' wr (by omega) (by omega) hs (hm.pre hji));have k3:(k:Int)<(l.length:Int):=by omega
      have HS5:=Lib.hid hs;have HM5:=Lib.hid hm;have HK5:=Lib.hid hkm;have HO5:=Lib.hid ho;have HJ:=Lib.hid hj;unfold FolIs at hC4;clear hs hm hkm ho hc hx hx0 hj IH
      go_wp2_with (go_at_call 31;(with_reducible refine hC4.out.mono ?_);rintro e w4 ⟨⟨v4,rfl⟩,M2,C2,hS4,hP4,hK4⟩;have HS4:=Lib.hid hS4;have HP4:=Lib.hid hP4;have HK4:=Lib.hid hK4;clear hS4 hP4 hK4)
      go_roundw
      case rel=>exact⟨k+1,M2,C2,by omega,by go_num,HS4.out,HM5.out.step HJ.out HLT.out HP4.out,HK5.out.trans HK4.out,HK4.out.own HO5.out (HS5.out.s1.own_ne HO5.out) (HS5.out.s2.own_ne HO5.out)⟩
      case measure=>simp[intOf];omega
     ·obtain rfl:k=l.length:=by omega
      have k3:¬(l.length:Int)<(l.length:Int):=by omega
      rw[show l.length=(ndC (needW rs ns (lfp rs ns)) (clW ns) i).length by rw[HND2.out,List.length_map]] at hm;have hov:=hm.over HCL.out;have HS5:=Lib.hid hs;have HM5:=Lib.hid hov;have HK5:=Lib.hid hkm;clear hs hm hkm ho hov IH;go_wp2
      go_end0
      exact⟨⟨_,rfl⟩,M',C',HS5.out,HM5.out,HK5.out⟩
end
section
open Go.RowKit
structure LeftOk (rs:List PR) (ns:List PN):Prop where
 flow:FlowOk rs ns
 ord:ordR ns rs (-1)=true
 r0:0<rs.length
 rl:rs.length<=30
section
variable {rs:List PR} {ns:List PN}
theorem LeftOk.ex (h:LeftOk rs ns):∀x:Nat,x<ns.length->exL ns x ≠ -2:=fun x hx=>((zcl rs (-1) (by omega) h.ord).2 (x:Int) (by omega) (by omega)).1
theorem LeftOk.root (h:LeftOk rs ns){r:Nat}{x:PR}(hx:rs[r]?=some x):0<=x.root/\x.root<(ns.length:Int):=by
 obtain⟨⟨g1,g2,g3⟩,-⟩:=zex rs (-1) (by omega) h.ord r x hx;exact⟨by omega,g3⟩
end
theorem MZ.empty (w:World):MZ (w.alloc (.map #[] 0)) w.heap.size (setM fun _=>false):=(MZ.made w).same fun _=>rfl
theorem zw3 (l:List Nat):(l.map fun(k:Nat)=>Value.int .i64 (k:Int))=natsV l:=by
 unfold natsV intsV;rw[List.map_map];rfl
theorem zw4 (n:Nat)(p:Nat->Bool):Asc ((List.range n).filter p):=by
 have h:(List.range n).Pairwise (· < ·):=List.pairwise_lt_range;exact h.filter p
theorem zgq (rs:List PR)(ns:List PN)(r:Nat):Asc (zai rs ns r):=zw4 _ _
theorem ze1 (rv nv:Value)(rs:List PR)(ns:List PN)(r:Nat)(w:World)(hR:RulesIn w rv rs)(hN:NodesAt w nv ns)(hC:CapsAt w nv ns.length)(hO:LeftOk rs ns)(hr:r<rs.length) :
  Calls Tryz.prog 11 #[.agg #[rv,nv],.int .i64 (r:Int)] w (zb5 (zai rs ns r) w):=by
 obtain⟨x,hx⟩:∃x,rs[r]?=some x:=⟨_,List.getElem?_eq_getElem hr⟩;obtain⟨hx0,hx1⟩:=hO.root hx;obtain⟨q,hq⟩:∃q:Nat,x.root=(q:Int):=⟨x.root.toNat,by omega⟩;have hrl:=hO.rl;have hnl:=hO.flow.nl;have hroot:(rootF rs (r:Int)).toNat=q:=by rw[zcn hx,hq];rfl
 have HLT:=Lib.hid ((zls (rs:=rs) (L:=lfp rs ns) hO.ex).less);have HF:=Lib.hid (fun(GB MB FB CB m1 m2:Nat) (W:World) (hS:FolS w GB MB FB CB m1 m2 rv nv (fun _=>false) (fun _=>false) W)=>zjy w GB MB FB CB m1 m2 rv nv rs ns hR hN hC hO.flow (by omega) hO.ex (q+1) q (fun _=>false) (fun _=>false) W (by omega) (by omega) hS (fun y _ h=>by cases h));obtain⟨-,ra,rc,rfl,hra⟩:=hR;rcases hra with h0|⟨rb,ro,rfl,hca⟩
 ·rw[h0] at hr;exact absurd hr (Nat.not_lt_zero _)
 obtain⟨r0,r1⟩:=hca r x hx;rw[hq] at r1;have lr:=zac r1;have HR1:=Lib.hid r1;have k0:¬(r:Int)<0:=by omega
 have k1:¬(rs.length:Int)<=(r:Int):=by omega
 have k2:(r:Int)<(rs.length:Int):=by omega
 have hmf:∀(fn:Fn) (first cap:Array Value) (w:World),(Instr.makeFunc fn first cap).run Tryz.prog w=.ok (.func fn first cap) w:=fun _ _ _ _=>rfl
 have HRT:=Lib.hid hroot;have hmm:=@run_makeMap Tryz.prog;clear hN hC hca r0 r1 hx hq hx0 hx1 hroot;go_enter Tryz.func11,Tryz.ntmps11
 go_upto_region 5 with fail
 obtain⟨W5,hW5⟩:∃W5,(((((w.alloc (.cells #[.slice (some ⟨rb,ro,none⟩) rs.length rc,nv] 25)).alloc (.map #[] 0)).alloc (.cells #[.map (some (w.heap.size+1))] 45)).alloc (.map #[] 0)).alloc (.cells #[.map (some (w.heap.size+1+1+1))] 45))=W5:=⟨_,rfl⟩;have hs5:W5.heap.size=w.heap.size+1+1+1+1+1:=by rw[<-hW5];simp
 have hb5:Below w.heap.size w W5:=by
  rw[<-hW5];exact zar (zar (zar (zar (zar (Below.refl _ _)))))
 have b0:Bl W5 w.heap.size 25 #[.slice (some ⟨rb,ro,none⟩) rs.length rc,nv]:=by
  rw[<-hW5];exact((((Bl.new w _ _).past).past).past).past
 have b1:MZ W5 (w.heap.size+1) (setM fun _=>false):=by
  rw[<-hW5];have:=(((MZ.empty (w.alloc (.cells #[.slice (some ⟨rb,ro,none⟩) rs.length rc,nv] 25))).alloc (.cells #[.map (some (w.heap.size+1))] 45)).alloc (.map #[] 0)).alloc (.cells #[.map (some (w.heap.size+1+1+1))] 45);simpa using this
 have b2:Bl W5 (w.heap.size+1+1) 45 #[.map (some (w.heap.size+1))]:=by
  rw[<-hW5];exact(((Bl.new' (by simp)).past).past)
 have b3:MZ W5 (w.heap.size+1+1+1) (setM fun _=>false):=by
  rw[<-hW5];have:=(MZ.empty ((((w.alloc (.cells #[.slice (some ⟨rb,ro,none⟩) rs.length rc,nv] 25)).alloc (.map #[] 0)).alloc (.cells #[.map (some (w.heap.size+1))] 45)))).alloc (.cells #[.map (some (w.heap.size+1+1+1))] 45);simpa using this
 have b4:Bl W5 (w.heap.size+1+1+1+1) 45 #[.map (some (w.heap.size+1+1+1))]:=by
  rw[<-hW5];exact Bl.new' (by simp)
 have HB0:=Lib.hid b0;have HB1:=Lib.hid b1;have HB2:=Lib.hid b2;have HB3:=Lib.hid b3;have HB4:=Lib.hid b4;have HB5:=Lib.hid hb5;have HSZ:=Lib.hid hs5;rw[hW5];clear hW5 b0 b1 b2 b3 b4 hb5 hs5
 go_upto_region 7 with fail
 obtain⟨W6,hW6⟩:∃W6,W5.alloc (.cells #[.func (.func 31) #[] #[.pointer (some ⟨w.heap.size,0,none⟩),.pointer (some ⟨w.heap.size+1+1+1+1,0,none⟩),.pointer (some ⟨W5.heap.size,0,none⟩),.pointer (some ⟨w.heap.size+1+1,0,none⟩)]] 46)=W6:=⟨_,rfl⟩;have hb6:Below W5.heap.size W5 W6:=by rw[<-hW6];exact zab _ _
 have hbw:=bl_on HB5.out hb6;have HS6:Hid (FolS w w.heap.size (w.heap.size+1+1+1+1) W5.heap.size (w.heap.size+1+1) (w.heap.size+1+1+1) (w.heap.size+1) (.slice (some ⟨rb,ro,none⟩) rs.length rc) nv (fun _=>false) (fun _=>false) W6):=Lib.hid ⟨hbw,by omega,by omega,HB0.out.below hb6,HB4.out.below hb6,by rw[<-hW6];exact Bl.new _ _ _,HB2.out.below hb6,HB3.out.below hb6 HB3.out.lt,HB1.out.below hb6 HB1.out.lt,by omega⟩;have f0:W6.cell? ⟨W5.heap.size,0,none⟩=some (folF w.heap.size (w.heap.size+1+1+1+1) W5.heap.size (w.heap.size+1+1)):=HS6.out.f.cell (o:=0) rfl;have fl:=HS6.out.f.lt;have g0:W6.cell? ⟨w.heap.size,0,none⟩=some (.slice (some ⟨rb,ro,none⟩) rs.length rc):=HS6.out.g.cell (o:=0) rfl;have gl:=HS6.out.g.lt;have r1:=((bcell hbw).1 _ _ lr).trans HR1.out;have lr6:rb<W6.heap.size:=Nat.lt_of_lt_of_le lr hbw.size;have HC6:=Lib.hid (HF.out w.heap.size (w.heap.size+1+1+1+1) W5.heap.size (w.heap.size+1+1) (w.heap.size+1+1+1) (w.heap.size+1) W6.drew (HS6.out.below (Below.refl _ _).drew));unfold folF at f0;unfold FolIs at HC6;rw[hW6];generalize hFB:W5.heap.size=FB at *;clear hW6 hb6 hbw HF HB0 HB1 HB2 HB3 HB4 HB5 HR1
 go_region_with (go_at_call 31;(with_reducible refine HC6.out.mono ?_);rintro e w7 ⟨⟨v7,rfl⟩,M',C',hS7,hP7,-⟩;have HS7:=Lib.hid hS7;have HP7:=Lib.hid hP7;have q0:w7.cell? ⟨w.heap.size+1+1,0,none⟩=some (.map (some (w.heap.size+1))):=hS7.c.cell (o:=0) rfl;have ql:=hS7.c.lt;clear hS7 hP7)
 all_goals
  have hcs:∀k,k ∈ zai rs ns r↔(setM C' k).isSome=true:=fun k=>by
   rw[zw2,zgp hO.flow.ok,HRT.out];exact(HP7.out.root HLT.out k).symm
  have HSO:=Lib.hid (ztb (w.heap.size+1) (setM C') (zai rs ns r) w7 HS7.out.s2 (zgq rs ns r) hcs);have HB7:=Lib.hid HS7.out.lo;clear hcs HS7 HP7 HC6 f0 fl g0 gl r1 lr6 HS6
  go_wp2_with (first
   |(go_at_call 34;(with_reducible refine(z1c _ _).mono ?_);rintro e w8 ⟨rfl,rfl⟩)
   |(go_at_call 33;(with_reducible refine HSO.out.mono ?_);rintro e w9 ⟨v9,rfl,ho9,hb9⟩;have HO9:=Lib.hid ho9;have HB9:=Lib.hid hb9;clear ho9 hb9))
  go_ret;refine⟨v9,rfl,?_,bl_on HB7.out HB9.out⟩;rw[<-zw3];exact zax HO9.out HB7.out.size
end
end Go.Proofs.YthhppmehhdlmnaaGreatDoor
