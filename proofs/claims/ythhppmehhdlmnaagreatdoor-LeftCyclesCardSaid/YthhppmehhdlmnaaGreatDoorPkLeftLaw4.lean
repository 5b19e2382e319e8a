/- The law LeftCycles. Written by wip/gen/leftlaws.py. -/
import Derived.Test.YthhppmehhdlmnaaGreatDoorPkLF
import Derived.Test.YthhppmehhdlmnaaGreatDoorPkFlowLaw0
import Derived.Deep.RegionWith
import Derived.Deep.RegionHeld3
import Derived.Deep.Cut
import Derived.Test.YthhppmehhdlmnaaGreatDoorPkLeftRCl
import Derived.Test.YthhppmehhdlmnaaGreatDoorPkHasInt
set_option maxRecDepth 100000
set_option maxHeartbeats 16000000
namespace Go.Proofs.YthhppmehhdlmnaaGreatDoor
open Go.RowKit
theorem last_at13 {l:List Nat}{z:Nat}(h:l[l.length-1]?=some z):lastL l=z:=by unfold lastL;rw[List.getLastD_eq_getLast?,List.getLast?_eq_getElem?,h];rfl
theorem cyg_rch {calls:Nat->List Nat}{r:Nat}{l:List Nat}(h:CyG calls r l):∀x,x ∈ l->RchG calls x x:=by
 obtain⟨h0,h1,h2⟩:=zln.1 h;have hp:=h.pos;have fwd:∀(d i x y:Nat),l[i]?=some x->l[i+d+1]?=some y->RchG calls x y:=by
  intro d
  induction d with
  |zero=>exact fun i x y hx hy=>.one (h1 i x y hx hy)
  |succ d ih=>
   intro i x y hx hy;obtain⟨z,hz⟩:∃z,l[i+d+1]?=some z:=⟨_,List.getElem?_eq_getElem (by have:=(List.getElem?_eq_some_iff.1 hy).1;omega)⟩;exact(ih i x z hx hz).trans (.one (h1 _ z y hz hy))
 obtain⟨z,hz⟩:∃z,l[l.length-1]?=some z:=⟨_,List.getElem?_eq_getElem (by omega)⟩;have hzr:r ∈ calls z:=by rw[last_at13 hz] at h2;exact h2
 intro x hx;obtain⟨j,hj,e⟩:=List.mem_iff_getElem.1 hx;have hxj:l[j]?=some x:=by rw[List.getElem?_eq_getElem hj,e]
 have hxz:x=z∨RchG calls x z:=by
  by_cases e:j=l.length-1
  ·left;rw[<-e,hxj] at hz;exact Option.some.inj hz
  ·right;exact fwd (l.length-1-j-1) j x z hxj (by rw[show j+(l.length-1-j-1)+1=l.length-1 by omega];exact hz)
 have hrx:r=x∨RchG calls r x:=by
  by_cases e:j=0
  ·left;rw[e,h0] at hxj;exact Option.some.inj hxj
  ·right;exact fwd (j-1) 0 r x h0 (by rw[show 0+(j-1)+1=j by omega];exact hxj)
 have h3:RchG calls x r:=hxz.elim (fun e=>e ▸ .one hzr) fun g=>g.trans (.one hzr)
 exact hrx.elim (fun e=>by rw[e] at h3;exact h3) fun g=>h3.trans g
structure CyOk (rs:List PR) (ns:List PN) (I:Nat) (c m:List Nat):Prop where
 len:c.length<=30
 iff:0<c.length↔I ∈ m
 fst:∀x,c[0]?=some x->x=I
 lt:∀(i x:Nat),c[i]?=some x->x<rs.length
 apart:∀(i x:Nat),c[i]?=some x->x ∉ c.take i
 recM:∀(i x:Nat),c[i]?=some x->x ∈ m
 next:∀(i x y:Nat),c[i]?=some x->c[(i+1)%c.length]?=some y->y ∈ zai rs ns x
theorem cy_ok {rs:List PR}{ns:List PN}(hO:LeftOk rs ns){I:Nat}(hI:I<rs.length):CyOk rs ns I (cycW (zai rs ns) I) (recW rs ns):=by
 have hiff:0<(cycW (zai rs ns) I).length↔I ∈ recW rs ns:=by
  unfold recW;rw[List.mem_filter,List.mem_range];unfold recB;rw[decide_eq_true_eq];exact⟨fun h=>⟨hI,h⟩,fun h=>h.2⟩
 have hlen:=z58 (ns:=ns) hI;by_cases hne:cycW (zai rs ns) I=[]
 ·rw[hne] at hiff ⊢
  exact⟨Nat.zero_le _,hiff,fun x h=>by simp at h,fun i x h=>by simp at h,fun i x h=>by simp at h,fun i x h=>by simp at h,fun i x y h=>by simp at h⟩
 ·have hm:=zlo hne
  have hlt:=zxd (ns:=ns) hI;obtain⟨h0,h1,h2⟩:=zln.1 hm.1;have hr:=cyg_rch hm.1;have hsim:∀ {i j x:Nat},(cycW (zai rs ns) I)[i]?=some x->(cycW (zai rs ns) I)[j]?=some x->i=j:=fun hi hj=>hm.1.simple (fun m hm2=>by rcases hm.2 m hm2 with a|⟨a,-⟩<;>omega) hi hj
  have hrl:=hO.rl;refine⟨by omega,hiff,fun x h=>by rw[h0] at h;exact(Option.some.inj h).symm,fun i x h=>hlt x (List.mem_of_getElem? h),fun i x h hx=>?_,fun i x h=>?_,fun i x y hx hy=>?_⟩
  ·obtain⟨j,hj,e⟩:=List.mem_iff_getElem.1 hx
   rw[List.length_take] at hj;rw[List.getElem_take] at e;have:=hsim h (j:=j) (by rw[List.getElem?_eq_getElem (by omega),e]);omega
  ·unfold recW
   exact List.mem_filter.2 ⟨List.mem_range.2 (hlt x (List.mem_of_getElem? h)),zda.2 (hr x (List.mem_of_getElem? h))⟩
  ·have hil:=(List.getElem?_eq_some_iff.1 hx).1
   by_cases e:i+1<(cycW (zai rs ns) I).length
   ·rw[Nat.mod_eq_of_lt e] at hy
    exact h1 i x y hx hy
   ·have e1:i+1=(cycW (zai rs ns) I).length:=by omega
    rw[e1,Nat.mod_self,h0] at hy;cases hy;rw[last_at13 (z:=x) (by rw[<-e1];exact hx)] at h2;exact h2
theorem cycK13 {G lb lo lo2:Nat}{x y:Value}{rv nv:Value}{n0:Nat}{w0 W W':World}(hn:n0<=w0.heap.size)(hb:Below W.heap.size W W')(h:W.cell? ⟨G,0,none⟩=some rv/\W.cell? ⟨G,1,none⟩=some nv/\W.cell? ⟨lb,lo,none⟩=some x/\W.cell? ⟨lb,lo2,none⟩=some y/\Below n0 w0 W):W'.cell? ⟨G,0,none⟩=some rv/\W'.cell? ⟨G,1,none⟩=some nv/\W'.cell? ⟨lb,lo,none⟩=some x/\W'.cell? ⟨lb,lo2,none⟩=some y/\Below n0 w0 W':=by
 obtain⟨h0,h1,h2,h3,h4⟩:=h;have hk:∀ {b o:Nat} {v:Value},W.cell? ⟨b,o,none⟩=some v->W'.cell? ⟨b,o,none⟩=some v:=fun h=>by rw[(bcell hb).1 _ _ (zac h)];exact h
 exact⟨hk h0,hk h1,hk h2,hk h3,h4.trans (hb.mono (Nat.le_trans hn h4.size))⟩
theorem own_cap {w:World}{base n c:Nat}{a:Option Addr}{xs:List Value}(h:w.ownsRow base 3 1 (.slice a n c) n xs):n<=c:=by
 rcases h.2 with⟨e,-⟩|⟨g,cap,cur,e,-,-,hnc,-⟩
 ·injection e with _ e1 e2;omega
 ·injection e with _ e1 e2;omega
theorem memC4 {l:List Nat}{x:Nat}:(x:Int) ∈ (l.map fun k:Nat=>(k:Int))↔x ∈ l:=by
 rw[List.mem_map];constructor
 ·rintro⟨y,hy,e⟩
  obtain rfl:y=x:=by omega
  exact hy
 ·exact fun h=>⟨x,h,rfl⟩
theorem law13_cycles (rv nv:Value)(rs:List PR)(ns:List PN)(k0:Nat)(hk0:k0<=255)(w:World)(hl:SignsAt w)(hR:RulesIn w rv rs)(hN:NodesAt w nv ns)(hC:CapsAt w nv ns.length) :
  Calls Tryz.prog 6 #[.agg #[rv,nv],.int .u8 (k0:Int)] w fun e w'=>e=.returned (.bool true)/\Below w.heap.size w w':=by
 have HS:=Lib.hid (fun(W:World) (hb:Below w.heap.size w W)=>zj3 rv nv rs ns W (hR.kept hb (Nat.le_refl _)) (hN.kept hb (Nat.le_refl _)));have HA:=Lib.hid (fun(W:World) (hb:Below w.heap.size w W)=>ziw W (hl.kept hb (Nat.le_refl _)));obtain⟨na,nc,rfl⟩:∃na nc,nv=.slice na ns.length nc:=by obtain⟨-,na,nc,rfl,-⟩:=hN;exact⟨na,nc,rfl⟩
 cases hsm:(fewB rs ns&&okB (chkL rs ns)) with
 |false=>
  rw[hsm] at HS;obtain⟨-,ra,rc,rfl,-⟩:=hR;clear hsm hN hC hl hk0;go_enter Tryz.func6,Tryz.ntmps6
  go_upto_region 2 with(first
   |(go_at_call 8;(with_reducible refine(HA.out _ (zab w _)).mono ?_);rintro e w2 ⟨rfl,hb⟩;have HW:=Lib.hid (bl_on (zab w _) hb);have b0:=(bcell hb).1 w.heap.size 0 (by simp);have b1:=(bcell hb).1 w.heap.size 1 (by simp);simp at b0 b1;clear hb)
   |(go_at_call 9;(with_reducible refine(HS.out _ HW.out).mono ?_);rintro e w3 ⟨rfl,hb⟩;replace HW:=Lib.hid (bl_on HW.out hb);clear hb b0 b1))
  go_wp2_with (go_at_call 8;(with_reducible refine(HA.out _ HW.out).mono ?_);rintro e w4 ⟨rfl,hb⟩;replace HW:=Lib.hid (bl_on HW.out hb);clear hb)
  go_ret;exact⟨rfl,HW.out⟩
 |true=>
  obtain⟨hO,-⟩:=zr6 hsm;have hrl:=hO.rl;have hnl:=hO.flow.nl;have hkl:k0%rs.length<rs.length:=Nat.mod_lt _ hO.r0;have hr0:=hO.r0;have hrem:(k0:Int).tmod (rs.length:Int)=((k0%rs.length:Nat):Int):=by rw[Int.tmod_eq_emod_of_nonneg (by omega)];first|rfl|exact(Int.natCast_emod _ _).symm|exact(Int.ofNat_emod _ _).symm
  have hmod:(k0:Int)%(rs.length:Int)=((k0%rs.length:Nat):Int):=by first|rfl|exact(Int.natCast_emod _ _).symm|exact(Int.ofNat_emod _ _).symm
  have hk6:(k0:Int)<=255:=by omega
  have hk7:(0:Int)<=(k0:Int):=by omega
  have hNp:(0:Int)<(rs.length:Int):=by omega
  have hNz:((rs.length:Int) == 0)=false:=zaj (by omega);have hNz':¬(rs.length:Int)=0:=by omega
  rw[hsm] at HS;have HCy:=Lib.hid (fun(W:World) (hb:Below w.heap.size w W)=>z1m rv _ rs ns (k0%rs.length) W (hR.kept hb (Nat.le_refl _)) (hN.kept hb (Nat.le_refl _)) (hC.kept hN rfl hb) hO hkl);have HRec:=Lib.hid (fun(W:World) (hb:Below w.heap.size w W)=>(zlu rv _ rs ns W (hR.kept hb (Nat.le_refl _)) (hN.kept hb (Nat.le_refl _)) (hC.kept hN rfl hb) hO).mono fun _ _ h=>row13 h);have HRc:=Lib.hid (fun(W:World) (hb:Below w.heap.size w W) (r:Nat) (hr:r<rs.length)=>(rcalls13_any rv _ rs ns r W (hR.kept hb (Nat.le_refl _)) (hN.kept hb (Nat.le_refl _)) hO hr).mono fun _ _ h=>row13 h);have HOK:=Lib.hid (cy_ok hO hkl);have HLE:=Lib.hid (fun r=>zgo rs ns r);have hrw:=zrq (recB rs ns) rs.length;obtain⟨-,ra,rc,rfl,-⟩:=hR;unfold zb5 at HCy;unfold recW at HRec HOK;generalize hI:k0%rs.length=I at *;have I1:(I:Int)<(rs.length:Int):=by omega
  generalize cycW (zai rs ns) I=l at *;generalize (List.range rs.length).filter (recB rs ns)=m at *;have hll:=HOK.out.len;have hql:(m.map fun k:Nat=>(k:Int)).length<=1000000:=by rw[List.length_map];omega
  clear hsm hN hC hl hO hI;go_enter Tryz.func6,Tryz.ntmps6
  go_upto_region 3 with(first
   |(go_at_call 8;(with_reducible refine(HA.out _ (zab w _)).mono ?_);rintro e w2 ⟨rfl,hb⟩;have HW:=Lib.hid (bl_on (zab w _) hb);have HG:=Lib.hid ((Bl.new w 25 #[.slice ra rs.length rc,.slice na ns.length nc]).below hb);have b0:w2.cell? ⟨w.heap.size,0,none⟩=some (.slice ra rs.length rc):=HG.out.cell (o:=0) rfl;have b1:w2.cell? ⟨w.heap.size,1,none⟩=some (.slice na ns.length nc):=HG.out.cell (o:=1) rfl;have lg:=HG.out.lt;clear hb)
   |(go_at_call 9;(with_reducible refine(HS.out _ HW.out).mono ?_);rintro e w3 ⟨rfl,hb⟩;replace HW:=Lib.hid (bl_on HW.out hb);replace HG:=Lib.hid (HG.out.below hb);have d0:w3.cell? ⟨w.heap.size,0,none⟩=some (.slice ra rs.length rc):=HG.out.cell (o:=0) rfl;have d1:w3.cell? ⟨w.heap.size,1,none⟩=some (.slice na ns.length nc):=HG.out.cell (o:=1) rfl;have lg:=HG.out.lt;clear hb b0 b1))
  clear HS HA
  go_upto_region 6 with(first
   |(go_at_call 15;(with_reducible refine(HCy.out _ HW.out).mono ?_);rintro e w4 ⟨u4,rfl,ho,hb⟩;obtain⟨a4,c4,rfl⟩:=zad ho;have HI4:=Lib.hid (show IntsAt w4 (.slice a4 l.length c4) (l.map fun k:Nat=>(k:Int)) from IntsAt.of_own (base:=w3.heap.size) (by rw[List.length_map];exact ho));have hcap4:=own_cap ho;have HW4:=Lib.hid (bl_on HW.out hb);have HG4:=Lib.hid (HG.out.below hb);clear d0 d1 lg;have d0:w4.cell? ⟨w.heap.size,0,none⟩=some (.slice ra rs.length rc):=HG4.out.cell (o:=0) rfl;have d1:w4.cell? ⟨w.heap.size,1,none⟩=some (.slice na ns.length nc):=HG4.out.cell (o:=1) rfl;have lg:=HG4.out.lt;clear hb ho)
   |(go_at_call 13;(with_reducible refine(HRec.out _ HW4.out).mono ?_);rintro e w5 ⟨a5,c5,rfl,hi,hb⟩;have HM5:=Lib.hid hi;have HI5:=Lib.hid (HI4.out.kept hb (Nat.le_refl _));have HW5:=Lib.hid (bl_on HW4.out hb);have HG5:=Lib.hid (HG4.out.below hb);clear d0 d1 lg;have d0:w5.cell? ⟨w.heap.size,0,none⟩=some (.slice ra rs.length rc):=HG5.out.cell (o:=0) rfl;have d1:w5.cell? ⟨w.heap.size,1,none⟩=some (.slice na ns.length nc):=HG5.out.cell (o:=1) rfl;have lg:=HG5.out.lt;clear hb hi))
  clear HW HG HI4 HW4 HG4 HCy HRec;have hdec:decide ((I:Int) ∈ (m.map fun k:Nat=>(k:Int)))=decide ((0:Int)<(l.length:Int)):=by
   rw[Bool.eq_iff_iff,decide_eq_true_eq,decide_eq_true_eq,memC4,<-HOK.out.iff];omega
  go_upto_region 8 with(go_at_call 22;(with_reducible refine(zp7 _ _ (I:Int) _ _ hql HM5.out hdec).mono ?_);rintro e w6 ⟨rfl,hw⟩;obtain rfl:=hw.symm)
  go_wp2
  go_loopw [8] (fun c wr=>∃t:Nat,t<=l.length/\c=.int .i64 (t:Int)/\Below w5.heap.size w5 wr) (fun c _=>l.length-(intOf c).toNat)
  case atStart=>exact⟨0,Nat.zero_le _,rfl,Below.refl _ _⟩
  case round=>
   obtain⟨t,ht,rfl,hb⟩:=hrel;have HIr:=Lib.hid (HI5.out.kept hb (Nat.le_refl _));have HMr:=Lib.hid (HM5.out.kept hb (Nat.le_refl _));have HWr:=Lib.hid (bl_on HW5.out hb);have HGr:=Lib.hid (HG5.out.below hb);have HB5:=Lib.hid hb;clear d0 d1 lg;have d0:wr.cell? ⟨w.heap.size,0,none⟩=some (.slice ra rs.length rc):=HGr.out.cell (o:=0) rfl;have d1:wr.cell? ⟨w.heap.size,1,none⟩=some (.slice na ns.length nc):=HGr.out.cell (o:=1) rfl;have lg:=HGr.out.lt;clear hb;by_cases htl:t<l.length
   ·have t1:(t:Int)<(l.length:Int):=by omega
    have t0:¬(t:Int)<0:=by omega
    have t3:(t:Int)<=(c4:Int):=by omega
    have t4:¬(c4:Int)<(t:Int):=by omega
    obtain⟨x,hx⟩:∃x,l[t]?=some x:=⟨_,List.getElem?_eq_getElem htl⟩;have hxl:=HOK.out.lt t x hx;have x0:¬(x:Int)<0:=by omega
    have x1:¬(rs.length:Int)<=(x:Int):=by omega
    have x2:(x:Int)<(rs.length:Int):=by omega
    have htk:(l.take t).length=t:=by rw[List.length_take];omega
    have hd1:decide ((x:Int) ∈ ((l.take t).map fun k:Nat=>(k:Int)))=false:=decide_eq_false fun h=>HOK.out.apart t x hx (memC4.1 h)
    have hd2:decide ((x:Int) ∈ (m.map fun k:Nat=>(k:Int)))=true:=decide_eq_true (memC4.2 (HOK.out.recM t x hx));have HH1:=Lib.hid (fun(W:World) (u:Value) (hu:IntsAt W u ((l.take t).map fun k:Nat=>(k:Int)))=>zp7 u _ (x:Int) false W (by rw[List.length_map];omega) hu hd1);have HH2:=Lib.hid (fun(W:World) (hu:IntsAt W (.slice a5 m.length c5) (m.map fun k:Nat=>(k:Int)))=>zp7 _ _ (x:Int) true W hql hu hd2);obtain⟨ab,ao,rfl,rx⟩:=HIr.out.cell (i:=t) (x:=(x:Int)) (by rw[List.getElem?_map,hx];rfl);have hsub:IntsAt wr (.slice (some ⟨ab,ao,none⟩) t c4) ((l.take t).map fun k:Nat=>(k:Int)):=by
     refine⟨_,c4,by rw[List.length_map,htk],.inr ⟨ab,ao,rfl,fun j z hj=>?_⟩⟩;obtain⟨b',o',e,hc⟩:=HIr.out.cell (i:=j) (x:=z) (by
      rw[List.getElem?_map] at hj ⊢;rw[List.getElem?_take] at hj;split at hj
      ·exact hj
      ·cases hj)
     cases e;exact hc
    have HRx:=Lib.hid (fun(W:World) (hb:Below w.heap.size w W)=>HRc.out W hb x hxl);have hJl:(t+1)%l.length<l.length:=Nat.mod_lt _ (by omega);obtain⟨y,hy⟩:∃y,l[(t+1)%l.length]?=some y:=⟨_,List.getElem?_eq_getElem hJl⟩;have hyn:=HOK.out.next t x y hx hy;obtain⟨b',o',e,ry⟩:=HIr.out.cell (i:=(t+1)%l.length) (x:=(y:Int)) (by rw[List.getElem?_map,hy];rfl);cases e;have hjr:(((t+1:Nat):Int)).tmod (l.length:Int)=(((t+1)%l.length:Nat):Int):=by rw[Int.tmod_eq_emod_of_nonneg (by omega)];first|rfl|exact(Int.natCast_emod _ _).symm|exact(Int.ofNat_emod _ _).symm
    have hjw:IntKind.i64.wrap ((t:Int)+1)=((t+1:Nat):Int):=by rw[IntWalk.i64_in _ (by omega)];omega
    have hjz:((l.length:Int) == 0)=false:=zaj (by omega);have hjz':¬(l.length:Int)=0:=by omega
    have hjz3:l≠[]:=by intro e;rw[e] at htl;exact Nat.not_lt_zero _ htl
    have hjz4:¬l.length=0:=by omega
    have hjv:IntKind.i64.wrap (((t+1)%l.length:Nat):Int)=(((t+1)%l.length:Nat):Int):=IntWalk.i64_in _ (by omega);have hjw2:IntKind.i64.wrap ((t:Int)+1)=(t:Int)+1:=hjw;have hjm:(((t+1:Nat):Int))%(l.length:Int)=(((t+1)%l.length:Nat):Int):=by first|rfl|exact(Int.natCast_emod _ _).symm|exact(Int.ofNat_emod _ _).symm
    have hjm2:((t:Int)+1)%(l.length:Int)=(((t+1)%l.length:Nat):Int):=hjm;have hjr2:((t:Int)+1).tmod (l.length:Int)=(((t+1)%l.length:Nat):Int):=hjr;have hle:=HLE.out x;generalize hJ:(t+1)%l.length=J at *;have j1:(J:Int)<(l.length:Int):=by omega
    have hd3:decide ((y:Int) ∈ ((zai rs ns x).map fun k:Nat=>(k:Int)))=true:=decide_eq_true (memC4.2 hyn);generalize zai rs ns x=cx at *;have HH3:=Lib.hid (fun(W:World) (u:Value) (hu:IntsAt W u (cx.map fun k:Nat=>(k:Int)))=>zp7 u _ (y:Int) true W (by rw[List.length_map];omega) hu hd3);obtain⟨G,hG⟩:∃G,G=w.heap.size:=⟨_,rfl⟩;rw[<-hG] at d0 d1;have HGN:=Lib.hid hG;obtain⟨n5,hn5⟩:∃n5,w5.heap.size=n5:=⟨_,rfl⟩;have HN5:=Lib.hid hn5;have hnw5:n5<=w5.heap.size:=Nat.le_of_eq hn5.symm;obtain⟨X,hX⟩:∃X,ao+t=X:=⟨_,rfl⟩;obtain⟨Y,hY⟩:∃Y,ao+J=Y:=⟨_,rfl⟩;rw[hX] at rx;rw[hY] at ry;have hT:(fun V:World=>V.cell? ⟨G,0,none⟩=some (.slice ra rs.length rc)/\V.cell? ⟨ab,X,none⟩=some (.int .i64 (x:Int))/\IntsAt V (.slice (some ⟨ab,ao,none⟩) t c4) ((l.take t).map fun k:Nat=>(k:Int))/\IntsAt V (.slice a5 m.length c5) (m.map fun k:Nat=>(k:Int))/\Below wr.heap.size wr V) wr.drew:=⟨d0,rx,hsub.kept (Below.drew (Below.refl wr.heap.size wr)) (Nat.le_refl _),HMr.out.kept (Below.drew (Below.refl wr.heap.size wr)) (Nat.le_refl _),(Below.refl _ _).drew⟩;dsimp only at hT;have HSW:=Lib.hid (fun(V:World) (h:Below wr.heap.size wr V)=>show V.cell? ⟨G,0,none⟩=some (.slice ra rs.length rc)/\V.cell? ⟨G,1,none⟩=some (.slice na ns.length nc)/\V.cell? ⟨ab,X,none⟩=some (.int .i64 (x:Int))/\V.cell? ⟨ab,Y,none⟩=some (.int .i64 (y:Int))/\Below n5 w5 V from cycK13 hnw5 h ⟨d0,d1,rx,ry,by rw[<-hn5];exact HB5.out⟩);have HWV:=Lib.hid (fun(V:World) (h:Below n5 w5 V)=>show Below w.heap.size w V from bl_on HW5.out (by rw[hn5];exact h));clear hn5 d0 d1 rx ry lg hx hxl hd1 hd2 hd3 hql HIr HMr HGr HWr HRc HOK HLE hrw hle hyn hy hsub hJl htk hJ
    go_upto_region 11 with fail
    rw[<-hG];clear hG
    try rw[hX]
    go_region_held3 (fun V:World=>V.cell? ⟨G,0,none⟩=some (.slice ra rs.length rc)/\V.cell? ⟨ab,X,none⟩=some (.int .i64 (x:Int))/\IntsAt V (.slice (some ⟨ab,ao,none⟩) t c4) ((l.take t).map fun k:Nat=>(k:Int))/\IntsAt V (.slice a5 m.length c5) (m.map fun k:Nat=>(k:Int))/\Below wr.heap.size wr V) (first|exact hT)
     (first
      |(go_at_call 22;with_reducible refine(HH1.out _ _ hT.2.2.1).mono ?_;rintro ev w6 ⟨rfl,rfl⟩)
      |(go_at_call 22;with_reducible refine(HH2.out _ hT.2.2.2.1).mono ?_;rintro ev w7 ⟨rfl,rfl⟩))
    all_goals
     go_upto_region 13 with fail
     have hS:=HSW.out wr.drew.drew (Below.refl _ _).drew.drew
     go_region_held3 (fun V:World=>V.cell? ⟨G,0,none⟩=some (.slice ra rs.length rc)/\V.cell? ⟨G,1,none⟩=some (.slice na ns.length nc)/\V.cell? ⟨ab,X,none⟩=some (.int .i64 (x:Int))/\V.cell? ⟨ab,Y,none⟩=some (.int .i64 (y:Int))/\Below n5 w5 V) (first|exact hS)
      (first
       |(go_at_call 12;with_reducible refine(HRx.out _ (HWV.out _ hS.2.2.2.2)).mono ?_;rintro ev w8 ⟨a8,c8,rfl,hi,hb⟩;have HI8:=Lib.hid hi;replace hS:=cycK13 hnw5 hb hS;clear hb hi)
       |(go_at_call 22;with_reducible refine(HH3.out _ _ HI8.out).mono ?_;rintro ev w9 ⟨rfl,rfl⟩))
     all_goals
      have HBF:=Lib.hid hS.2.2.2.2;clear hS;go_wp2;have hG:=HGN.out;subst hG;go_roundw
      case rel=>exact⟨t+1,by omega,by go_num,by rw[HN5.out];exact HBF.out⟩
      case measure=>simp[intOf];omega
   ·obtain rfl:t=l.length:=by omega
    have t1:¬(l.length:Int)<(l.length:Int):=by omega
    by_cases hl0:l.length=0
    ·have q1:((l.length:Int) == 0)=true:=by rw[hl0];rfl
     clear d0 d1 lg;go_wp2;go_ret;exact⟨rfl,HWr.out⟩
    ·have q1:((l.length:Int) == 0)=false:=zaj (by omega)
     have q2:(0:Int)<(l.length:Int):=by omega
     obtain⟨x,hx⟩:∃x,l[0]?=some x:=⟨_,List.getElem?_eq_getElem (by omega)⟩;obtain rfl:=HOK.out.fst x hx;obtain⟨ab,ao,rfl,rx⟩:=HIr.out.cell (i:=0) (x:=(x:Int)) (by rw[List.getElem?_map,hx];rfl);rw[Nat.add_zero] at rx;have lx:=zac rx;clear d0 d1 lg;go_wp2;go_ret;exact⟨rfl,HWr.out⟩
end Go.Proofs.YthhppmehhdlmnaaGreatDoor
