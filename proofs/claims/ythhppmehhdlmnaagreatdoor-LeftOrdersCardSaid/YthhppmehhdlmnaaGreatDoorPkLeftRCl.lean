/- Layer 13: the reference's Calls. -/
import Derived.Test.YthhppmehhdlmnaaGreatDoorPkLB
import Derived.Test.YthhppmehhdlmnaaGreatDoorPkLD
import Derived.Test.YthhppmehhdlmnaaGreatDoorPkLeftWalk
import Derived.Test.YthhppmehhdlmnaaGreatDoorPkLA
import Derived.Test.YthhppmehhdlmnaaGreatDoorPkMM
import Derived.Test.YthhppmehhdlmnaaGreatDoorPkWfRN
import Derived.Test.YthhppmehhdlmnaaGreatDoorPkD
import Derived.Laws.OwnMore
import Derived.Deep.RegionWith
import Derived.Deep.CutRange
import Derived.Deep.Cut
set_option maxRecDepth 100000
set_option maxHeartbeats 8000000
namespace Go.Proofs.YthhppmehhdlmnaaGreatDoor
section
open Go.RowKit
theorem run_app13 (w:World)(ty:TypeId)(base base2:Nat)(i:TypeInfo)(hi:Tryz.prog.info? 3=some i)(hz:i.zero=some (.int .i64 0))(h1:i.size=1)(h2:i.bytes=8)(v src:Value)(n m:Nat)(xs ys:List Value)(hown:w.ownsRow base 3 1 v n xs)(hsrc:w.ownsRow base2 3 1 src m ys)(hy:∀u ∈ ys,u.oneCell'=true)(hnm:n+m<=100000)(hbase:base<=w.heap.size) :
  ∃a' c' w',(Builtin.append_ #[29,29] ty #[v,src]).run Tryz.prog w=.ok (.slice a' (n+m) c') w'/\w'.ownsRow base 3 1 (.slice a' (n+m) c') (n+m) (xs++ys)/\w.grownBy w' v.ownBlock/\((Value.slice a' (n+m) c').ownBlock=v.ownBlock∨(Value.slice a' (n+m) c').ownBlock=some w.heap.size):=by
 rcases hsrc.2 with⟨rfl,h0⟩|⟨g,cap,cur,rfl,-⟩
 ·obtain rfl:m=0:=h0
  obtain rfl:ys=[]:=List.length_eq_zero_iff.1 (by rw[hsrc.1,Nat.zero_mul]);obtain⟨a',c',rfl⟩:=zad hown;exact⟨a',c',w,run_append_owned_none w base 29 ty 3 i 1 Tryz.underlying29 hi _ _ _ hown,by rw[List.append_nil];exact hown,⟨rfl,rfl,rfl,Nat.le_refl _,fun _ _ _=>rfl⟩,.inl rfl⟩
 ·obtain⟨v',w',hr,h3,h4,-,h5⟩:=run_append_own_at (P:=Tryz.prog) w base 29 ty 3 i (.int .i64 0) 1 8 Tryz.underlying29 hi hz h1 h2 rfl (by decide) v n xs hown ⟨g,0,none⟩ m cap ys hsrc.1 (fun j u hu=>by
   exact hsrc.cells rfl j u hu) hy (by unfold maxLen;omega) (by omega) hbase
  obtain⟨a',c',rfl⟩:=zad h3;exact⟨a',c',w',hr,h3,h4,h5⟩
theorem step_app13 {ops:Array Oper}{o:Oper}{a:Act}{w:World}{K:Act->World->Prop}{Q:Exit->Act->World->Prop}{E:Prop}(hgd:o.guard=none)(s x:Operand)
  (ho:o.op=.call { callee:=.builtin .append,args:=#[s,x],argTypes:=#[29,29] })
  (base base2:Nat) (i:TypeInfo) (hi:Tryz.prog.info? 3=some i) (hz:i.zero=some (.int .i64 0)) (h1:i.size=1) (h2:i.bytes=8) (v src:Value) (n m:Nat) (xs ys:List Value) (hs:a.eval s=v) (hx:a.eval x=src) (hown:w.ownsRow base 3 1 v n xs) (hsrc:w.ownsRow base2 3 1 src m ys) (hy:∀u ∈ ys,u.oneCell'=true) (hnm:n+m<=100000) (hbase:base<=w.heap.size)
  (h:∀a' cap' w',w'.ownsRow base 3 1 (.slice a' (n+m) cap') (n+m) (xs++ys)->w.grownBy w' v.ownBlock->((Value.slice a' (n+m) cap').ownBlock=v.ownBlock∨(Value.slice a' (n+m) cap').ownBlock=some w.heap.size)->K (a.put o.dst (.slice a' (n+m) cap')) w') :
  if Region.wanted o (yielded ops a.tmps)=true then Oper.wp Tryz.prog o a w K Q else E:=by
 have hw:Region.wanted o (yielded ops a.tmps)=true:=by simp[Region.wanted,hgd]
 rw[if_pos hw];obtain⟨a',cap',w',hr,h2,h3,h5⟩:=run_app13 w o.type base base2 i hi hz h1 h2 v src n m xs ys hown hsrc hy hnm hbase;unfold Oper.wp execOp;simp only[ho,resolve,invoke,builtin,Sem.run_bind,Sem.run_pure,Result.andThen_ok,List.map_toArray,List.map_cons,List.map_nil,hs,hx,hr];exact h a' cap' w' h2 h3 h5
theorem natsV_two (l m:List Nat):natsV (l++m)=natsV l++natsV m:=by unfold natsV intsV;rw[List.map_append,List.map_append]
structure CwS (w:World) (rv nv:Value) (n:Nat) (m:Nat->Bool) (vl:Value) (sn:List Nat) (W:World):Prop where
 lo:Below w.heap.size w W
 g:Bl W w.heap.size 25 #[rv,nv]
 b:BolAt m n (w.heap.size+2) W
 o:W.ownsRow w.heap.size 3 1 vl sn.length (natsV sn)
section
variable {w W W1 W':World} {rv nv vl v5:Value} {n:Nat} {m:Nat->Bool} {sn l:List Nat}
theorem CwS.below (h:CwS w rv nv n m vl sn W)(hb:Below W.heap.size W W'):CwS w rv nv n m vl sn W':=
 ⟨h.lo.trans (hb.mono h.lo.size),h.g.below hb,h.b.below hb,zaa h.o hb⟩
theorem CwS.app (h:CwS w rv nv n m vl sn W)(hb:Below W.heap.size W W1)(ho:W'.ownsRow w.heap.size 3 1 v5 (sn.length+l.length) (natsV sn++natsV l))(hg:W1.grownBy W' vl.ownBlock):CwS w rv nv n m v5 (sn++l) W':=by
 refine⟨(h.lo.trans (hb.mono h.lo.size)).grown hg (Nat.le_trans h.lo.size hb.size) (fun g e=>(h.o.lt g e).1),?_,h.b |>.below hb |> fun hB=>?_,by rw[List.length_append,natsV_two];exact ho⟩
 ·exact(h.g.below hb).grown hg (fun g e=>by obtain⟨c,fz,hc⟩:=Lib.ownsRow_kind (zaa h.o hb) g e;exact⟨c,3,fz,hc,by decide⟩)
 ·obtain⟨cs,h1,h2⟩:=hB
  exact⟨cs,h1.grown hg (fun g e=>by obtain⟨c,fz,hc⟩:=Lib.ownsRow_kind (zaa h.o hb) g e;exact⟨c,3,fz,hc,by decide⟩),h2⟩
theorem CwS.put {k:Nat}(h:CwS w rv nv n m vl sn W)(hk:k<n):CwS w rv nv n (ins m k) vl sn (W.setCell ⟨w.heap.size+2,k,none⟩ (.bool true)):=by
 obtain⟨h1,h2,h3,h4⟩:=h;obtain⟨cs,hB,-⟩:=id h3;exact⟨h1.setCell (p:=⟨w.heap.size+2,k,none⟩) (by show _<=w.heap.size+2;omega) _,h2.other (h2.ne hB (by decide)) _,h3.put hk,ownsRow_setCell_other h4 (a:=⟨w.heap.size+2,k,none⟩) (za9 h4 ⟨_,_,hB⟩ (by decide)) _⟩
end
def MkI (cl:Nat->Option Nat)(m:Nat->Bool)(sn:List Nat)(k:Nat):Prop:=∀x,m x=true↔∃t y,t<k/\sn[t]?=some y/\cl y=some x
theorem MkI.call {cl:Nat->Option Nat}{m:Nat->Bool}{sn:List Nat}{k y x:Nat}(h:MkI cl m sn k)(hy:sn[k]?=some y)(hx:cl y=some x):MkI cl (ins m x) sn (k+1):=fun z=>by
 constructor
 ·intro g
  rcases zfk g with g|rfl
  ·obtain⟨t,y',a,b,c⟩:=(h z).1 g
   exact⟨t,y',by omega,b,c⟩
  ·exact⟨k,y,by omega,hy,hx⟩
 ·rintro⟨t,y',a,b,c⟩
  rcases Nat.lt_or_ge t k with e|e
  ·exact zby ((h z).2 ⟨t,y',e,b,c⟩)
  ·obtain rfl:t=k:=by omega
   rw[hy] at b;cases b;rw[hx] at c;cases c;exact zcf m _
theorem MkI.none {cl:Nat->Option Nat}{m:Nat->Bool}{sn l:List Nat}{k y:Nat}(h:MkI cl m sn k)(hy:sn[k]?=some y)(hx:cl y=none):MkI cl m (sn++l) (k+1):=fun z=>by
 have hkl:=(List.getElem?_eq_some_iff.1 hy).1;rw[h z];constructor
 ·rintro⟨t,y',a,b,c⟩
  exact⟨t,y',by omega,by rw[List.getElem?_append_left (by omega)];exact b,c⟩
 ·rintro⟨t,y',a,b,c⟩
  rw[List.getElem?_append_left (by omega)] at b;rcases Nat.lt_or_ge t k with e|e
  ·exact⟨t,y',e,b,c⟩
  ·obtain rfl:t=k:=by omega
   rw[hy] at b;cases b;rw[hx] at c;cases c
theorem MkI.over {rs:List PR}{ns:List PN}{m:Nat->Bool}{sn:List Nat}{k r q:Nat}(h:MkI (clW ns) m sn k)(hk:sn.length<=k)(hW:WkG (ndC (needW rs ns (lfp rs ns)) (clW ns)) q sn k)(hq:(rootF rs (r:Int)).toNat=q):memb m rs.length=zai rs ns r:=by
 unfold memb zai;refine List.filter_congr fun x _=>?_
 rw[Bool.eq_iff_iff,zwx,hq,LcG.iff,h x];constructor
 ·rintro⟨t,y,-,b,c⟩
  exact⟨y,(hW.over hk y).1 (List.mem_of_getElem? b),c⟩
 ·rintro⟨c,a,b⟩
  obtain⟨t,ht,e⟩:=List.mem_iff_getElem.1 ((hW.over hk c).2 a);exact⟨t,c,by omega,by rw[List.getElem?_eq_getElem ht,e],b⟩
theorem need_vals {rs:List PR}{ns:List PN}{k:Nat}{n:PN}(hO:FlowOk rs ns)(hn:ns[k]?=some n):intsV (needN rs (lfp rs ns) n)=natsV (needW rs ns (lfp rs ns) k)/\(needN rs (lfp rs ns) n).length=(needW rs ns (lfp rs ns) k).length:=by
 obtain⟨-,hl,hr⟩:=zgn hO hn;refine⟨?_,hl.symm⟩;unfold natsV;congr 1;apply List.ext_getElem?;intro t;rw[List.getElem?_map];cases hx:(needN rs (lfp rs ns) n)[t]? with
 |none=>
  rw[List.getElem?_eq_none_iff] at hx;rw[List.getElem?_eq_none (by omega)];rfl
 |some x=>
  obtain⟨i,rfl,-,hi⟩:=hr t x hx;rw[hi];rfl
theorem rcalls13_any (rv nv:Value)(rs:List PR)(ns:List PN)(r:Nat)(w:World)(hR:RulesIn w rv rs)(hN:NodesAt w nv ns)(hO:LeftOk rs ns)(hr:r<rs.length) :
  Calls Tryz.prog 12 #[.agg #[rv,nv],.int .i64 (r:Int)] w (zb5 (zai rs ns r) w):=by
 obtain⟨x,hx⟩:∃x,rs[r]?=some x:=⟨_,List.getElem?_eq_getElem hr⟩;obtain⟨hx0,hx1⟩:=hO.root hx;obtain⟨q,hq⟩:∃q:Nat,x.root=(q:Int):=⟨x.root.toNat,by omega⟩;have hrl:=hO.rl;have hnl:=hO.flow.nl;have hqn:q<ns.length:=by omega
 have hroot:(rootF rs (r:Int)).toNat=q:=by rw[zcn hx,hq];rfl
 have HT:=Lib.hid (zls (rs:=rs) (L:=lfp rs ns) hO.ex);have HROOT:=Lib.hid hroot;have HFL:=Lib.hid hO.flow;obtain⟨ii,hii,hz0,hz1,hz2⟩:=info_parts za3;have HND:=Lib.hid (fun(W:World) (hb:Below w.heap.size w W) (i:Nat) (n:PN) (hn:ns[i]?=some n)=>r12needs_any rv nv rs ns i n W (hR.kept hb (Nat.le_refl _)) (hN.kept hb (Nat.le_refl _)) hO.flow hn);have HNV:=Lib.hid (fun(i:Nat) (n:PN) (hn:ns[i]?=some n)=>need_vals hO.flow hn);have HRO:=Lib.hid (fun(n:PN) (hn:n ∈ ns)=>(hO.flow.ok n hn).root);unfold z3w at HND;obtain⟨-,ra,rc,rfl,hra⟩:=hR;obtain⟨-,na,nc,rfl,hna⟩:=hN;have hnp:0<ns.length:=by omega
 rcases hra with h0|⟨rb,ro,rfl,hca⟩
 ·rw[h0] at hr;exact absurd hr (Nat.not_lt_zero _)
 rcases hna with h0|⟨nb,no,rfl,hcn⟩
 ·rw[h0] at hnp;exact absurd hnp (Nat.lt_irrefl _)
 obtain⟨r0,r1⟩:=hca r x hx;rw[hq] at r1;have lr:=zac r1;have k2:(r:Int)<(rs.length:Int):=by omega
 have hmk:=fun w=>run_make_row' (P:=Tryz.prog) 58 4 (.bool false) 1 Tryz.underlying58 Tryz.infoBool rfl .i64 .i64 rs.length (by omega) (by omega) w
 have HCN:=Lib.hid hcn;clear hO hca hcn r0 hx hx0 hx1 hroot;go_enter Tryz.func12,Tryz.ntmps12
 go_upto_region 3 with fail
 generalize hW:World.alloc (World.alloc (World.alloc w _) _) _=W;have hS:CwS w (.slice (some ⟨rb,ro,none⟩) rs.length rc) (.slice (some ⟨nb,no,none⟩) ns.length nc) rs.length (fun _=>false) (.slice (some ⟨w.heap.size+1,0,none⟩) 1 1) [q] W:=by
  refine⟨by rw[<-hW];exact(zat _ _ _).alloc (by simp;omega) _,?_,⟨madeCells #[.bool false] rs.length,?_,fun j hj=>?_⟩,?_⟩
  ·rw[<-hW];repeat (first|(refine Bl.new' ?_;simp;done)|refine Bl.past ?_)
  ·rw[<-hW];repeat (first|(refine Bl.new' ?_;simp;done)|refine Bl.past ?_)
  ·simp[madeCells,hj,Nat.mod_one]
  ·rw[<-hW]
   have h:=own_lit1 (w.alloc (.cells #[.slice (some ⟨rb,ro,none⟩) rs.length rc,.slice (some ⟨nb,no,none⟩) ns.length nc] 25)) w.heap.size (q:Int) (by simp);simp only[World.size_alloc] at h;exact zaa h (zab _ _)
 have hk0:MkI (clW ns) (fun _=>false) [q] 0:=fun x=>⟨fun h=>(by cases h),fun⟨_,_,h,_⟩=>absurd h (Nat.not_lt_zero _)⟩
 have HS:=Lib.hid hS;clear hS hW;go_wp2
 go_loopw [7,5] (fun c v wr=>∃(k:Nat) (m:Nat->Bool) (sn:List Nat) (a:Option Addr) (c5:Nat),k<=sn.length/\c=.int .i64 (k:Int)/\v=.slice a sn.length c5/\CwS w (.slice (some ⟨rb,ro,none⟩) rs.length rc) (.slice (some ⟨nb,no,none⟩) ns.length nc) rs.length m (.slice a sn.length c5) sn wr/\WkG (ndC (needW rs ns (lfp rs ns)) (clW ns)) q sn k/\MkI (clW ns) m sn k/\sn.length<=q+1) (fun c _ _=>q+1-(intOf c).toNat)
 case atStart=>exact⟨0,_,[q],_,_,Nat.zero_le _,rfl,rfl,HS.out,WkG.start,hk0,by simp⟩
 case round=>
  obtain⟨k,m,sn,a,c5,hk,rfl,rfl,hs,hwk,hmi,hle⟩:=hrel;by_cases hlt:k<sn.length
  ·have k1:(k:Int)<(sn.length:Int):=by omega
   obtain⟨y,hy⟩:∃y,sn[k]?=some y:=⟨_,List.getElem?_eq_getElem hlt⟩;have hyq:y<=q:=hwk.le y (List.mem_of_getElem? hy);have hyn:y<ns.length:=by omega
   obtain⟨n,hn⟩:∃n,ns[y]?=some n:=⟨_,List.getElem?_eq_getElem hyn⟩;have y1:(y:Int)<(ns.length:Int):=by omega
   have hia:IntsAt wr (.slice a sn.length c5) (sn.map fun k:Nat=>(k:Int)):=IntsAt.of_own (base:=w.heap.size) (by rw[List.length_map];exact hs.o);obtain⟨ab,ao,rfl,rx⟩:=hia.cell (i:=k) (x:=(y:Int)) (by rw[List.getElem?_map,hy];rfl);obtain⟨kv,n0,n1,n2,n3,n4,n5,n6,ni,-⟩:=(HCN.out y n hn).kept hs.lo (Nat.le_refl _);obtain⟨ka,kc,rfl,-⟩:=ni;have g0:wr.cell? ⟨w.heap.size,0,none⟩=some (.slice (some ⟨rb,ro,none⟩) rs.length rc):=hs.g.cell (o:=0) rfl;have g1:wr.cell? ⟨w.heap.size,1,none⟩=some (.slice (some ⟨nb,no,none⟩) ns.length nc):=hs.g.cell (o:=1) rfl;have lg:=hs.g.lt;have lx:=zac rx;have ln:=zac n0;have HSr:=Lib.hid hs;have HWK:=Lib.hid hwk;have HMI:=Lib.hid hmi;have HY:=Lib.hid hy;have HN:=Lib.hid hn;clear hs hwk hmi hy hn hia HS
   go_upto_region 6 with fail
   go_cut [8] from 28 to 36 (fun v wx=>v=.pointer (some ⟨wr.heap.size,0,none⟩)/\Bl wx wr.heap.size 51 #[.int .i64 n.op,.slice ka n.kids.length kc,.int .i64 n.rule,.int .u64 n.s0,.int .u64 n.s1,.int .u64 n.s2,.int .u64 n.s3]/\Below wr.heap.size wr wx)
   case first=>
    go_region_with fail
    all_goals go_wp2_with fail
    all_goals
     go_meet
     case rel=>exact⟨rfl,by repeat (first|(refine Bl.new' ?_;simp;done)|refine Bl.drew ?_|refine Bl.past ?_),by repeat (first|exact Below.refl _ _|refine Below.drew ?_|refine zae ?_ rfl _)⟩
   case rest=>
   obtain⟨rfl,hx2,hb2⟩:=hcut;have HX2:=Lib.hid hx2;have HS2:=Lib.hid (HSr.out.below hb2);have d1:wc.cell? ⟨ab,ao+k,none⟩=some (.int .i64 (y:Int)):=((bcell hb2).1 _ _ lx).trans rx;clear n0 n1 n2 n3 n4 n5 n6 g0 g1 lg lx ln rx hx2 hb2 HSr;have g0:wc.cell? ⟨w.heap.size,0,none⟩=some (.slice (some ⟨rb,ro,none⟩) rs.length rc):=HS2.out.g.cell (o:=0) rfl;have g1:wc.cell? ⟨w.heap.size,1,none⟩=some (.slice (some ⟨nb,no,none⟩) ns.length nc):=HS2.out.g.cell (o:=1) rfl;have lg:=HS2.out.g.lt;have ld:=zac d1;generalize wr.heap.size=R at *;have m0:wc.cell? ⟨R,0,none⟩=some (.int .i64 n.op):=HX2.out.cell (o:=0) rfl;have m2:wc.cell? ⟨R,2,none⟩=some (.int .i64 n.rule):=HX2.out.cell (o:=2) rfl;have lm:=HX2.out.lt;by_cases e2:n.op=2
   ·obtain⟨z,x',hz,hxz,-,-⟩:=HRO.out n (List.mem_of_getElem? HN.out) e2
    have hzl:=(List.getElem?_eq_some_iff.1 hxz).1;have z1:(z:Int)<(rs.length:Int):=by omega
    have hcl:clW ns y=some z:=by rw[zdz HN.out e2,hz];rfl
    have HP:=Lib.hid (HS2.out.put hzl);have HM2:=Lib.hid (HMI.out.call HY.out hcl);have HW2:=Lib.hid (show WkG (ndC (needW rs ns (lfp rs ns)) (clW ns)) q sn (k+1) from by
     have:=HWK.out.step HT.out HY.out;rw[zlr hcl,List.append_nil] at this;exact this)
    have b0:wc.cell? ⟨w.heap.size+1+1,z,none⟩=some (.bool (m z)):=HS2.out.b.cell hzl;have bf:wc.frozen? ⟨w.heap.size+1+1,z,none⟩=false:=HS2.out.b.free z;have lb:=zac b0;rw[e2] at m0;rw[hz] at m2;clear hcl hxz;go_wp2;go_roundw
    case rel=>exact⟨k+1,_,sn,_,_,by omega,by go_num,rfl,HP.out,HW2.out,HM2.out,hle⟩
    case measure=>simp[intOf];omega
   ·have e2':(n.op == 2)=false:=zaj e2
    have hcl:clW ns y=none:=zii HN.out e2;have HW2:=Lib.hid (show WkG (ndC (needW rs ns (lfp rs ns)) (clW ns)) q (sn++needW rs ns (lfp rs ns) y) (k+1) from by
     have:=HWK.out.step HT.out HY.out;rw[zlq hcl] at this;exact this)
    have HM2:=Lib.hid (HMI.out.none (l:=needW rs ns (lfp rs ns) y) HY.out hcl);have HL2:=Lib.hid HW2.out.len;obtain⟨hv1,hv2⟩:=HNV.out y n HN.out;have HNC:=Lib.hid (fun(W:World) (hb:Below w.heap.size w W)=>HND.out W hb y n HN.out);rw[hv1,hv2] at HNC;generalize needW rs ns (lfp rs ns) y=nd at *;clear hcl hv1 hv2 HND HNV m2
    go_upto_region 9 with fail
    go_region_law (first
     |(go_simp;go_at_call 35;(refine(HNC.out _ (HS2.out.lo.trans (Below.mono (by repeat (first|exact Below.refl _ _|refine Below.drew ?_)) HS2.out.lo.size))).mono ?_);rintro e w6 ⟨a6,c6,rfl,ho,hb⟩;have hb6:Below wc.heap.size wc w6:=Below.trans (by repeat (first|exact Below.refl _ _|refine Below.drew ?_)) (hb.mono (by simp));have HS6:=Lib.hid (HS2.out.below hb6);have HO6:=Lib.hid ho;clear ho hb hb6)
     |(refine step_app13 (by rfl) _ _ (by rfl) w.heap.size _ ii hii hz0 hz1 hz2 (.slice (some ⟨ab,ao,none⟩) sn.length c5) (.slice a6 nd.length c6) sn.length nd.length (natsV sn) (natsV nd) (by simp[Act.eval]) (by simp[Act.eval]) HS6.out.o HO6.out (ints_oneCell .i64 _) (by have:=HL2.out;rw[List.length_append] at this;omega) HS6.out.lo.size ?_;intro a7 c7 w7 hown hgrow _;have HS7:=Lib.hid (HS6.out.app (Below.refl _ _) hown hgrow);clear hown hgrow))
    all_goals
     go_wp2;go_roundw
     case rel=>exact⟨k+1,m,sn++nd,a7,c7,by rw[List.length_append];omega,by go_num,by rw[List.length_append],by rw[List.length_append];exact HS7.out,HW2.out,HM2.out,HL2.out⟩
     case measure=>simp[intOf];omega
  ·obtain rfl:k=sn.length:=by omega
   have k1:¬(sn.length:Int)<(sn.length:Int):=by omega
   have HD:=Lib.hid (hmi.over (Nat.le_refl _) hwk HROOT.out);have HB0:=Lib.hid hs.lo;have HM0:=Lib.hid hs.b;clear hs hwk hmi HS HND HNV HRO HT HROOT HFL HCN hk0 r1 hk hle hlt hmk;go_wp2
   go_loopw [10,9] (fun c u wq=>∃k:Nat,k<=rs.length/\c=.int .i64 k/\wq.ownsRow w.heap.size 3 1 u (memb m k).length (natsV (memb m k))/\Below w.heap.size w wq/\BolAt m rs.length (w.heap.size+1+1) wq) (fun c _ _=>rs.length-(intOf c).toNat)
   case atStart=>exact⟨0,Nat.zero_le _,rfl,World.ownsRow_nil _ _ _ _,HB0.out,HM0.out⟩
   case round=>
    obtain⟨k,hk,rfl,ho,hb,hm⟩:=hrel;obtain⟨ua,uc,rfl⟩:=zad ho;by_cases hlt:k<rs.length
    ·have k2:(k:Int)<(rs.length:Int):=by omega
     have c0:=hm.cell hlt;have HB:=Lib.hid hb;have HO:=Lib.hid ho;have HM:=Lib.hid hm;have HS:=Lib.hid (zms m k);have hle:=Lib.hid (zk5 m k);clear ho hb hm;cases hmk:m k with
     |false=>
      rw[hmk] at c0 HS;clear hmk;go_wp2;go_roundw
      case rel=>exact⟨k+1,by omega,by go_num,by rw[HS.out];simpa using HO.out,HB.out,HM.out⟩
      case measure=>simp[intOf];omega
     |true=>
      rw[hmk] at c0 HS;clear hmk
      go_wp2_with (at_builtin;refine wpList_append_own _ rfl _ _ 29 rfl w.heap.size 3 ii _ 1 8 Tryz.underlying29 hii hz0 hz1 hz2 rfl (by decide) _ (memb m k).length _ rfl (zaa HO.out (zab _ _)) ⟨_,0,none⟩ 1 1 [.int .i64 (k:Int)] rfl rfl (zh8 (by simp) _ _) (by simp[Value.oneCell']) (by have:=hle.out;unfold maxLen;omega) (by have:=hle.out;omega) (by have:=HB.out.size;simp;omega) ?_;intro v5 w5 hown' hgrow _;have HO5:=Lib.hid hown';have HB5:=Lib.hid ((HB.out.trans ((zab _ _).mono HB.out.size)).grown hgrow (Nat.le_trans HB.out.size (zab _ _).size) (fun g e=>(HO.out.lt g e).1));have HM5:=Lib.hid ((HM.out.below (zab _ _)).grown HO.out (zab _ _) hgrow);clear hown' hgrow)
      go_roundw
      case rel=>exact⟨k+1,by omega,by go_num,by rw[HS.out];have:=HO5.out;simpa [zjk] using this,HB5.out,HM5.out⟩
      case measure=>simp[intOf];omega
    ·obtain rfl:k=rs.length:=by omega
     have k2:¬(rs.length:Int)<(rs.length:Int):=by omega
     have HO:=Lib.hid ho;have HB:=Lib.hid hb;clear ho hb hm;go_wp2;go_ret;rw[<-HD.out];exact⟨_,rfl,HO.out,HB.out⟩
end
end Go.Proofs.YthhppmehhdlmnaaGreatDoor
