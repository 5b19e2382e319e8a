/- The reference's Graph and Order; the law LeftOrders. -/
import Derived.Test.YthhppmehhdlmnaaGreatDoorPkLeftRCl
import Derived.Test.YthhppmehhdlmnaaGreatDoorPkLG
import Derived.Test.YthhppmehhdlmnaaGreatDoorPkLFo
import Derived.Test.YthhppmehhdlmnaaGreatDoorPkFlowLaw0
import Derived.Deep.RegionWith
import Derived.Deep.RegionHeld3
import Derived.Deep.Cut
import Derived.Test.YthhppmehhdlmnaaGreatDoorPkHasInt
set_option maxRecDepth 100000
set_option maxHeartbeats 8000000
namespace Go.Proofs.YthhppmehhdlmnaaGreatDoor
section
open Go.RowKit
theorem rhas13_any (u:Value)(l:List Int)(x:Int)(b:Bool)(w:World)(hl:l.length<=1000000)(hu:IntsAt w u l)(hb:decide (x ∈ l)=b) :
  Calls Tryz.prog 38 #[u,.int .i64 x] w fun e w'=>e=.returned (.bool b)/\w'=w:=by
 have HU:=Lib.hid hu;have HB:=Lib.hid hb;obtain⟨a,ca,rfl,-⟩:=hu;clear hb;go_enter Tryz.func38,Tryz.ntmps38;go_wp2
 go_loopw [5] (fun c wr=>∃k:Nat,k<=l.length/\c=.int .i64 (k:Int)/\wr=w/\x ∉ l.take k) (fun c _=>l.length-(intOf c).toNat)
 case atStart=>exact⟨0,Nat.zero_le _,by first|rfl|trivial,by first|rfl|trivial,by simp⟩
 case round=>
  obtain⟨k,hk,rfl,pk,hj⟩:=hrel;obtain rfl:=pk.symm;by_cases kw:k<l.length
  ·have k1:(k:Int)<(l.length:Int):=by omega
   obtain⟨y,hy⟩:∃y,l[k]?=some y:=⟨_,List.getElem?_eq_getElem kw⟩;obtain⟨ob,oo,rfl,ox⟩:=HU.out.cell hy;have lo:=zac ox;have HJ:=Lib.hid hj;have HY:=Lib.hid hy;clear hj hy;by_cases e:y=x
   ·subst e
    have HM:=Lib.hid (List.mem_of_getElem? HY.out);go_wp2;go_ret;exact⟨by rw[<-HB.out,decide_eq_true HM.out];rfl,by first|rfl|trivial⟩
   ·have e':(y == x)=false:=by simpa using e
    have HN:=Lib.hid e;clear e;go_wp2;go_roundw
    case rel=>
     refine⟨k+1,by omega,by go_num,by first|rfl|trivial,?_⟩;rw[List.take_add_one,HY.out,List.mem_append];rintro(h|h)
     ·exact HJ.out h
     ·exact HN.out (by simp at h;exact h.symm)
    case measure=>simp[intOf];omega
  ·obtain rfl:k=l.length:=by omega
   have k1:¬(l.length:Int)<(l.length:Int):=by omega
   rw[List.take_length] at hj;have HN:=Lib.hid hj;clear hj;go_wp2;go_ret;exact⟨by rw[<-HB.out,decide_eq_false HN.out];rfl,by first|rfl|trivial⟩
theorem infoInts13:(Tryz.prog.info? 29).map (fun i=>(i.zero,i.size,i.bytes))=some (some (.slice none 0 0),1,24):=by kernel_rfl
def GRows (cs:Nat->List Nat)(base:Nat)(qs:List Value)(w:World):Prop:=∀(i:Nat) (q:Value),qs[i]?=some q->w.ownsRow base 3 1 q (cs i).length (natsV (cs i))
def GrIs (cs:Nat->List Nat)(N:Nat)(w:World)(e:Ending)(w':World):Prop:=∃(v:Value) (qs:List Value),e=.returned v/\qs.length=N/\w'.ownsRow w.heap.size 29 1 v N qs/\GRows cs w.heap.size qs w'/\Below w.heap.size w w'
theorem GRows.below {cs:Nat->List Nat}{base:Nat}{qs:List Value}{w w':World}(h:GRows cs base qs w)(hb:Below w.heap.size w w'):GRows cs base qs w':=fun i q hq=>zaa (h i q hq) hb
theorem GRows.app {cs:Nat->List Nat}{base k vc:Nat}{va:Option Addr}{qs xs:List Value}{q:Value}{o:Obj}{w4 w5:World}(hQ:GRows cs base qs w4)(hq:qs.length=k)(hV:w4.ownsRow base 29 1 (.slice va k vc) k xs)(h4:w4.ownsRow base 3 1 q (cs k).length (natsV (cs k)))(hg:(w4.alloc o).grownBy w5 (Value.slice va k vc).ownBlock):GRows cs base (qs++[q]) w5:=fun i q' hi=>by
 refine zbi (e':=29) (zaa (W:=w4) ?_ (zab w4 o)) hg (fun g e=>Lib.ownsRow_kind (zaa hV (zab w4 o)) g e) (by decide);rcases Nat.lt_or_ge i qs.length with h|h
 ·rw[List.getElem?_append_left h] at hi
  exact hQ i q' hi
 ·rw[List.getElem?_append_right h] at hi
  cases hj:i-qs.length with
  |zero=>
   rw[hj] at hi;obtain rfl:i=k:=by omega
   cases hi;exact h4
  |succ j=>rw[hj] at hi;simp at hi
theorem bl_app13 {base k vc G:Nat}{va:Option Addr}{xs:List Value}{cs:Array Value}{o:Obj}{w4 w5:World}(hV:w4.ownsRow base 29 1 (.slice va k vc) k xs)(h:Bl w4 G 25 cs)(hg:(w4.alloc o).grownBy w5 (Value.slice va k vc).ownBlock):Bl w5 G 25 cs:=
 (h.past (o:=o)).grown hg (fun g e=>by obtain⟨c,fz,hc⟩:=Lib.ownsRow_kind (zaa hV (zab w4 o)) g e;exact⟨c,29,fz,hc,by decide⟩)
theorem rgraph13_any (rv nv:Value)(rs:List PR)(ns:List PN)(w:World)(hR:RulesIn w rv rs)(hN:NodesAt w nv ns)(hO:LeftOk rs ns) :
  Calls Tryz.prog 17 #[.agg #[rv,nv]] w (GrIs (zai rs ns) rs.length w):=by
 have uk:=hO.rl;obtain⟨ii,pv,pj,oz,oy⟩:=info_parts infoInts13;have HC:=Lib.hid (fun(W:World) (hb:Below w.heap.size w W) (r:Nat) (hr:r<rs.length)=>rcalls13_any rv nv rs ns r W (hR.kept hb (Nat.le_refl _)) (hN.kept hb (Nat.le_refl _)) hO hr);unfold zb5 at HC;obtain⟨-,ra,rc,rfl,-⟩:=hR;obtain⟨-,na,nc,rfl,-⟩:=hN;have HG0:=Lib.hid (Bl.new w 25 #[.slice ra rs.length rc,.slice na ns.length nc]);have ow:=Lib.hid (zab w (.cells #[.slice ra rs.length rc,.slice na ns.length nc] 25));clear hO;go_enter Tryz.func17,Tryz.ntmps17;go_wp2
 go_loopw [4,3] (fun c v wr=>∃(k:Nat) (qs:List Value),k<=rs.length/\qs.length=k/\c=.int .i64 (k:Int)/\wr.ownsRow w.heap.size 29 1 v k qs/\GRows (zai rs ns) w.heap.size qs wr/\Below w.heap.size w wr/\Bl wr w.heap.size 25 #[.slice ra rs.length rc,.slice na ns.length nc]) (fun c _ _=>rs.length-(intOf c).toNat)
 case atStart=>exact⟨0,[],Nat.zero_le _,rfl,rfl,World.ownsRow_nil _ _ _ _,fun i q h=>by simp at h,ow.out,HG0.out⟩
 case round=>
  obtain⟨k,qs,hk,hq,rfl,ho,hg,hb,hG⟩:=hrel;obtain⟨va,vc,rfl⟩:=zad ho;have HO:=Lib.hid ho;have HQ:=Lib.hid hg;have HB:=Lib.hid hb;have HG:=Lib.hid hG;have g0:wr.cell? ⟨w.heap.size,0,none⟩=some (.slice ra rs.length rc):=hG.cell (o:=0) rfl;have g1:wr.cell? ⟨w.heap.size,1,none⟩=some (.slice na ns.length nc):=hG.cell (o:=1) rfl;have lg:=hG.lt;clear ho hg hb hG;by_cases kw:k<rs.length
  ·have k1:(k:Int)<(rs.length:Int):=by omega
   have HCk:=Lib.hid (fun(W:World) (hb:Below w.heap.size w W)=>HC.out W hb k kw)
   go_wp2_with (first
    |(go_at_call 12;(with_reducible refine(HCk.out _ HB.out).mono ?_);rintro e w4 ⟨u4,rfl,ho,hb⟩;obtain⟨a4,c4,rfl⟩:=zad ho;have zx:=Lib.hid (zax ho HB.out.size);have px:=Lib.hid (zaa HO.out hb);have zw:=Lib.hid (HQ.out.below hb);have jk:=Lib.hid (HG.out.below hb);have qw:=Lib.hid (bl_on HB.out hb);clear ho hb)
    |(at_builtin;refine wpList_append_own _ rfl _ _ 33 rfl w.heap.size 29 ii _ 1 24 Tryz.underlying33 pv pj oz oy rfl (by decide) _ k _ rfl (zaa px.out (zab _ _)) ⟨_,0,none⟩ 1 1 [.slice a4 (zai rs ns k).length c4] rfl rfl (zh8 (by simp) _ _) (by simp[Value.oneCell']) (by unfold maxLen;omega) (by omega) (by have:=qw.out.size;simp;omega) ?_;intro v5 w5 ik ij _;have oj:=Lib.hid ik;have zv:=Lib.hid (zw.out.app hq px.out zx.out ij);have qv:=Lib.hid ((zar qw.out).grown ij (zar qw.out).size (fun g e=>(HO.out.lt g e).1));have jj:=Lib.hid (bl_app13 px.out jk.out ij);clear ik ij))
   go_roundw
   case rel=>exact⟨k+1,_,by omega,by rw[List.length_append,hq];rfl,by go_num,oj.out,zv.out,qv.out,jj.out⟩
   case measure=>simp[intOf];omega
  ·obtain rfl:k=rs.length:=by omega
   have k1:¬(rs.length:Int)<(rs.length:Int):=by omega
   go_wp2;go_ret;exact⟨_,qs,rfl,hq,HO.out,HQ.out,HB.out⟩
end
end Go.Proofs.YthhppmehhdlmnaaGreatDoor
set_option maxRecDepth 100000
set_option maxHeartbeats 16000000
namespace Go.Proofs.YthhppmehhdlmnaaGreatDoor
section
open Go.RowKit
theorem memI13 {l:List Nat}{x:Nat}:(x:Int) ∈ (l.map fun k:Nat=>(k:Int))↔x ∈ l:=by
 rw[List.mem_map];constructor
 ·rintro⟨y,hy,e⟩
  obtain rfl:y=x:=by omega
  exact hy
 ·exact fun h=>⟨x,h,rfl⟩
def lenV13:Value->Nat
 |.slice _ n _=>n
 |_=>0
def NxI (cs:Nat->List Nat)(N:Nat)(l:List Nat)(j:Nat)(nx:Int):Prop:=(nx=-1/\∀x,j<=x->¬RdyG cs N l x)∨∃y:Nat,nx=(y:Int)/\j<=y/\RdyG cs N l y/\∀x,j<=x->RdyG cs N l x->y<=x
theorem NxI.start (cs:Nat->List Nat)(N:Nat)(l:List Nat):NxI cs N l N (-1):=.inl ⟨rfl,fun _ hx h=>absurd h.1 (by omega)⟩
theorem NxI.yes {cs:Nat->List Nat}{N:Nat}{l:List Nat}{i:Nat}(h:RdyG cs N l i):NxI cs N l i (i:Int):=.inr ⟨i,rfl,Nat.le_refl _,h,fun _ hx _=>hx⟩
theorem NxI.no {cs:Nat->List Nat}{N:Nat}{l:List Nat}{i:Nat}{nx:Int}(h:NxI cs N l (i+1) nx)(hi:¬RdyG cs N l i):NxI cs N l i nx:=by
 rcases h with⟨e,h⟩|⟨y,e,h1,h2,h3⟩
 ·refine .inl ⟨e,fun x hx hr=>?_⟩
  rcases Nat.eq_or_lt_of_le hx with g|g
  ·subst g;exact hi hr
  ·exact h x g hr
 ·refine .inr ⟨y,e,by omega,h2,fun x hx hr=>?_⟩
  rcases Nat.eq_or_lt_of_le hx with g|g
  ·subst g;exact absurd hr hi
  ·exact h3 x g hr
def rdB (cs:Nat->List Nat)(l:List Nat)(i k:Nat):Bool:=!decide (i ∈ l)&&((cs i).take k).all fun c=>decide (c ∈ l)
theorem rdB_zero (cs:Nat->List Nat)(l:List Nat)(i:Nat):rdB cs l i 0=!decide (i ∈ l):=by unfold rdB;simp
theorem rdB_succ {cs:Nat->List Nat}{l:List Nat}{i k c:Nat}(h:(cs i)[k]?=some c):rdB cs l i (k+1)=(rdB cs l i k&&decide (c ∈ l)):=by
 unfold rdB;rw[List.take_add_one,h,List.all_append,Bool.and_assoc];simp
theorem rdB_all {cs:Nat->List Nat}{N:Nat}{l:List Nat}{i:Nat}(hi:i<N):rdB cs l i (cs i).length=true↔RdyG cs N l i:=by
 unfold rdB RdyG;rw[List.take_length,Bool.and_eq_true,List.all_eq_true];simp[hi]
theorem rorder13_any (rv nv:Value)(rs:List PR)(ns:List PN)(w:World)(hR:RulesIn w rv rs)(hN:NodesAt w nv ns)(hO:LeftOk rs ns) :
  Calls Tryz.prog 21 #[.agg #[rv,nv]] w (z8m (zai rs ns) rs.length w):=by
 have uk:=hO.rl;have hN0:=hO.r0;obtain⟨ii,pv,pj,oz,oy⟩:=info_parts za3;have oq:=Lib.hid (fun r=>zgo rs ns r);have iz:=Lib.hid (fun(W:World) (hb:Below w.heap.size w W)=>rgraph13_any rv nv rs ns W (hR.kept hb (Nat.le_refl _)) (hN.kept hb (Nat.le_refl _)) hO);unfold GrIs at iz;obtain⟨-,ra,rc,rfl,-⟩:=hR;obtain⟨-,na,nc,rfl,-⟩:=hN;have ow:=Lib.hid (zab w (.cells #[.slice ra rs.length rc,.slice na ns.length nc] 25));generalize zai rs ns=cs at *;generalize rs.length=N at *;generalize yw:ns.length=nn at *;clear hO yw;go_enter Tryz.func21,Tryz.ntmps21
 go_upto_region 2 with(go_at_call 17;(with_reducible refine(iz.out _ ow.out).mono ?_);rintro e w1 ⟨v1,qs,rfl,hql,ho,hg,hb⟩;have vk:=Lib.hid ho;have HG1:=Lib.hid hg;have qy:=Lib.hid (bl_on ow.out hb);clear ho hg hb)
 have yv:∃(gb cap:Nat),v1=.slice (some ⟨gb,0,none⟩) N cap:=by
  rcases vk.out.2 with⟨-,h0⟩|⟨g,cap,cur,e,-⟩
  ·omega
  ·exact⟨g,cap,e⟩
 obtain⟨gb,cap,rfl⟩:=yv;have jw:∀(W:World),Below w1.heap.size w1 W->∀i,i<N->∃(a:Option Addr) (c:Nat),W.cell? ⟨gb,i,none⟩=some (.slice a (cs i).length c)/\IntsAt W (.slice a (cs i).length c) ((cs i).map fun k:Nat=>(k:Int)):=fun W hb i hi=>by
  obtain⟨q,hq⟩:∃q,qs[i]?=some q:=⟨_,List.getElem?_eq_getElem (by omega)⟩;have h1:=HG1.out i q hq;obtain⟨a,c,rfl⟩:=zad h1;have h2:=vk.out.cells rfl i _ hq;rw[Addr.add_lit,Nat.zero_add] at h2;exact⟨a,c,by rw[(bcell hb).1 _ _ (zac h2)];exact h2,(IntsAt.of_own (base:=(w.alloc (.cells #[.slice ra N rc,.slice na nn nc] 25)).heap.size) (by rw[List.length_map];exact h1)).kept hb (Nat.le_refl _)⟩
 have zq:=Lib.hid jw;clear jw;go_wp2
 go_loopw [5] (fun v wr=>∃(l:List Nat) (a:Option Addr) (c:Nat),v=.slice a l.length c/\OrdG cs N l/\l.length<=N/\wr.ownsRow w1.heap.size 3 1 (.slice a l.length c) l.length (natsV l)/\Below w1.heap.size w1 wr) (fun v _=>N-lenV13 v)
 case atStart=>exact⟨[],none,0,rfl,OrdG.nil,Nat.zero_le _,World.ownsRow_nil _ _ _ _,Below.refl _ _⟩
 case round=>
  obtain⟨l,la,lc,rfl,jy,yy,ho,hb⟩:=hrel;obtain⟨wo,rfl⟩:∃wo,wo=wr:=⟨_,rfl⟩;have iy:=Lib.hid jy;have HO:=Lib.hid ho;have HB:=Lib.hid hb;have HIA:=Lib.hid (show IntsAt wo (.slice la l.length lc) (l.map fun k:Nat=>(k:Int)) from IntsAt.of_own (base:=w1.heap.size) (by rw[List.length_map];exact ho));have yx:(l.map fun k:Nat=>(k:Int)).length<=1000000:=by rw[List.length_map];omega
  have kv:=Lib.hid (fun(x:Nat) (b:Bool) (hb:decide (x ∈ l)=b)=>rhas13_any (.slice la l.length lc) _ (x:Int) b wo yx HIA.out (by rw[<-hb];exact decide_eq_decide.2 memI13));clear jy ho hb;by_cases kw:l.length<N
  ·have k1:(l.length:Int)<(N:Int):=by omega
   go_upto_region 6 with fail
   go_loopw [7,6] (fun r x wq=>∃(j:Nat) (nx:Int),j<=N/\r=.int .i64 ((j:Int)-1)/\x=.int .i64 nx/\NxI cs N l j nx/\wq=wo) (fun r _ _=>(intOf r+1).toNat)
   case atStart=>exact⟨N,-1,Nat.le_refl _,by first|rfl|go_num,rfl,NxI.start _ _ _,by first|rfl|trivial⟩
   case round=>
    obtain⟨j,nx,hj,rfl,rfl,uq,pk⟩:=hrel;obtain rfl:=pk.symm;have ok:=Lib.hid uq;clear uq;by_cases hj0:0<j
    ·obtain⟨i,rfl⟩:∃i,j=i+1:=⟨j-1,by omega⟩
     have e1:((i+1:Nat):Int)-1=(i:Int):=by omega
     rw[e1];have i0:(0:Int)<=(i:Int):=by omega
     have hi:i<N:=by omega
     have i1:(i:Int)<(N:Int):=by omega
     obtain⟨qa,qc,hc,kx⟩:=zq.out wo HB.out i hi;have lq:=zac hc;have hlq:=oq.out i;have HHi:=Lib.hid (kv.out i _ rfl)
     go_upto_region 9 with(go_at_call 38;(with_reducible refine HHi.out.mono ?_);rintro e w2 ⟨rfl,hw⟩;obtain rfl:=hw.symm)
     go_wp2
     go_loopw [9,8] (fun k rd wz=>∃kk:Nat,kk<=(cs i).length/\k=.int .i64 (kk:Int)/\rd=.bool (rdB cs l i kk)/\wz=wo) (fun k _ _=>(cs i).length-(intOf k).toNat)
     case atStart=>exact⟨0,Nat.zero_le _,by first|rfl|trivial,by rw[rdB_zero],by first|rfl|trivial⟩
     case round=>
      obtain⟨kk,hkk,rfl,rfl,yk⟩:=hrel;obtain rfl:=yk.symm;by_cases pq:kk<(cs i).length
      ·have k2:(kk:Int)<((cs i).length:Int):=by omega
       obtain⟨c,ky⟩:∃c,(cs i)[kk]?=some c:=⟨_,List.getElem?_eq_getElem pq⟩;obtain⟨qb,qo,rfl,qx⟩:=kx.cell (i:=kk) (x:=(c:Int)) (by rw[List.getElem?_map,ky];rfl);have lx:=zac qx;have HS:=Lib.hid (rdB_succ (l:=l) ky);have HHc:=Lib.hid (kv.out c _ rfl);cases iq:rdB cs l i kk with
       |false=>
        rw[iq,Bool.false_and] at HS;clear iq ky kx;go_wp2;go_roundw
        case rel=>exact⟨kk+1,by omega,by go_num,by rw[HS.out],by first|rfl|trivial⟩
        case measure=>simp[intOf]<;>omega
       |true=>
        rw[iq,Bool.true_and] at HS;clear iq ky kx
        go_wp2_with (go_at_call 38;(with_reducible refine HHc.out.mono ?_);rintro e w2 ⟨rfl,hw⟩;obtain rfl:=hw.symm)
        go_roundw
        case rel=>exact⟨kk+1,by omega,by go_num,by rw[HS.out],by first|rfl|trivial⟩
        case measure=>simp[intOf]<;>omega
      ·obtain rfl:kk=(cs i).length:=by omega
       have k2:¬((cs i).length:Int)<((cs i).length:Int):=by omega
       have kz:=Lib.hid (rdB_all (cs:=cs) (l:=l) hi);clear kx;cases iq:rdB cs l i (cs i).length with
       |true=>
        rw[iq] at kz;clear iq;go_wp2;go_roundw
        case rel=>exact⟨i,(i:Int),by omega,by go_num,rfl,NxI.yes (kz.out.1 rfl),by first|rfl|trivial⟩
        case measure=>simp[intOf]<;>omega
       |false=>
        rw[iq] at kz;clear iq;go_wp2;go_roundw
        case rel=>exact⟨i,nx,by omega,by go_num,rfl,ok.out.no (fun h=>by cases kz.out.2 h),by first|rfl|trivial⟩
        case measure=>simp[intOf]<;>omega
    ·obtain rfl:j=0:=by omega
     have e1:((0:Nat):Int)-1=-1:=rfl;rw[e1];have j1:¬(0:Int) <= -1:=by decide
     rcases ok.out with⟨rfl,uv⟩|⟨y,rfl,-,jx,kq⟩
     ·have zy:=Lib.hid uv
      clear uv ok;go_wp2;refine bodyPost_ret (v:=.tuple #[.slice none 0 0,.bool false]) (by simp[results,Tryz.results21,go_sem]) rfl ?_;exact .inr ⟨rfl,⟨l,iy.out,by omega,fun x=>zy.out x (Nat.zero_le _)⟩,bl_on qy.out HB.out⟩
     ·have y0:¬(y:Int)<0:=by omega
      have zk:=Lib.hid (iy.out.snoc jx fun z hz=>kq z (Nat.zero_le _) hz);clear ok jx kq
      go_wp2_with (at_builtin;refine wpList_append_own _ rfl _ _ 29 rfl w1.heap.size 3 ii _ 1 8 Tryz.underlying29 pv pj oz oy rfl (by decide) _ l.length _ rfl (zaa HO.out (zab _ _)) ⟨_,0,none⟩ 1 1 [.int .i64 (y:Int)] rfl rfl (zh8 (by simp) _ _) (by simp[Value.oneCell']) (by unfold maxLen;omega) (by omega) (by have:=HB.out.size;simp;omega) ?_;intro v5 w5 ik ij _;have oj:=Lib.hid ik;have qv:=Lib.hid ((HB.out.trans ((zab _ _).mono HB.out.size)).grown ij (Nat.le_trans HB.out.size (zab _ _).size) (fun g e=>(HO.out.lt g e).1));clear ik ij)
      obtain⟨a5,c5,rfl⟩:=zad oj.out;go_roundw
      case rel=>exact⟨l++[y],a5,c5,by rw[List.length_append];rfl,zk.out,by rw[List.length_append];show l.length+1<=N;omega,by rw[List.length_append,zjk];exact oj.out,qv.out⟩
      case measure=>simp[lenV13];omega
  ·have hlN:l.length=N:=by omega
   have k1:¬(l.length:Int)<(N:Int):=by omega
   go_wp2;refine bodyPost_ret (v:=.tuple #[.slice la l.length lc,.bool true]) (by simp[results,Tryz.results21,go_sem,hlN]) rfl ?_;exact .inl ⟨la,lc,l,rfl,iy.out,hlN,zax HO.out qy.out.size,bl_on qy.out HB.out⟩
end
end Go.Proofs.YthhppmehhdlmnaaGreatDoor
set_option maxRecDepth 100000
set_option maxHeartbeats 16000000
namespace Go.Proofs.YthhppmehhdlmnaaGreatDoor
open Go.RowKit
theorem lord_det (cs:Nat->List Nat)(N:Nat):∃(l:List Nat) (b:Bool),l.length<=N/\(∀i x,l[i]?=some x->x<N/\∀c,c ∈ cs x->c ∈ l.take i)/\∀(w w':World) (e:Ending),z8m cs N w e w'->∃a c,e=.returned (.tuple #[.slice a l.length c,.bool b])/\IntsAt w' (.slice a l.length c) (l.map fun k:Nat=>(k:Int))/\l.length<=c/\Below w.heap.size w w':=by
 by_cases h:∃l,OrdG cs N l/\l.length=N
 ·obtain⟨l,h1,h2⟩:=h
  refine⟨l,true,Nat.le_of_eq h2,fun i x hx=>?_,fun w w' e g=>?_⟩
  ·obtain⟨⟨a,-,c⟩,-⟩:=h1 i x hx
   exact⟨a,c⟩
  ·rcases g with⟨a,c,l',rfl,g1,g2,g3,g4⟩|⟨-,⟨l',g1,g2,g3⟩,-⟩
   ·obtain rfl:l'=l:=g1.unique h1 (g2.trans h2.symm)
    refine⟨a,c,rfl,IntsAt.of_own (base:=w.heap.size) (by rw[List.length_map];exact g3),?_,g4⟩;rcases g3.2 with⟨e,-⟩|⟨g,cap,cur,e,-,-,hnc,-⟩
    ·injection e with _ e1 e2;omega
    ·injection e with _ e1 e2;omega
   ·exact absurd (OrdG.ends h1 g1 h2 g3) (Nat.ne_of_lt g2)
 ·refine⟨[],false,Nat.zero_le _,fun i x hx=>by simp at hx,fun w w' e g=>?_⟩
  rcases g with⟨a,c,l',-,g1,g2,-⟩|⟨rfl,-,g4⟩
  ·exact absurd ⟨l',g1,g2⟩ h
  ·exact⟨none,0,rfl,⟨none,0,rfl,.inl rfl⟩,Nat.le_refl _,g4⟩
theorem ordK13 {G lb lo:Nat}{u x:Value}{rv nv:Value}{l:List Int}{n0:Nat}{w0 W W':World}(hn:n0<=w0.heap.size)(hb:Below W.heap.size W W')(h:W.cell? ⟨G,0,none⟩=some rv/\W.cell? ⟨G,1,none⟩=some nv/\W.cell? ⟨lb,lo,none⟩=some x/\IntsAt W u l/\Below n0 w0 W):W'.cell? ⟨G,0,none⟩=some rv/\W'.cell? ⟨G,1,none⟩=some nv/\W'.cell? ⟨lb,lo,none⟩=some x/\IntsAt W' u l/\Below n0 w0 W':=by
 obtain⟨h0,h1,h2,h3,h4⟩:=h;have hk:∀ {b o:Nat} {v:Value},W.cell? ⟨b,o,none⟩=some v->W'.cell? ⟨b,o,none⟩=some v:=fun h=>by rw[(bcell hb).1 _ _ (zac h)];exact h
 exact⟨hk h0,hk h1,hk h2,h3.kept hb (Nat.le_refl _),h4.trans (hb.mono (Nat.le_trans hn h4.size))⟩
theorem law13_orders (rv nv:Value)(rs:List PR)(ns:List PN)(w:World)(hl:SignsAt w)(hR:RulesIn w rv rs)(hN:NodesAt w nv ns)(hC:CapsAt w nv ns.length) :
  Calls Tryz.prog 4 #[.agg #[rv,nv]] w fun e w'=>e=.returned (.bool true)/\Below w.heap.size w w':=by
 have HS:=Lib.hid (fun(W:World) (hb:Below w.heap.size w W)=>zj3 rv nv rs ns W (hR.kept hb (Nat.le_refl _)) (hN.kept hb (Nat.le_refl _)));have HA:=Lib.hid (fun(W:World) (hb:Below w.heap.size w W)=>ziw W (hl.kept hb (Nat.le_refl _)));obtain⟨na,nc,rfl⟩:∃na nc,nv=.slice na ns.length nc:=by obtain⟨-,na,nc,rfl,-⟩:=hN;exact⟨na,nc,rfl⟩
 cases jv:(fewB rs ns&&okB (chkL rs ns)) with
 |false=>
  rw[jv] at HS;obtain⟨-,ra,rc,rfl,-⟩:=hR;clear jv hN hC hl;go_enter Tryz.func4,Tryz.ntmps4
  go_upto_region 2 with(first
   |(go_at_call 8;(with_reducible refine(HA.out _ (zab w _)).mono ?_);rintro e w2 ⟨rfl,hb⟩;have HW:=Lib.hid (bl_on (zab w _) hb);have b0:=(bcell hb).1 w.heap.size 0 (by simp);have b1:=(bcell hb).1 w.heap.size 1 (by simp);simp at b0 b1;clear hb)
   |(go_at_call 9;(with_reducible refine(HS.out _ HW.out).mono ?_);rintro e w3 ⟨rfl,hb⟩;replace HW:=Lib.hid (bl_on HW.out hb);clear hb b0 b1))
  go_wp2_with (go_at_call 8;(with_reducible refine(HA.out _ HW.out).mono ?_);rintro e w4 ⟨rfl,hb⟩;replace HW:=Lib.hid (bl_on HW.out hb);clear hb)
  go_ret;exact⟨rfl,HW.out⟩
 |true=>
  obtain⟨hO,-⟩:=zr6 jv;have uk:=hO.rl;have hnl:=hO.flow.nl;rw[jv] at HS;obtain⟨l,bo,hlN,iw,ix⟩:=lord_det (zai rs ns) rs.length;have vq:=Lib.hid (fun(W:World) (hb:Below w.heap.size w W)=>(zj0 rv _ rs ns W (hR.kept hb (Nat.le_refl _)) (hN.kept hb (Nat.le_refl _)) (hC.kept hN rfl hb) hO).mono fun e w' h=>ix W w' e h);have vj:=Lib.hid (fun(W:World) (hb:Below w.heap.size w W)=>(rorder13_any rv _ rs ns W (hR.kept hb (Nat.le_refl _)) (hN.kept hb (Nat.le_refl _)) hO).mono fun e w' h=>ix W w' e h);have vz:=Lib.hid (fun(W:World) (hb:Below w.heap.size w W) (r:Nat) (hr:r<rs.length)=>(ze1 rv _ rs ns r W (hR.kept hb (Nat.le_refl _)) (hN.kept hb (Nat.le_refl _)) (hC.kept hN rfl hb) hO hr).mono fun _ _ h=>row13 h);have HP:=Lib.hid iw;have oq:=Lib.hid (fun r=>zgo rs ns r);have vy:=Lib.hid (fun(W:World) (u v:Value) (hu:IntsAt W u (l.map fun k:Nat=>(k:Int))) (hv:IntsAt W v (l.map fun k:Nat=>(k:Int)))=>eqI13 u v _ W (by rw[List.length_map];unfold maxLen;omega) hu hv);obtain⟨-,ra,rc,rfl,-⟩:=hR;clear jv hN hC hl hO ix iw;go_enter Tryz.func4,Tryz.ntmps4
  go_upto_region 3 with(first
   |(go_at_call 8;(with_reducible refine(HA.out _ (zab w _)).mono ?_);rintro e w2 ⟨rfl,hb⟩;have HW:=Lib.hid (bl_on (zab w _) hb);have HG:=Lib.hid ((Bl.new w 25 #[.slice ra rs.length rc,.slice na ns.length nc]).below hb);have b0:w2.cell? ⟨w.heap.size,0,none⟩=some (.slice ra rs.length rc):=HG.out.cell (o:=0) rfl;have b1:w2.cell? ⟨w.heap.size,1,none⟩=some (.slice na ns.length nc):=HG.out.cell (o:=1) rfl;have lg:=HG.out.lt;clear hb)
   |(go_at_call 9;(with_reducible refine(HS.out _ HW.out).mono ?_);rintro e w3 ⟨rfl,hb⟩;replace HW:=Lib.hid (bl_on HW.out hb);replace HG:=Lib.hid (HG.out.below hb);have d0:w3.cell? ⟨w.heap.size,0,none⟩=some (.slice ra rs.length rc):=HG.out.cell (o:=0) rfl;have d1:w3.cell? ⟨w.heap.size,1,none⟩=some (.slice na ns.length nc):=HG.out.cell (o:=1) rfl;have lg:=HG.out.lt;clear hb b0 b1))
  clear HS HA
  go_upto_region 5 with(first
   |(go_at_call 20;(with_reducible refine(vq.out _ HW.out).mono ?_);rintro e w4 ⟨a4,c4,rfl,hi,hcap4,hb⟩;have vx:=Lib.hid hi;have pw:=Lib.hid (bl_on HW.out hb);have jk:=Lib.hid (HG.out.below hb);clear d0 d1 lg;have d0:w4.cell? ⟨w.heap.size,0,none⟩=some (.slice ra rs.length rc):=jk.out.cell (o:=0) rfl;have d1:w4.cell? ⟨w.heap.size,1,none⟩=some (.slice na ns.length nc):=jk.out.cell (o:=1) rfl;have lg:=jk.out.lt;clear hb hi)
   |(go_at_call 21;(with_reducible refine(vj.out _ pw.out).mono ?_);rintro e w5 ⟨a5,c5,rfl,hi,-,hb⟩;have vv:=Lib.hid hi;have pz:=Lib.hid (vx.out.kept hb (Nat.le_refl _));have uy:=Lib.hid (bl_on pw.out hb);have jj:=Lib.hid (jk.out.below hb);clear d0 d1 lg;have d0:w5.cell? ⟨w.heap.size,0,none⟩=some (.slice ra rs.length rc):=jj.out.cell (o:=0) rfl;have d1:w5.cell? ⟨w.heap.size,1,none⟩=some (.slice na ns.length nc):=jj.out.cell (o:=1) rfl;have lg:=jj.out.lt;clear hb hi))
  clear HW HG vx pw jk vq vj;have hne:(bo != bo)=false:=by cases bo<;>rfl
  go_upto_region 7 with(go_at_call 10;(with_reducible refine(vy.out _ _ _ pz.out vv.out).mono ?_);rintro e w6 ⟨rfl,hb⟩;have HI6:=Lib.hid (pz.out.kept hb (Nat.le_refl _));have ux:=Lib.hid (bl_on uy.out hb);have ov:=Lib.hid (jj.out.below hb);clear d0 d1 lg;have d0:w6.cell? ⟨w.heap.size,0,none⟩=some (.slice ra rs.length rc):=ov.out.cell (o:=0) rfl;have d1:w6.cell? ⟨w.heap.size,1,none⟩=some (.slice na ns.length nc):=ov.out.cell (o:=1) rfl;have lg:=ov.out.lt;clear hb)
  clear pz vv uy jj vy d0 d1 lg;go_wp2
  go_loopw [7] (fun c wr=>∃t:Nat,t<=l.length/\c=.int .i64 (t:Int)/\Below w6.heap.size w6 wr) (fun c _=>l.length-(intOf c).toNat)
  case atStart=>exact⟨0,Nat.zero_le _,rfl,Below.refl _ _⟩
  case round=>
   obtain⟨t,ht,rfl,hb⟩:=hrel;obtain⟨wo,rfl⟩:∃wo,wo=wr:=⟨_,rfl⟩;have py:=Lib.hid (HI6.out.kept hb (Nat.le_refl _));have uw:=Lib.hid (bl_on ux.out hb);have iz:=Lib.hid (ov.out.below hb);have HB6:=Lib.hid hb;have d0:wo.cell? ⟨w.heap.size,0,none⟩=some (.slice ra rs.length rc):=iz.out.cell (o:=0) rfl;have d1:wo.cell? ⟨w.heap.size,1,none⟩=some (.slice na ns.length nc):=iz.out.cell (o:=1) rfl;have lg:=iz.out.lt;clear hb;by_cases yq:t<l.length
   ·have t1:(t:Int)<(l.length:Int):=by omega
    have t0:¬(t:Int)<0:=by omega
    have t3:(t:Int)<=(c4:Int):=by omega
    have t4:¬(c4:Int)<(t:Int):=by omega
    obtain⟨x,hx⟩:∃x,l[t]?=some x:=⟨_,List.getElem?_eq_getElem yq⟩;obtain⟨qz,iv⟩:=HP.out t x hx;have uj:(l.take t).length=t:=by rw[List.length_take];omega
    obtain⟨ab,ao,rfl,rx⟩:=py.out.cell (i:=t) (x:=(x:Int)) (by rw[List.getElem?_map,hx];rfl);have jq:IntsAt wo (.slice (some ⟨ab,ao,none⟩) t c4) ((l.take t).map fun k:Nat=>(k:Int)):=by
     refine⟨_,c4,by rw[List.length_map,uj],.inr ⟨ab,ao,rfl,fun j z hj=>?_⟩⟩;obtain⟨b',o',e,hc⟩:=py.out.cell (i:=j) (x:=z) (by
      rw[List.getElem?_map] at hj ⊢;rw[List.getElem?_take] at hj;split at hj
      ·exact hj
      ·cases hj)
     cases e;exact hc
    have HCx:=Lib.hid (fun(W:World) (hb:Below w.heap.size w W)=>vz.out W hb x qz);have yy:=oq.out x;have qj:=Lib.hid (fun(W:World) (u:Value) (y:Nat) (hy:y ∈ zai rs ns x) (hu:IntsAt W u ((l.take t).map fun k:Nat=>(k:Int)))=>zp7 u _ (y:Int) true W (by rw[List.length_map];omega) hu (decide_eq_true (memI13.2 (iv y hy))));generalize zai rs ns x=cx at *;obtain⟨G,hG⟩:∃G,G=w.heap.size:=⟨_,rfl⟩;rw[<-hG] at d0 d1;have HGN:=Lib.hid hG;obtain⟨n6,kj⟩:∃n6,w6.heap.size=n6:=⟨_,rfl⟩;have zz:=Lib.hid kj;have jz:n6<=w6.heap.size:=Nat.le_of_eq kj.symm;obtain⟨X,hX⟩:∃X,ao+t=X:=⟨_,rfl⟩;rw[hX] at rx;have hS:(fun V:World=>V.cell? ⟨G,0,none⟩=some (.slice ra rs.length rc)/\V.cell? ⟨G,1,none⟩=some (.slice na ns.length nc)/\V.cell? ⟨ab,X,none⟩=some (.int .i64 (x:Int))/\IntsAt V (.slice (some ⟨ab,ao,none⟩) t c4) ((l.take t).map fun k:Nat=>(k:Int))/\Below n6 w6 V) wo.drew:=⟨d0,d1,rx,jq.kept (Below.drew (Below.refl wo.heap.size wo)) (Nat.le_refl _),by rw[<-kj];exact HB6.out.drew⟩;dsimp only at hS;have yz:=Lib.hid (fun(V:World) (h:Below n6 w6 V)=>show Below w.heap.size w V from bl_on ux.out (by rw[kj];exact h));clear kj d0 d1 rx lg hx qz iv py iz uw vz HP oq jq uj
    go_upto_region 10 with fail
    rw[<-hG];clear hG
    try rw[hX]
    go_region_held3 (fun V:World=>V.cell? ⟨G,0,none⟩=some (.slice ra rs.length rc)/\V.cell? ⟨G,1,none⟩=some (.slice na ns.length nc)/\V.cell? ⟨ab,X,none⟩=some (.int .i64 (x:Int))/\IntsAt V (.slice (some ⟨ab,ao,none⟩) t c4) ((l.take t).map fun k:Nat=>(k:Int))/\Below n6 w6 V) (first|exact hS)
     (first
      |(go_at_call 11;with_reducible refine(HCx.out _ (yz.out _ hS.2.2.2.2)).mono ?_;rintro ev w7 ⟨a7,c7,rfl,hi,hb⟩;have HI7:=Lib.hid hi;replace hS:=ordK13 jz hb hS;clear hb hi))
    all_goals
     have zj:=Lib.hid hS.2.2.2.1;have yj:=Lib.hid hS.2.2.2.2;clear hS;go_wp2
     go_loopw [9] (fun c wz=>∃k:Nat,k<=cx.length/\c=.int .i64 (k:Int)/\Below w7.heap.size w7 wz) (fun c _=>cx.length-(intOf c).toNat)
     case atStart=>exact⟨0,Nat.zero_le _,rfl,Below.refl _ _⟩
     case round=>
      obtain⟨k,hk,rfl,hb⟩:=hrel;have uz:=Lib.hid (zj.out.kept hb (Nat.le_refl _));have vw:=Lib.hid (HI7.out.kept hb (Nat.le_refl _));have qk:=Lib.hid hb;clear hb;by_cases pq:k<cx.length
      ·have k1:(k:Int)<(cx.length:Int):=by omega
       obtain⟨y,hy⟩:∃y,cx[k]?=some y:=⟨_,List.getElem?_eq_getElem pq⟩;obtain⟨cb,co,rfl,ry⟩:=vw.out.cell (i:=k) (x:=(y:Int)) (by rw[List.getElem?_map,hy];rfl);have HH:=Lib.hid (fun(W:World) (u:Value) (hu:IntsAt W u ((l.take t).map fun k:Nat=>(k:Int)))=>qj.out W u y (List.mem_of_getElem? hy) hu);have hT:(fun V:World=>V.cell? ⟨cb,co+k,none⟩=some (.int .i64 (y:Int))/\IntsAt V (.slice (some ⟨ab,ao,none⟩) t c4) ((l.take t).map fun k:Nat=>(k:Int))/\Below w7.heap.size w7 V) wr.drew:=⟨ry,uz.out.kept (Below.drew (Below.refl wr.heap.size wr)) (Nat.le_refl _),qk.out.drew⟩;dsimp only at hT;clear hy ry uz vw qk
       go_upto_region 14 with fail
       go_region_held3 (fun V:World=>V.cell? ⟨cb,co+k,none⟩=some (.int .i64 (y:Int))/\IntsAt V (.slice (some ⟨ab,ao,none⟩) t c4) ((l.take t).map fun k:Nat=>(k:Int))/\Below w7.heap.size w7 V) (first|exact hT)
        (first
         |(go_at_call 22;with_reducible refine(HH.out _ _ hT.2.1).mono ?_;rintro ev w8 ⟨rfl,rfl⟩))
       all_goals
        have qq:=Lib.hid hT.2.2;clear hT;go_wp2;go_roundw
        case rel=>exact⟨k+1,by omega,by go_num,qq.out⟩
        case measure=>simp[intOf];omega
      ·obtain rfl:k=cx.length:=by omega
       have k1:¬(cx.length:Int)<(cx.length:Int):=by omega
       have qq:=Lib.hid (yj.out.trans (qk.out.mono (Nat.le_trans jz yj.out.size)));go_wp2;have hG:=HGN.out;subst hG;go_roundw
       case rel=>exact⟨_,.int .i64 ((t:Int)+1),⟨t+1,by omega,by go_num,by rw[zz.out];exact qq.out⟩,rfl,rfl,rfl⟩
       case measure=>first|(simp[intOf];done)|(simp[intOf];omega)
   ·obtain rfl:t=l.length:=by omega
    have t1:¬(l.length:Int)<(l.length:Int):=by omega
    go_wp2;go_ret;exact⟨rfl,uw.out⟩
end Go.Proofs.YthhppmehhdlmnaaGreatDoor
