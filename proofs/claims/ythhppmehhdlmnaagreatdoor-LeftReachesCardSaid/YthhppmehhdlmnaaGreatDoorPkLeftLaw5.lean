/- The law LeftReaches. Written by wip/gen/leftlaws.py. -/
import Derived.Deep.RegionWith
import Derived.Deep.RegionHeld3
import Derived.Deep.Cut
import Derived.Test.YthhppmehhdlmnaaGreatDoorPkMM
import Derived.Test.YthhppmehhdlmnaaGreatDoorPkLA
import Derived.Test.YthhppmehhdlmnaaGreatDoorPkFlowLaw0
import Derived.Test.YthhppmehhdlmnaaGreatDoorPkLF
import Derived.Test.YthhppmehhdlmnaaGreatDoorPkHasInt
set_option maxRecDepth 100000
set_option maxHeartbeats 16000000
namespace Go.Proofs.YthhppmehhdlmnaaGreatDoor
open Go.RowKit
theorem zp8 {rs:List PR}{ns:List PN}{x z:Nat}:z ∈ ze8 rs ns (x:Int)↔x<rs.length/\z<rs.length/\Rch (callE rs ns) x z:=by
 unfold ze8;by_cases h:x<rs.length
 ·rw[if_pos ⟨by omega,by omega⟩,zqz]
  unfold rchB;simp[h]
 ·rw[if_neg (by omega)]
  simp[h]
theorem z4c {rs:List PR}{ns:List PN}(h:LeftOk rs ns){r x:Nat}(hr:r<rs.length)(hx:x ∈ zai rs ns r):callE rs ns r x:=by
 obtain⟨y,hy⟩:∃y,rs[r]?=some y:=⟨_,List.getElem?_eq_getElem hr⟩;have h0:=h.root hy;have h1:=z51 h.ord h.flow.ok ((zgp h.flow.ok).1 hx);rw[zcn hy] at h1;have h2:=z1e h.ord hy;rw[show((y.root.toNat:Nat):Int)=y.root by omega,h2] at h1;exact h1
theorem ziz {rs:List PR}{ns:List PN}{a b:Nat}(h:callE rs ns a b):0<(zco ns (b:Int)).length:=by
 obtain⟨i,n,h1,h2,-,h4⟩:=h;refine List.length_pos_of_mem (a:=i) ?_;unfold zco;rw[zqz];refine⟨(List.getElem?_eq_some_iff.1 h1).1,?_⟩;rw[zmv h1,decide_eq_true h2,decide_eq_true h4];rfl
theorem zsm {calls:Nat->List Nat}{a b:Nat}(h:RchG calls a b):∃c,(c=a∨RchG calls a c)/\b ∈ calls c:=by
 induction h with
 |one h=>exact⟨_,.inl rfl,h⟩
 |more h _ ih=>
  obtain⟨c,e,f⟩:=ih;exact⟨c,.inr (e.elim (fun e=>e ▸ .one h) fun e=>.more h e),f⟩
theorem zzg {rs:List PR}{ns:List PN}(hO:LeftOk rs ns){r:Nat}(h:r ∈ recW rs ns):0<(zai rs ns r).length/\0<(zco ns (r:Int)).length:=by
 obtain⟨h1,h2⟩:=List.mem_filter.1 h;have h3:=zda.1 h2;have hr:=List.mem_range.1 h1;constructor
 ·cases h3 with
  |one g=>exact List.length_pos_of_mem g
  |more g _=>exact List.length_pos_of_mem g
 ·obtain⟨c,hc,hm⟩:=zsm h3
  have hcl:c<rs.length:=by
   rcases hc with rfl|hc
   ·exact hr
   ·obtain⟨d,-,hd⟩:=zsm hc
    exact zdr hd
  exact ziz (z4c hO hcl hm)
theorem memC {l:List Nat}{x:Nat}:(x:Int) ∈ (l.map fun k:Nat=>(k:Int))↔x ∈ l:=by
 rw[List.mem_map];constructor
 ·rintro⟨y,hy,e⟩
  obtain rfl:y=x:=by omega
  exact hy
 ·exact fun h=>⟨x,h,rfl⟩
theorem z3d {G lb lo:Nat}{u x:Value}{rv nv:Value}{l:List Int}{n0:Nat}{w0 W W':World}(hn:n0<=w0.heap.size)(hb:Below W.heap.size W W')(h:W.cell? ⟨G,0,none⟩=some rv/\W.cell? ⟨G,1,none⟩=some nv/\W.cell? ⟨lb,lo,none⟩=some x/\IntsAt W u l/\Below n0 w0 W):W'.cell? ⟨G,0,none⟩=some rv/\W'.cell? ⟨G,1,none⟩=some nv/\W'.cell? ⟨lb,lo,none⟩=some x/\IntsAt W' u l/\Below n0 w0 W':=by
 obtain⟨h0,h1,h2,h3,h4⟩:=h;have hk:∀ {b o:Nat} {v:Value},W.cell? ⟨b,o,none⟩=some v->W'.cell? ⟨b,o,none⟩=some v:=fun h=>by rw[(bcell hb).1 _ _ (zac h)];exact h
 exact⟨hk h0,hk h1,hk h2,h3.kept hb (Nat.le_refl _),h4.trans (hb.mono (Nat.le_trans hn h4.size))⟩
theorem zmf (rv nv:Value)(rs:List PR)(ns:List PN)(k0:Nat)(hk0:k0<=255)(w:World)(hl:SignsAt w)(hR:RulesIn w rv rs)(hN:NodesAt w nv ns)(hC:CapsAt w nv ns.length)(hcap:∀a n cap,nv=.slice a n cap->n<=cap) :
  Calls Tryz.prog 7 #[.agg #[rv,nv],.int .u8 (k0:Int)] w fun e w'=>e=.returned (.bool true)/\Below w.heap.size w w':=by
 have HS:=Lib.hid (fun(W:World) (hb:Below w.heap.size w W)=>zj3 rv nv rs ns W (hR.kept hb (Nat.le_refl _)) (hN.kept hb (Nat.le_refl _)));have HA:=Lib.hid (fun(W:World) (hb:Below w.heap.size w W)=>ziw W (hl.kept hb (Nat.le_refl _)));obtain⟨na,nc,rfl⟩:∃na nc,nv=.slice na ns.length nc:=by obtain⟨-,na,nc,rfl,-⟩:=hN;exact⟨na,nc,rfl⟩
 cases hsm:(fewB rs ns&&okB (chkL rs ns)) with
 |false=>
  rw[hsm] at HS;obtain⟨-,ra,rc,rfl,-⟩:=hR;clear hsm hN hC hl hk0 hcap;go_enter Tryz.func7,Tryz.ntmps7
  go_upto_region 2 with(first
   |(go_at_call 8;(with_reducible refine(HA.out _ (zab w _)).mono ?_);rintro e w2 ⟨rfl,hb⟩;have HW:=Lib.hid (bl_on (zab w _) hb);have b0:=(bcell hb).1 w.heap.size 0 (by simp);have b1:=(bcell hb).1 w.heap.size 1 (by simp);simp at b0 b1;clear hb)
   |(go_at_call 9;(with_reducible refine(HS.out _ HW.out).mono ?_);rintro e w3 ⟨rfl,hb⟩;replace HW:=Lib.hid (bl_on HW.out hb);clear hb b0 b1))
  go_wp2_with (go_at_call 8;(with_reducible refine(HA.out _ HW.out).mono ?_);rintro e w4 ⟨rfl,hb⟩;replace HW:=Lib.hid (bl_on HW.out hb);clear hb)
  go_ret;exact⟨rfl,HW.out⟩
 |true=>
  obtain⟨hO,-⟩:=zr6 hsm;have hrl:=hO.rl;have hnl:=hO.flow.nl;have hkl:k0%rs.length<rs.length:=Nat.mod_lt _ hO.r0;have hr0:=hO.r0;have hrem:(k0:Int).tmod (rs.length:Int)=((k0%rs.length:Nat):Int):=by rw[Int.tmod_eq_emod_of_nonneg (by omega)];first|rfl|exact(Int.natCast_emod _ _).symm|exact(Int.ofNat_emod _ _).symm
  have hmod:(k0:Int)%(rs.length:Int)=((k0%rs.length:Nat):Int):=by first|rfl|exact(Int.natCast_emod _ _).symm|exact(Int.ofNat_emod _ _).symm
  have hk6:(k0:Int)<=255:=by omega
  have hk7:(0:Int)<=(k0:Int):=by omega
  have hNp:(0:Int)<(rs.length:Int):=by omega
  have hNz:((rs.length:Int) == 0)=false:=zaj (by omega);have hNz':¬(rs.length:Int)=0:=by omega
  rw[hsm] at HS;have HCl:=Lib.hid (fun(W:World) (hb:Below w.heap.size w W)=>(ze1 rv _ rs ns (k0%rs.length) W (hR.kept hb (Nat.le_refl _)) (hN.kept hb (Nat.le_refl _)) (hC.kept hN rfl hb) hO hkl).mono fun _ _ h=>row13 h);have HRch:=Lib.hid (fun(W:World) (hb:Below w.heap.size w W)=>(zv8 rv na nc rs ns ((k0%rs.length:Nat):Int) W (hR.kept hb (Nat.le_refl _)) (hN.kept hb (Nat.le_refl _)) (by omega) (by omega) (hcap _ _ _ rfl) hO.ord (fun i n hn h2=>by
   obtain⟨r,x,e1,e2,-⟩:=(hO.flow.ok n (List.mem_of_getElem? hn)).root h2;have:=(List.getElem?_eq_some_iff.1 e2).1;omega)).mono fun _ _ h=>row13 h)
  have HRec:=Lib.hid (fun(W:World) (hb:Below w.heap.size w W)=>(zlu rv _ rs ns W (hR.kept hb (Nat.le_refl _)) (hN.kept hb (Nat.le_refl _)) (hC.kept hN rfl hb) hO).mono fun _ _ h=>row13 h);have HCr:=Lib.hid (fun(W:World) (hb:Below w.heap.size w W) (r:Nat)=>show Calls Tryz.prog 27 #[.agg #[rv,.slice na ns.length nc],.int .i64 (r:Int)] W (fun e w'=>∃a c,e=.returned (.slice a (zco ns (r:Int)).length c)/\IntsAt w' (.slice a (zco ns (r:Int)).length c) ((zco ns (r:Int)).map fun k:Nat=>(k:Int))/\Below W.heap.size W w') from by
   obtain⟨-,ra,rc,rfl,-⟩:=id hR;exact(zox ra rs.length rc _ ns (r:Int) W (hN.kept hb (Nat.le_refl _)) (by omega)).mono fun _ _ h=>row13 h)
  have HED:=Lib.hid (fun x (hx:x ∈ zai rs ns (k0%rs.length))=>z4c hO hkl hx);have HMR:=Lib.hid (fun x (hx:x ∈ zai rs ns (k0%rs.length))=>(zp8 (rs:=rs) (ns:=ns)).2 ⟨hkl,zdr hx,.call .here (HED.out x hx)⟩);have HCP:=Lib.hid (fun x (hx:x ∈ zai rs ns (k0%rs.length))=>ziz (HED.out x hx));have HRE:=Lib.hid (fun(h:k0%rs.length ∈ recW rs ns)=>zzg hO h);have hll:=zgo rs ns (k0%rs.length);have hrw:=zrq (recB rs ns) rs.length;have hrlen:(ze8 rs ns ((k0%rs.length:Nat):Int)).length<=rs.length:=by
   unfold ze8;split
   ·exact zk5 _ _
   ·exact Nat.zero_le _
  obtain⟨-,ra,rc,rfl,-⟩:=hR;unfold recW at HRec HRE;generalize hI:k0%rs.length=I at *;have I1:(I:Int)<(rs.length:Int):=by omega
  generalize zai rs ns I=l at *;generalize ze8 rs ns (I:Int)=q at *;generalize (List.range rs.length).filter (recB rs ns)=m at *;clear hsm hN hC hl hO hI HED hcap;go_enter Tryz.func7,Tryz.ntmps7
  go_upto_region 3 with(first
   |(go_at_call 8;(with_reducible refine(HA.out _ (zab w _)).mono ?_);rintro e w2 ⟨rfl,hb⟩;have HW:=Lib.hid (bl_on (zab w _) hb);have HG:=Lib.hid ((Bl.new w 25 #[.slice ra rs.length rc,.slice na ns.length nc]).below hb);have b0:w2.cell? ⟨w.heap.size,0,none⟩=some (.slice ra rs.length rc):=HG.out.cell (o:=0) rfl;have b1:w2.cell? ⟨w.heap.size,1,none⟩=some (.slice na ns.length nc):=HG.out.cell (o:=1) rfl;have lg:=HG.out.lt;clear hb)
   |(go_at_call 9;(with_reducible refine(HS.out _ HW.out).mono ?_);rintro e w3 ⟨rfl,hb⟩;replace HW:=Lib.hid (bl_on HW.out hb);replace HG:=Lib.hid (HG.out.below hb);have d0:w3.cell? ⟨w.heap.size,0,none⟩=some (.slice ra rs.length rc):=HG.out.cell (o:=0) rfl;have d1:w3.cell? ⟨w.heap.size,1,none⟩=some (.slice na ns.length nc):=HG.out.cell (o:=1) rfl;have lg:=HG.out.lt;clear hb b0 b1))
  clear HS HA
  go_upto_region 6 with(first
   |(go_at_call 11;(with_reducible refine(HCl.out _ HW.out).mono ?_);rintro e w4 ⟨a4,c4,rfl,hi,hb⟩;have HI4:=Lib.hid hi;have HW4:=Lib.hid (bl_on HW.out hb);have HG4:=Lib.hid (HG.out.below hb);have d0:w4.cell? ⟨w.heap.size,0,none⟩=some (.slice ra rs.length rc):=HG4.out.cell (o:=0) rfl;have d1:w4.cell? ⟨w.heap.size,1,none⟩=some (.slice na ns.length nc):=HG4.out.cell (o:=1) rfl;have lg:=HG4.out.lt;clear hb hi)
   |(go_at_call 26;(with_reducible refine(HRch.out _ HW4.out).mono ?_);rintro e w5 ⟨a5,c5,rfl,hi,hb⟩;have HQ5:=Lib.hid hi;have HI5:=Lib.hid (HI4.out.kept hb (Nat.le_refl _));have HW5:=Lib.hid (bl_on HW4.out hb);have HG5:=Lib.hid (HG4.out.below hb);clear hb hi))
  clear d0 d1 lg HW HG HI4 HW4 HG4 HCl HRch;go_wp2
  go_loopw [8] (fun c wr=>∃t:Nat,t<=l.length/\c=.int .i64 (t:Int)/\Below w5.heap.size w5 wr) (fun c _=>l.length-(intOf c).toNat)
  case atStart=>exact⟨0,Nat.zero_le _,rfl,Below.refl _ _⟩
  case round=>
   obtain⟨t,ht,rfl,hb⟩:=hrel;have HIr:=Lib.hid (HI5.out.kept hb (Nat.le_refl _));have HQr:=Lib.hid (HQ5.out.kept hb (Nat.le_refl _));have HWr:=Lib.hid (bl_on HW5.out hb);have HGr:=Lib.hid (HG5.out.below hb);have HB5:=Lib.hid hb;have d0:wr.cell? ⟨w.heap.size,0,none⟩=some (.slice ra rs.length rc):=HGr.out.cell (o:=0) rfl;have d1:wr.cell? ⟨w.heap.size,1,none⟩=some (.slice na ns.length nc):=HGr.out.cell (o:=1) rfl;have lg:=HGr.out.lt;clear hb;by_cases htl:t<l.length
   ·have t1:(t:Int)<(l.length:Int):=by omega
    obtain⟨x,hx⟩:∃x,l[t]?=some x:=⟨_,List.getElem?_eq_getElem htl⟩;have hxm:=List.mem_of_getElem? hx;have hmq:decide ((x:Int) ∈ (q.map fun k:Nat=>(k:Int)))=true:=decide_eq_true (memC.2 (HMR.out x hxm));have hcp:=HCP.out x hxm;have HCx:=Lib.hid (fun(W:World) (hb:Below w.heap.size w W)=>HCr.out W hb x);generalize zco ns (x:Int)=cl at *;have hc0:((cl.length:Int) == 0)=false:=zaj (by omega);have hql:(q.map fun k:Nat=>(k:Int)).length<=1000000:=by rw[List.length_map];omega
    have HHas:=Lib.hid (fun(W:World) (hu:IntsAt W (.slice a5 q.length c5) (q.map fun k:Nat=>(k:Int)))=>zp7 _ _ (x:Int) true W hql hu hmq);obtain⟨ab,ao,rfl,rx⟩:=HIr.out.cell (i:=t) (x:=(x:Int)) (by rw[List.getElem?_map,hx];rfl);obtain⟨n0,hn0⟩:∃n0,w.heap.size=n0:=⟨_,rfl⟩;have hnw:n0<=w.heap.size:=Nat.le_of_eq hn0.symm;have HN0:=Lib.hid hn0;obtain⟨G,hG⟩:∃G,G=w.heap.size:=⟨_,rfl⟩;rw[<-hG] at d0 d1;obtain⟨n5,hn5⟩:∃n5,w5.heap.size=n5:=⟨_,rfl⟩;have HN5:=Lib.hid hn5;have hnw5:n5<=w5.heap.size:=Nat.le_of_eq hn5.symm;obtain⟨X,hX⟩:∃X,ao+t=X:=⟨_,rfl⟩;rw[hX] at rx;have hS:(fun V:World=>V.cell? ⟨G,0,none⟩=some (.slice ra rs.length rc)/\V.cell? ⟨G,1,none⟩=some (.slice na ns.length nc)/\V.cell? ⟨ab,X,none⟩=some (.int .i64 (x:Int))/\IntsAt V (.slice a5 q.length c5) (q.map fun k:Nat=>(k:Int))/\Below n5 w5 V) wr.drew:=⟨d0,d1,rx,HQr.out.kept (Below.drew (Below.refl wr.heap.size wr)) (Nat.le_refl _),by rw[<-hn5];exact HB5.out.drew⟩;dsimp only at hS;have HWV:=Lib.hid (fun(V:World) (h:Below n5 w5 V)=>show Below w.heap.size w V from bl_on HW5.out (by rw[hn5];exact h));clear hn0 hn5 d0 d1 rx lg hx hxm hmq hcp hql HIr HQr HGr HWr HCr HMR HCP HRE HRec hrw hrlen
    go_upto_region 9 with fail
    rw[<-hG];have HGN:=Lib.hid hG;clear hG
    try rw[hX]
    go_region_held3 (fun V:World=>V.cell? ⟨G,0,none⟩=some (.slice ra rs.length rc)/\V.cell? ⟨G,1,none⟩=some (.slice na ns.length nc)/\V.cell? ⟨ab,X,none⟩=some (.int .i64 (x:Int))/\IntsAt V (.slice a5 q.length c5) (q.map fun k:Nat=>(k:Int))/\Below n5 w5 V) (first|exact hS)
     (first
      |(go_at_call 22;with_reducible refine(HHas.out _ hS.2.2.2.1).mono ?_;rintro ev w6 ⟨rfl,rfl⟩)
      |(go_at_call 27;with_reducible refine(HCx.out _ (HWV.out _ hS.2.2.2.2)).mono ?_;rintro ev w7 ⟨a7,c7,rfl,hi7,hb⟩;replace hS:=z3d hnw5 hb hS;clear hb hi7))
    all_goals
     have HBF:=Lib.hid hS.2.2.2.2;clear hS;go_wp2;have hG:=HGN.out;subst hG;go_roundw
     case rel=>exact⟨t+1,by omega,by go_num,by rw[HN5.out];exact HBF.out⟩
     case measure=>simp[intOf];omega
   ·obtain rfl:t=l.length:=by omega
    have t1:¬(l.length:Int)<(l.length:Int):=by omega
    have hql:(m.map fun k:Nat=>(k:Int)).length<=1000000:=by rw[List.length_map];omega
    have HCx:=Lib.hid (fun(W:World) (hb:Below w.heap.size w W)=>HCr.out W hb I);generalize hcl:zco ns (I:Int)=cl at *;have hmem:(I:Int) ∈ (m.map fun k:Nat=>(k:Int))↔I ∈ m:=memC;by_cases hm:I ∈ m
    ·obtain⟨p1,p2⟩:=HRE.out hm
     have q1:(0:Int)<(l.length:Int):=by omega
     have q2:(0:Int)<(cl.length:Int):=by omega
     have hd:=decide_eq_true (hmem.2 hm);clear hmem hm
     go_wp2_with (first
      |(go_at_call 13;(with_reducible refine(HRec.out _ HWr.out).mono ?_);rintro e w8 ⟨a8,c8,rfl,hi,hb⟩;have HM8:=Lib.hid hi;have HW8:=Lib.hid (bl_on HWr.out hb);have HG8:=Lib.hid (HGr.out.below hb);clear d0 d1 lg;have d0:w8.cell? ⟨w.heap.size,0,none⟩=some (.slice ra rs.length rc):=HG8.out.cell (o:=0) rfl;have d1:w8.cell? ⟨w.heap.size,1,none⟩=some (.slice na ns.length nc):=HG8.out.cell (o:=1) rfl;have lg:=HG8.out.lt;clear hb hi)
      |(go_at_call 22;(with_reducible refine(zp7 _ _ (I:Int) true _ hql HM8.out hd).mono ?_);rintro e w9 ⟨rfl,rfl⟩)
      |(go_at_call 27;(with_reducible refine(HCx.out _ HW8.out).mono ?_);rintro e w10 ⟨a10,c10,rfl,hi,hb⟩;have HW10:=Lib.hid (bl_on HW8.out hb);clear hb hi))
     go_ret;exact⟨rfl,HW10.out⟩
    ·have hd:=decide_eq_false (fun h=>hm (hmem.1 h))
     clear hmem hm
     go_wp2_with (first
      |(go_at_call 13;(with_reducible refine(HRec.out _ HWr.out).mono ?_);rintro e w8 ⟨a8,c8,rfl,hi,hb⟩;have HM8:=Lib.hid hi;have HW8:=Lib.hid (bl_on HWr.out hb);have HG8:=Lib.hid (HGr.out.below hb);clear d0 d1 lg;have d0:w8.cell? ⟨w.heap.size,0,none⟩=some (.slice ra rs.length rc):=HG8.out.cell (o:=0) rfl;have d1:w8.cell? ⟨w.heap.size,1,none⟩=some (.slice na ns.length nc):=HG8.out.cell (o:=1) rfl;have lg:=HG8.out.lt;clear hb hi)
      |(go_at_call 22;(with_reducible refine(zp7 _ _ (I:Int) false _ hql HM8.out hd).mono ?_);rintro e w9 ⟨rfl,rfl⟩))
     go_ret;exact⟨rfl,HW8.out⟩
end Go.Proofs.YthhppmehhdlmnaaGreatDoor
