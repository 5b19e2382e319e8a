/- The law LeftMatchesReference, given what the reference's Cycle answers. Written by wip/gen/leftlaws.py. -/
import Derived.Deep.RegionWith
import Derived.Deep.RegionHeld3
import Derived.Deep.Cut
import Derived.Test.YthhppmehhdlmnaaGreatDoorPzFlowLaw0
import Derived.Test.YthhppmehhdlmnaaGreatDoorPzLF
import Derived.Test.YthhppmehhdlmnaaGreatDoorPzLeftREx
set_option maxRecDepth 100000
set_option maxHeartbeats 16000000
namespace Go.Proofs.YthhppmehhdlmnaaGreatDoor
open Go.RowKit
theorem z9k {G:Nat}{rv nv:Value}{n0:Nat}{w0 W W':World}(hn:n0<=w0.heap.size)(hb:Below W.heap.size W W')(h:W.cell? ⟨G,0,none⟩=some rv/\W.cell? ⟨G,1,none⟩=some nv/\Below n0 w0 W):W'.cell? ⟨G,0,none⟩=some rv/\W'.cell? ⟨G,1,none⟩=some nv/\Below n0 w0 W':=by
 obtain⟨h0,h1,h4⟩:=h;have hk:∀ {b o:Nat} {v:Value},W.cell? ⟨b,o,none⟩=some v->W'.cell? ⟨b,o,none⟩=some v:=fun h=>by rw[(bcell hb).1 _ _ (zac h)];exact h
 exact⟨hk h0,hk h1,h4.trans (hb.mono (Nat.le_trans hn h4.size))⟩
theorem z97 (rv nv:Value)(rs:List PR)(ns:List PN)(k0:Nat)(hk0:k0<=255)(w:World)(hl:SignsAt w)(hR:RulesIn w rv rs)(hN:NodesAt w nv ns)(hC:CapsAt w nv ns.length)(hcyc:LeftOk rs ns->rs.length<=7->RCyIs (zai rs ns) rs.length) :
  Calls Tryz.prog 3 #[.agg #[rv,nv],.int .u8 (k0:Int)] w fun e w'=>e=.returned (.bool true)/\Below w.heap.size w w':=by
 have HS:=Lib.hid (fun(W:World) (hb:Below w.heap.size w W)=>zj3 rv nv rs ns W (hR.kept hb (Nat.le_refl _)) (hN.kept hb (Nat.le_refl _)));have HA:=Lib.hid (fun(W:World) (hb:Below w.heap.size w W)=>ziw W (hl.kept hb (Nat.le_refl _)));obtain⟨na,nc,rfl⟩:∃na nc,nv=.slice na ns.length nc:=by obtain⟨-,na,nc,rfl,-⟩:=hN;exact⟨na,nc,rfl⟩
 cases hsm:(fewB rs ns&&okB (chkL rs ns)) with
 |false=>
  rw[hsm] at HS;obtain⟨-,ra,rc,rfl,-⟩:=hR;clear hsm hN hC hl hk0 hcyc;go_enter Tryz.func3,Tryz.ntmps3
  go_upto_region 2 with(first
   |(go_at_call 8;(with_reducible refine(HA.out _ (zab w _)).mono ?_);rintro e w2 ⟨rfl,hb⟩;have HW:=Lib.hid (bl_on (zab w _) hb);have b0:=(bcell hb).1 w.heap.size 0 (by simp);have b1:=(bcell hb).1 w.heap.size 1 (by simp);simp at b0 b1;clear hb)
   |(go_at_call 9;(with_reducible refine(HS.out _ HW.out).mono ?_);rintro e w3 ⟨rfl,hb⟩;replace HW:=Lib.hid (bl_on HW.out hb);clear hb b0 b1))
  go_wp2_with (go_at_call 8;(with_reducible refine(HA.out _ HW.out).mono ?_);rintro e w4 ⟨rfl,hb⟩;replace HW:=Lib.hid (bl_on HW.out hb);clear hb)
  go_ret;exact⟨rfl,HW.out⟩
 |true=>
  obtain⟨hO,hnm⟩:=zr6 hsm;have hrl:=hO.rl;have hnl:=hO.flow.nl;have hkl:k0%rs.length<rs.length:=Nat.mod_lt _ hO.r0;have hr0:=hO.r0;have hrem:(k0:Int).tmod (rs.length:Int)=((k0%rs.length:Nat):Int):=by rw[Int.tmod_eq_emod_of_nonneg (by omega)];first|rfl|exact(Int.natCast_emod _ _).symm|exact(Int.ofNat_emod _ _).symm
  have hmod:(k0:Int)%(rs.length:Int)=((k0%rs.length:Nat):Int):=by first|rfl|exact(Int.natCast_emod _ _).symm|exact(Int.ofNat_emod _ _).symm
  have hk6:(k0:Int)<=255:=by omega
  have hk7:(0:Int)<=(k0:Int):=by omega
  have hNp:(0:Int)<(rs.length:Int):=by omega
  have hNz:((rs.length:Int) == 0)=false:=zaj (by omega);have hNz':¬(rs.length:Int)=0:=by omega
  rw[hsm] at HS;by_cases h7:rs.length<=7
  ·have hcy:=hcyc hO h7
   have h7':¬(7:Int)<(rs.length:Int):=by omega
   have H1:=Lib.hid (fun(W:World) (hb:Below w.heap.size w W)=>(ze1 rv _ rs ns (k0%rs.length) W (hR.kept hb (Nat.le_refl _)) (hN.kept hb (Nat.le_refl _)) (hC.kept hN rfl hb) hO hkl).mono fun _ _ h=>row13 h);have H2:=Lib.hid (fun(W:World) (hb:Below w.heap.size w W)=>(z9s rv _ rs ns (k0%rs.length) W (hR.kept hb (Nat.le_refl _)) (hN.kept hb (Nat.le_refl _)) hO hkl).mono fun _ _ h=>row13 h);have H3:=Lib.hid (fun(W:World) (hb:Below w.heap.size w W)=>(zlu rv _ rs ns W (hR.kept hb (Nat.le_refl _)) (hN.kept hb (Nat.le_refl _)) (hC.kept hN rfl hb) hO).mono fun _ _ h=>row13 h);have H4:=Lib.hid (fun(W:World) (hb:Below w.heap.size w W)=>(z93 rv _ rs ns W (hR.kept hb (Nat.le_refl _)) (hN.kept hb (Nat.le_refl _)) hO hcy).mono fun _ _ h=>row13 h);have H5:=Lib.hid (fun(W:World) (hb:Below w.heap.size w W)=>(z1m rv _ rs ns (k0%rs.length) W (hR.kept hb (Nat.le_refl _)) (hN.kept hb (Nat.le_refl _)) (hC.kept hN rfl hb) hO hkl).mono fun _ _ h=>row13 h);have H6:=Lib.hid (fun(W:World) (hb:Below w.heap.size w W)=>(z9m rv _ rs ns W (hR.kept hb (Nat.le_refl _)) (hN.kept hb (Nat.le_refl _)) hO).mono fun _ _ h=>h.at hO.r0);have H7:=Lib.hid (fun(W:World) (gb cap:Nat) (hg:GAt (zai rs ns) rs.length gb W)=>hcy W gb cap (k0%rs.length) hg hkl);have H8:=Lib.hid (fun(W:World) (hb:Below w.heap.size w W)=>zg5 rv _ rs ns W (hR.kept hb (Nat.le_refl _)) (hN.kept hb (Nat.le_refl _)) (hC.kept hN rfl hb) hO hnm);have H9:=Lib.hid (fun(W:World) (hb:Below w.heap.size w W)=>z90 rv _ rs ns W (hR.kept hb (Nat.le_refl _)) (hN.kept hb (Nat.le_refl _)) hO hcy hnm);have hll:=zgo rs ns (k0%rs.length);have hrw:=zrq (recB rs ns) rs.length;have hcl:=z58 (ns:=ns) hkl;obtain⟨-,ra,rc,rfl,-⟩:=hR;unfold recW at H3 H4;generalize hI:k0%rs.length=I at *;have I1:(I:Int)<(rs.length:Int):=by omega
   generalize explW rs ns=X at *;generalize hcs:zai rs ns=cs at *;generalize cs I=l at *;generalize cycW cs I=c at *;generalize (List.range rs.length).filter (recB rs ns)=m at *;have E1:=Lib.hid (fun(W:World) (u v:Value) (hu:IntsAt W u (l.map fun k:Nat=>(k:Int))) (hv:IntsAt W v (l.map fun k:Nat=>(k:Int)))=>eqI13 u v _ W (by rw[List.length_map];unfold maxLen;omega) hu hv);have E2:=Lib.hid (fun(W:World) (u v:Value) (hu:IntsAt W u (m.map fun k:Nat=>(k:Int))) (hv:IntsAt W v (m.map fun k:Nat=>(k:Int)))=>eqI13 u v _ W (by rw[List.length_map];unfold maxLen;omega) hu hv);have E3:=Lib.hid (fun(W:World) (u v:Value) (hu:IntsAt W u (c.map fun k:Nat=>(k:Int))) (hv:IntsAt W v (c.map fun k:Nat=>(k:Int)))=>eqI13 u v _ W (by rw[List.length_map];unfold maxLen;omega) hu hv);clear hsm hN hC hl hO hnm hI hcyc hcy hcs;go_enter Tryz.func3,Tryz.ntmps3
   go_upto_region 3 with(first
    |(go_at_call 8;(with_reducible refine(HA.out _ (zab w _)).mono ?_);rintro e w2 ⟨rfl,hb⟩;have HW:=Lib.hid (bl_on (zab w _) hb);have HG:=Lib.hid ((Bl.new w 25 #[.slice ra rs.length rc,.slice na ns.length nc]).below hb);have b0:w2.cell? ⟨w.heap.size,0,none⟩=some (.slice ra rs.length rc):=HG.out.cell (o:=0) rfl;have b1:w2.cell? ⟨w.heap.size,1,none⟩=some (.slice na ns.length nc):=HG.out.cell (o:=1) rfl;have lg:=HG.out.lt;clear hb)
    |(go_at_call 9;(with_reducible refine(HS.out _ HW.out).mono ?_);rintro e w3 ⟨rfl,hb⟩;replace HW:=Lib.hid (bl_on HW.out hb);replace HG:=Lib.hid (HG.out.below hb);have d0:w3.cell? ⟨w.heap.size,0,none⟩=some (.slice ra rs.length rc):=HG.out.cell (o:=0) rfl;have d1:w3.cell? ⟨w.heap.size,1,none⟩=some (.slice na ns.length nc):=HG.out.cell (o:=1) rfl;have lg:=HG.out.lt;clear hb b0 b1))
   clear HS HA
   go_upto_region 4 with fail
   obtain⟨G,hG⟩:∃G,G=w.heap.size:=⟨_,rfl⟩;rw[<-hG] at d0 d1;obtain⟨n3,hn3⟩:∃n3,w3.heap.size=n3:=⟨_,rfl⟩;have hnw3:n3<=w3.heap.size:=Nat.le_of_eq hn3.symm;have hS:(fun V:World=>V.cell? ⟨G,0,none⟩=some (.slice ra rs.length rc)/\V.cell? ⟨G,1,none⟩=some (.slice na ns.length nc)/\Below n3 w3 V) w3.drew:=⟨d0,d1,by rw[<-hn3];exact(Below.refl _ _).drew⟩;dsimp only at hS;have HWV:=Lib.hid (fun(V:World) (h:Below n3 w3 V)=>show Below w.heap.size w V from bl_on HW.out (by rw[hn3];exact h));rw[<-hG];clear hn3 d0 d1 lg HW HG hG
   go_region_held3 (fun V:World=>V.cell? ⟨G,0,none⟩=some (.slice ra rs.length rc)/\V.cell? ⟨G,1,none⟩=some (.slice na ns.length nc)/\Below n3 w3 V) (first|exact hS)
    (first
     |(go_at_call 11;with_reducible refine(H1.out _ (HWV.out _ hS.2.2)).mono ?_;rintro ev w4 ⟨a4,c4,rfl,hi,hb⟩;have HI4:=Lib.hid hi;replace hS:=z9k hnw3 hb hS;clear hb hi)
     |(go_at_call 12;with_reducible refine(H2.out _ (HWV.out _ hS.2.2)).mono ?_;rintro ev w5 ⟨a5,c5,rfl,hi,hb⟩;have HJ5:=Lib.hid hi;have HI5:=Lib.hid (HI4.out.kept hb (Nat.le_refl _));replace hS:=z9k hnw3 hb hS;clear hb hi)
     |(go_at_call 10;with_reducible refine(E1.out _ _ _ HI5.out HJ5.out).mono ?_;rintro ev w6 ⟨rfl,hb⟩;replace hS:=z9k hnw3 hb hS;clear hb HI5 HJ5)
     |(go_at_call 13;with_reducible refine(H3.out _ (HWV.out _ hS.2.2)).mono ?_;rintro ev w7 ⟨a7,c7,rfl,hi,hb⟩;have HI7:=Lib.hid hi;replace hS:=z9k hnw3 hb hS;clear hb hi)
     |(go_at_call 14;with_reducible refine(H4.out _ (HWV.out _ hS.2.2)).mono ?_;rintro ev w8 ⟨a8,c8,rfl,hi,hb⟩;have HJ8:=Lib.hid hi;have HI8:=Lib.hid (HI7.out.kept hb (Nat.le_refl _));replace hS:=z9k hnw3 hb hS;clear hb hi)
     |(go_at_call 10;with_reducible refine(E2.out _ _ _ HI8.out HJ8.out).mono ?_;rintro ev w9 ⟨rfl,hb⟩;replace hS:=z9k hnw3 hb hS;clear hb HI8 HJ8)
     |(go_at_call 15;with_reducible refine(H5.out _ (HWV.out _ hS.2.2)).mono ?_;rintro ev w10 ⟨a10,c10,rfl,hi,hb⟩;have HI10:=Lib.hid hi;replace hS:=z9k hnw3 hb hS;clear hb hi)
     |(go_at_call 17;with_reducible refine(H6.out _ (HWV.out _ hS.2.2)).mono ?_;rintro ev w11 ⟨gb,gcap,rfl,hg,hb⟩;have HGA:=Lib.hid hg;have HI11:=Lib.hid (HI10.out.kept hb (Nat.le_refl _));replace hS:=z9k hnw3 hb hS;clear hb hg)
     |(go_at_call 16;with_reducible refine(H7.out _ gb gcap HGA.out).mono ?_;rintro ev w12 ⟨a12,c12,rfl,hi,hb⟩;have HJ12:=Lib.hid hi;have HI12:=Lib.hid (HI11.out.kept hb (Nat.le_refl _));replace hS:=z9k hnw3 hb hS;clear hb hi)
     |(go_at_call 10;with_reducible refine(E3.out _ _ _ HI12.out HJ12.out).mono ?_;rintro ev w13 ⟨rfl,hb⟩;replace hS:=z9k hnw3 hb hS;clear hb HI12 HJ12)
     |(go_at_call 18;with_reducible refine(H8.out _ (HWV.out _ hS.2.2)).mono ?_;rintro ev w14 ⟨rfl,hb⟩;replace hS:=z9k hnw3 hb hS;clear hb)
     |(go_at_call 19;with_reducible refine(H9.out _ (HWV.out _ hS.2.2)).mono ?_;rintro ev w15 ⟨rfl,hb⟩;replace hS:=z9k hnw3 hb hS;clear hb))
   all_goals
    have HBF:=Lib.hid (HWV.out _ hS.2.2);clear hS;go_wp2;go_ret;exact⟨rfl,HBF.out⟩
  ·have h7':(7:Int)<(rs.length:Int):=by omega
   obtain⟨-,ra,rc,rfl,-⟩:=hR;clear hsm hN hC hl hO hnm hcyc;go_enter Tryz.func3,Tryz.ntmps3
   go_upto_region 2 with(first
    |(go_at_call 8;(with_reducible refine(HA.out _ (zab w _)).mono ?_);rintro e w2 ⟨rfl,hb⟩;have HW:=Lib.hid (bl_on (zab w _) hb);have HG:=Lib.hid ((Bl.new w 25 #[.slice ra rs.length rc,.slice na ns.length nc]).below hb);have b0:w2.cell? ⟨w.heap.size,0,none⟩=some (.slice ra rs.length rc):=HG.out.cell (o:=0) rfl;have b1:w2.cell? ⟨w.heap.size,1,none⟩=some (.slice na ns.length nc):=HG.out.cell (o:=1) rfl;have lg:=HG.out.lt;clear hb)
    |(go_at_call 9;(with_reducible refine(HS.out _ HW.out).mono ?_);rintro e w3 ⟨rfl,hb⟩;replace HW:=Lib.hid (bl_on HW.out hb);replace HG:=Lib.hid (HG.out.below hb);have d0:w3.cell? ⟨w.heap.size,0,none⟩=some (.slice ra rs.length rc):=HG.out.cell (o:=0) rfl;have d1:w3.cell? ⟨w.heap.size,1,none⟩=some (.slice na ns.length nc):=HG.out.cell (o:=1) rfl;have lg:=HG.out.lt;clear hb b0 b1))
   clear HS
   go_wp2_with (go_at_call 8;(with_reducible refine(HA.out _ HW.out).mono ?_);rintro e w4 ⟨rfl,hb⟩;replace HW:=Lib.hid (bl_on HW.out hb);clear hb)
   go_ret;exact⟨rfl,HW.out⟩
end Go.Proofs.YthhppmehhdlmnaaGreatDoor
