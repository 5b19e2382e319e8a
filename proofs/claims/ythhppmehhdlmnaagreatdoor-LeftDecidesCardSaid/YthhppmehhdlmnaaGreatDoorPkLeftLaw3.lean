/- The law LeftDecides. Written by wip/gen/leftlaws.py. -/
import Derived.Deep.RegionWith
import Derived.Deep.RegionHeld3
import Derived.Deep.Cut
import Derived.Test.YthhppmehhdlmnaaGreatDoorPkFlowLaw0
import Derived.Test.YthhppmehhdlmnaaGreatDoorPkLF
set_option maxRecDepth 100000
set_option maxHeartbeats 16000000
namespace Go.Proofs.YthhppmehhdlmnaaGreatDoor
open Go.RowKit
theorem zmd (rv nv:Value)(rs:List PR)(ns:List PN)(w:World)(hl:SignsAt w)(hR:RulesIn w rv rs)(hN:NodesAt w nv ns)(hC:CapsAt w nv ns.length) :
  Calls Tryz.prog 5 #[.agg #[rv,nv]] w fun e w'=>e=.returned (.bool true)/\Below w.heap.size w w':=by
 have HS:=Lib.hid (fun(W:World) (hb:Below w.heap.size w W)=>zj3 rv nv rs ns W (hR.kept hb (Nat.le_refl _)) (hN.kept hb (Nat.le_refl _)));have HA:=Lib.hid (fun(W:World) (hb:Below w.heap.size w W)=>ziw W (hl.kept hb (Nat.le_refl _)));obtain⟨na,nc,rfl⟩:∃na nc,nv=.slice na ns.length nc:=by obtain⟨-,na,nc,rfl,-⟩:=hN;exact⟨na,nc,rfl⟩
 cases hsm:(fewB rs ns&&okB (chkL rs ns)) with
 |false=>
  rw[hsm] at HS;obtain⟨-,ra,rc,rfl,-⟩:=hR;clear hsm hN hC hl;go_enter Tryz.func5,Tryz.ntmps5
  go_upto_region 2 with(first
   |(go_at_call 8;(with_reducible refine(HA.out _ (zab w _)).mono ?_);rintro e w2 ⟨rfl,hb⟩;have HW:=Lib.hid (bl_on (zab w _) hb);have b0:=(bcell hb).1 w.heap.size 0 (by simp);have b1:=(bcell hb).1 w.heap.size 1 (by simp);simp at b0 b1;clear hb)
   |(go_at_call 9;(with_reducible refine(HS.out _ HW.out).mono ?_);rintro e w3 ⟨rfl,hb⟩;replace HW:=Lib.hid (bl_on HW.out hb);clear hb b0 b1))
  go_wp2_with (go_at_call 8;(with_reducible refine(HA.out _ HW.out).mono ?_);rintro e w4 ⟨rfl,hb⟩;replace HW:=Lib.hid (bl_on HW.out hb);clear hb)
  go_ret;exact⟨rfl,HW.out⟩
 |true=>
  obtain⟨hO,hnm⟩:=zr6 hsm;have hrl:=hO.rl;have hnl:=hO.flow.nl;rw[hsm] at HS;have HRec:=Lib.hid (fun(W:World) (hb:Below w.heap.size w W)=>(zlu rv _ rs ns W (hR.kept hb (Nat.le_refl _)) (hN.kept hb (Nat.le_refl _)) (hC.kept hN rfl hb) hO).mono fun _ _ h=>row13 h);have HLp:=Lib.hid (fun(W:World) (hb:Below w.heap.size w W)=>ztd rv _ rs ns W (hR.kept hb (Nat.le_refl _)) (hN.kept hb (Nat.le_refl _)) hO.flow);have HRt:=Lib.hid (fun(W:World) (hb:Below w.heap.size w W)=>zt9 rv _ rs ns W (hR.kept hb (Nat.le_refl _)) (hN.kept hb (Nat.le_refl _)) hO.flow);have HBN:=Lib.hid (z3c hO);have HCn:=Lib.hid (fun(W:World) (hb:Below w.heap.size w W) (h:badL rs ns=[])=>zze rv _ rs ns W (hR.kept hb (Nat.le_refl _)) (hN.kept hb (Nat.le_refl _)) (hC.kept hN rfl hb) hO.flow h);have HCy:=Lib.hid (fun(W:World) (hb:Below w.heap.size w W) (i:Nat) (t:List Int) (h:badL rs ns=(i:Int)::t)=>zt7 rv _ rs ns i t W (hR.kept hb (Nat.le_refl _)) (hN.kept hb (Nat.le_refl _)) (hC.kept hN rfl hb) hO.flow h (zun rs (-1) hO.ord) (by omega) hnm (zku rs (-1) (by omega) hO.ord (i:Int) (by omega) (by
   have:(i:Int) ∈ badL rs ns:=by rw[h];exact List.mem_cons_self
   unfold badL idxP at this;obtain⟨j,hj,e⟩:=List.mem_map.1 this;have:=List.mem_range.1 (List.mem_filter.1 hj).1;omega)).1)
  have hbad:∀x t,badL rs ns=x::t->∃i:Nat,x=(i:Int):=fun x t h=>by
   have:x ∈ badL rs ns:=by rw[h];exact List.mem_cons_self
   unfold badL idxP at this;obtain⟨j,-,e⟩:=List.mem_map.1 this;exact⟨j,e.symm⟩
  have HBD:=Lib.hid hbad;obtain⟨-,ra,rc,rfl,-⟩:=hR;unfold RowIs at HLp;unfold ChkErr at HCy;generalize badL rs ns=bl at *;generalize recW rs ns=m at *;generalize idxP (loopW ns (lfp rs ns)) ns.length=lp at *;clear hsm hN hC hl hO hnm hbad;go_enter Tryz.func5,Tryz.ntmps5
  go_upto_region 3 with(first
   |(go_at_call 8;(with_reducible refine(HA.out _ (zab w _)).mono ?_);rintro e w2 ⟨rfl,hb⟩;have HW:=Lib.hid (bl_on (zab w _) hb);have HG:=Lib.hid ((Bl.new w 25 #[.slice ra rs.length rc,.slice na ns.length nc]).below hb);have b0:w2.cell? ⟨w.heap.size,0,none⟩=some (.slice ra rs.length rc):=HG.out.cell (o:=0) rfl;have b1:w2.cell? ⟨w.heap.size,1,none⟩=some (.slice na ns.length nc):=HG.out.cell (o:=1) rfl;have lg:=HG.out.lt;clear hb)
   |(go_at_call 9;(with_reducible refine(HS.out _ HW.out).mono ?_);rintro e w3 ⟨rfl,hb⟩;replace HW:=Lib.hid (bl_on HW.out hb);replace HG:=Lib.hid (HG.out.below hb);have d0:w3.cell? ⟨w.heap.size,0,none⟩=some (.slice ra rs.length rc):=HG.out.cell (o:=0) rfl;have d1:w3.cell? ⟨w.heap.size,1,none⟩=some (.slice na ns.length nc):=HG.out.cell (o:=1) rfl;have lg:=HG.out.lt;clear hb b0 b1))
  clear HS HA;have HWr:=HW;have HGr:=HG;cases bl with
  |nil=>
   obtain⟨h1,h2⟩:=HBN.out.1 rfl;subst h1 h2;have HCn2:=Lib.hid (fun(W:World) (hb:Below w.heap.size w W)=>HCn.out W hb rfl);clear HCn HCy HBN HBD
   go_wp2_with (first
    |(go_at_call 13;(with_reducible refine(HRec.out _ HW.out).mono ?_);rintro e w4 ⟨a4,c4,rfl,hi,hb⟩;have HW4:=Lib.hid (bl_on HW.out hb);have HG4:=Lib.hid (HG.out.below hb);clear d0 d1 lg;have d0:w4.cell? ⟨w.heap.size,0,none⟩=some (.slice ra rs.length rc):=HG4.out.cell (o:=0) rfl;have d1:w4.cell? ⟨w.heap.size,1,none⟩=some (.slice na ns.length nc):=HG4.out.cell (o:=1) rfl;have lg:=HG4.out.lt;clear hb hi)
    |(go_at_call 23;(with_reducible refine(HLp.out _ HW4.out).mono ?_);rintro e w5 ⟨v5,rfl,ho,hb⟩;obtain⟨a5,c5,rfl⟩:=zad ho;have HW5:=Lib.hid (bl_on HW4.out hb);have HG5:=Lib.hid (HG4.out.below hb);clear d0 d1 lg;have d0:w5.cell? ⟨w.heap.size,0,none⟩=some (.slice ra rs.length rc):=HG5.out.cell (o:=0) rfl;have d1:w5.cell? ⟨w.heap.size,1,none⟩=some (.slice na ns.length nc):=HG5.out.cell (o:=1) rfl;have lg:=HG5.out.lt;clear hb ho)
    |(go_at_call 24;(with_reducible refine(HRt.out _ HW5.out).mono ?_);rintro e w6 ⟨rfl,hb⟩;have HW6:=Lib.hid (bl_on HW5.out hb);have HG6:=Lib.hid (HG5.out.below hb);clear d0 d1 lg;have d0:w6.cell? ⟨w.heap.size,0,none⟩=some (.slice ra rs.length rc):=HG6.out.cell (o:=0) rfl;have d1:w6.cell? ⟨w.heap.size,1,none⟩=some (.slice na ns.length nc):=HG6.out.cell (o:=1) rfl;have lg:=HG6.out.lt;clear hb)
    |(go_at_call 25;(with_reducible refine(HCn2.out _ HW6.out).mono ?_);rintro e w7 ⟨rfl,hb⟩;have HW7:=Lib.hid (bl_on HW6.out hb);clear hb))
   go_ret;exact⟨rfl,HW7.out⟩
  |cons x t=>
   obtain⟨i,rfl⟩:=HBD.out x t rfl;have hno:¬(m=[]/\lp=[]):=fun h=>by cases HBN.out.2 h
   have i1:¬(i:Int)<0:=by omega
   have HRt2:=Lib.hid (fun(W:World) (hb:Below w.heap.size w W)=>show Calls Tryz.prog 24 #[.agg #[.slice ra rs.length rc,.slice na ns.length nc]] W (fun e w'=>e=.returned (.bool false)/\Below W.heap.size W w') from(HRt.out W hb).mono fun e w' h=>⟨by rw[h.1,decide_eq_false (show ¬headI ((i:Int)::t)<0 from i1)],h.2⟩);have HCy2:=Lib.hid (fun(W:World) (hb:Below w.heap.size w W)=>HCy.out W hb i t rfl);clear HRt HCy HCn HBD HBN;cases m with
   |nil=>
    have hl0:lp≠[]:=fun h=>hno ⟨rfl,h⟩
    obtain⟨y,lp',rfl⟩:∃y lp',lp=y::lp':=by cases lp with
     |nil=>exact absurd rfl hl0
     |cons y lp'=>exact⟨y,lp',rfl⟩
    obtain⟨N,hN⟩:∃N,(y::lp').length=N:=⟨_,rfl⟩;have hN0:0<N:=by rw[<-hN];simp
    have k0:((N:Int) == 0)=false:=zaj (by omega);rw[hN] at HLp;clear hno hl0
    go_wp2_with (first
     |(go_at_call 13;(with_reducible refine(HRec.out _ HW.out).mono ?_);rintro e w4 ⟨a4,c4,rfl,hi,hb⟩;have HW4:=Lib.hid (bl_on HW.out hb);have HG4:=Lib.hid (HG.out.below hb);clear d0 d1 lg;have d0:w4.cell? ⟨w.heap.size,0,none⟩=some (.slice ra rs.length rc):=HG4.out.cell (o:=0) rfl;have d1:w4.cell? ⟨w.heap.size,1,none⟩=some (.slice na ns.length nc):=HG4.out.cell (o:=1) rfl;have lg:=HG4.out.lt;clear hb hi)
     |(go_at_call 23;(with_reducible refine(HLp.out _ HW4.out).mono ?_);rintro e w5 ⟨v5,rfl,ho,hb⟩;obtain⟨a5,c5,rfl⟩:=zad ho;have HW5:=Lib.hid (bl_on HW4.out hb);have HG5:=Lib.hid (HG4.out.below hb);clear d0 d1 lg;have d0:w5.cell? ⟨w.heap.size,0,none⟩=some (.slice ra rs.length rc):=HG5.out.cell (o:=0) rfl;have d1:w5.cell? ⟨w.heap.size,1,none⟩=some (.slice na ns.length nc):=HG5.out.cell (o:=1) rfl;have lg:=HG5.out.lt;clear hb ho)
     |(go_at_call 24;(with_reducible refine(HRt2.out _ HW5.out).mono ?_);rintro e w6 ⟨rfl,hb⟩;have HW6:=Lib.hid (bl_on HW5.out hb);have HG6:=Lib.hid (HG5.out.below hb);clear d0 d1 lg;have d0:w6.cell? ⟨w.heap.size,0,none⟩=some (.slice ra rs.length rc):=HG6.out.cell (o:=0) rfl;have d1:w6.cell? ⟨w.heap.size,1,none⟩=some (.slice na ns.length nc):=HG6.out.cell (o:=1) rfl;have lg:=HG6.out.lt;clear hb)
     |(go_at_call 25;(with_reducible refine(HCy2.out _ HW6.out).mono ?_);rintro e w7 ⟨⟨eb,rfl,-,-⟩,hb⟩;have HW7:=Lib.hid (bl_on HW6.out hb);clear hb))
    go_ret;exact⟨rfl,HW7.out⟩
   |cons z m'=>
    obtain⟨N,hN⟩:∃N,(z::m').length=N:=⟨_,rfl⟩;have hN0:0<N:=by rw[<-hN];simp
    have k0:((N:Int) == 0)=false:=zaj (by omega);rw[hN] at HRec;clear hno
    go_wp2_with (first
     |(go_at_call 13;(with_reducible refine(HRec.out _ HW.out).mono ?_);rintro e w4 ⟨a4,c4,rfl,hi,hb⟩;have HW4:=Lib.hid (bl_on HW.out hb);have HG4:=Lib.hid (HG.out.below hb);clear d0 d1 lg;have d0:w4.cell? ⟨w.heap.size,0,none⟩=some (.slice ra rs.length rc):=HG4.out.cell (o:=0) rfl;have d1:w4.cell? ⟨w.heap.size,1,none⟩=some (.slice na ns.length nc):=HG4.out.cell (o:=1) rfl;have lg:=HG4.out.lt;clear hb hi)
     |(go_at_call 24;(with_reducible refine(HRt2.out _ HW4.out).mono ?_);rintro e w6 ⟨rfl,hb⟩;have HW6:=Lib.hid (bl_on HW4.out hb);have HG6:=Lib.hid (HG4.out.below hb);clear d0 d1 lg;have d0:w6.cell? ⟨w.heap.size,0,none⟩=some (.slice ra rs.length rc):=HG6.out.cell (o:=0) rfl;have d1:w6.cell? ⟨w.heap.size,1,none⟩=some (.slice na ns.length nc):=HG6.out.cell (o:=1) rfl;have lg:=HG6.out.lt;clear hb)
     |(go_at_call 25;(with_reducible refine(HCy2.out _ HW6.out).mono ?_);rintro e w7 ⟨⟨eb,rfl,-,-⟩,hb⟩;have HW7:=Lib.hid (bl_on HW6.out hb);clear hb))
    go_ret;exact⟨rfl,HW7.out⟩
end Go.Proofs.YthhppmehhdlmnaaGreatDoor
