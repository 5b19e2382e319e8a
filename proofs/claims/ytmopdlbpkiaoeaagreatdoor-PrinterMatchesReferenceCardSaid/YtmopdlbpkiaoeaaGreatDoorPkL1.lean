/- The law PrinterMatchesReference, given the program's printer. The law PrinterMatchesReference, for every argument. -/
import Derived.Test.YtmopdlbpkiaoeaaGreatDoorPkGA
import Derived.Test.YtmopdlbpkiaoeaaGreatDoorPkPP
import Derived.Test.YtmopdlbpkiaoeaaGreatDoorPkPK
import Derived.Test.YtmopdlbpkiaoeaaGreatDoorPkPQ
set_option maxRecDepth 100000
set_option maxHeartbeats 8000000
namespace Go.Proofs.YtmopdlbpkiaoeaaGreatDoor
section
open Go.RowKit
theorem yaex (rv nv:Value)(w:World)(hA:Awk10 w)(at':Int)(hS:Sml10 (.agg #[rv,nv]) false w) :
  Calls Tryz.prog 3 #[.agg #[rv,nv],.int .u16 at'] w fun e w'=>e=.returned (.bool true)/\Below w.heap.size w w':=by
 unfold Awk10 at hA;unfold Sml10 at hS;have HA:=Lib.hid hA;have HS:=Lib.hid hS;clear hA hS;go_enter Tryz.func3,Tryz.ntmps3
 go_wp2_with (first
  |(go_at_call 8;(with_reducible refine(HA.out _ (zaa w _)).mono ?_);rintro e w2 ⟨rfl,hb⟩;have HW:=Lib.hid ((zaa w _).trans (hb.mono (zaa w _).size));have b0:=(bcell hb).1 w.heap.size 0 (by simp);have b1:=(bcell hb).1 w.heap.size 1 (by simp);simp at b0 b1;clear hb)
  |(go_at_call 9;(with_reducible refine(HS.out _ HW.out).mono ?_);rintro e w3 ⟨rfl,hb⟩;replace HW:=Lib.hid (HW.out.trans (hb.mono HW.out.size));have d0:=(bcell hb).1 _ 0 (zai b0);have d1:=(bcell hb).1 _ 1 (zai b1);rw[b0] at d0;rw[b1] at d1;clear hb b0 b1)
  |(go_at_call 8;(with_reducible refine(HA.out _ HW.out).mono ?_);rintro e w4 ⟨rfl,hb⟩;replace HW:=Lib.hid (HW.out.trans (hb.mono HW.out.size));clear hb))
 go_ret;exact⟨rfl,HW.out⟩
theorem yaib (ra na:Option Addr)(rc nc:Nat)(rs:List PR)(ns:List PN)(w:World)(hSg:SgnAt w)(hA:Awk10 w)(j:Nat)(hj:j<65536)(hf:fewB rs ns=true)(hk:chkL rs ns=.ok)(hws:∀n,n ∈ ns->z87 n)(hS:Sml10 (.agg #[.slice ra rs.length rc,.slice na ns.length nc]) true w)(hR:RulesIn w (.slice ra rs.length rc) rs)(hN:NodesAt w (.slice na ns.length nc) ns) :
  Calls Tryz.prog 3 #[.agg #[.slice ra rs.length rc,.slice na ns.length nc],.int .u16 (j:Int)] w fun e w'=>e=.returned (.bool true)/\Below w.heap.size w w':=by
 unfold Awk10 at hA;unfold Sml10 at hS;have HA:=Lib.hid hA;have HS:=Lib.hid hS;obtain⟨hnm,-,hrl,hnl⟩:=z9r hf;obtain⟨-,-,hr0,-,-,-,-⟩:=z3k hk;obtain⟨k,hkd⟩:∃k,j%rs.length=k:=⟨_,rfl⟩;have hkl:k<rs.length:=hkd ▸ Nat.mod_lt _ hr0;obtain⟨r,hr⟩:∃r,rs[k]?=some r:=⟨_,List.getElem?_eq_getElem hkl⟩;obtain⟨q,hq,hql⟩:=yafr hk (List.mem_of_getElem? hr);have hn0:0<ns.length:=by omega
 obtain⟨i,hid⟩:∃i,j%ns.length=i:=⟨_,rfl⟩;have hil:i<ns.length:=hid ▸ Nat.mod_lt _ hn0;have hlp:=yaas hk hnm hrl hnl;have hli:=yaag hk hnm hnl hil 0;have hlq:=yaag hk hnm hnl hql 0;have hrn:=hnm r (List.mem_of_getElem? hr);have HPP:=Lib.hid fun W hS hN hR=>z90 rs ns ra na rc nc W hS hk hws (by omega) hN hR
 have HPR:=Lib.hid fun W hN hR=>yac4 rs ns ra na rs.length rc ns.length nc rfl rfl hk hws (by omega) W hN hR
 have HNP:=Lib.hid fun W hS hN hR=>yabd rs ns ra na rc nc i W hS hk hws hil (by omega) hN hR
 have HNR:=Lib.hid fun W hN hR=>yaav rs ns ra na rs.length rc ns.length nc i rfl rfl hk hws hil (by omega) W hN hR
 have HRP:=Lib.hid fun W hS hN hR=>yacy rs ns ra na rc nc k r W hS hk hws hr (by rw[hq];omega) (by omega) hN hR
 have HNQ:=Lib.hid fun W hN hR=>yaav rs ns ra na rs.length rc ns.length nc q rfl rfl hk hws hql (by omega) W hN hR
 rw[hq] at HRP;obtain⟨rb,ro,rfl,r0,r1⟩:=hR.nth hr;rw[hq] at r1;have e1:(j:Int)%(ns.length:Int)=(i:Int):=by rw[<-hid];exact(Int.natCast_emod j ns.length).symm
 have e2:(j:Int)%(rs.length:Int)=(k:Int):=by rw[<-hkd];exact(Int.natCast_emod j rs.length).symm
 have z1:¬(ns.length:Int)=0:=by omega
 have z2:¬(rs.length:Int)=0:=by omega
 have kl:(k:Int)<(rs.length:Int):=by omega
 obtain⟨nm,hnq⟩:∃nm,bts r.name=nm:=⟨_,rfl⟩;have hrs:r.name=strOf nm:=by rw[<-hnq,zt7]
 have hnl2:nm.length<=100:=by rw[<-hnq,zaj];exact hrn
 obtain⟨T,hT⟩:∃T,tx ns (nmOf rs) cxN 0 (q:Int)=T:=⟨_,rfl⟩;rw[hT] at HRP HNQ hlq;rw[hnq] at HRP;rw[hrs] at r0;have a1:=z86 nm [32,60,45,32] (by simp;omega);have a2:=z86 (nm++[32,60,45,32]) T (by simp;omega);rw[List.append_assoc] at a2;rw[show strOf [32,60,45,32]=⟨#[32,60,45,32]⟩ from rfl] at a1;obtain⟨S0,hS0⟩:∃S0,strOf nm=S0:=⟨_,rfl⟩;obtain⟨S1,hS1⟩:∃S1,strOf (nm++[32,60,45,32])=S1:=⟨_,rfl⟩;obtain⟨S2,hS2⟩:∃S2,strOf (nm++([32,60,45,32]++T))=S2:=⟨_,rfl⟩;obtain⟨ST,hST⟩:∃ST,strOf T=ST:=⟨_,rfl⟩;obtain⟨SP,hSP⟩:∃SP,strOf (z88 rs ns)=SP:=⟨_,rfl⟩;obtain⟨SI,hSI⟩:∃SI,strOf (tx ns (nmOf rs) cxN 0 (i:Int))=SI:=⟨_,rfl⟩;rw[hS0,hS1] at a1;rw[hS1,hST,hS2] at a2;rw[hS0] at r0;rw[hSP] at HPP HPR;rw[hSI] at HNP HNR;rw[hS2] at HRP;rw[hST] at HNQ;have HR:=Lib.hid hR;have HN:=Lib.hid hN;have HR0:=Lib.hid r0;have HR1:=Lib.hid r1;clear hkl hA hS hf hk hws hnm hrl hnl hr0 hkd hr hq hql hn0 hid hil hlp hli hlq hrn hnq hrs hnl2 hT hS0 hS1 hS2 hST hSP hSI hR hN r0 r1;obtain⟨rn,hrn⟩:∃rn,rs.length=rn:=⟨_,rfl⟩;obtain⟨nn,hnn⟩:∃nn,ns.length=nn:=⟨_,rfl⟩;rw[hrn] at HS HPP HPR HNP HNR HRP HNQ e2 z2 kl HR ⊢;rw[hnn] at HS HPP HPR HNP HNR HRP HNQ e1 z1 HN ⊢;clear hrn hnn;go_enter Tryz.func3,Tryz.ntmps3
 go_wp2_with (first
  |(go_at_call 8;(with_reducible refine(HA.out _ (zaa w _)).mono ?_);rintro e w2 ⟨rfl,hb⟩;have HW:=Lib.hid ((zaa w _).trans (hb.mono (zaa w _).size));have b0:=(bcell hb).1 w.heap.size 0 (by simp);have b1:=(bcell hb).1 w.heap.size 1 (by simp);simp at b0 b1;clear hb)
  |(go_at_call 9;(with_reducible refine(HS.out _ HW.out).mono ?_);rintro e w3 ⟨rfl,hb⟩;replace HW:=Lib.hid (HW.out.trans (hb.mono HW.out.size));have d0:=(bcell hb).1 _ 0 (zai b0);have d1:=(bcell hb).1 _ 1 (zai b1);rw[b0] at d0;rw[b1] at d1;clear hb b0 b1))
 rw[e1,e2];obtain⟨G,hG⟩:∃G,w.heap.size=G:=⟨_,rfl⟩;rw[hG] at d0 d1 ⊢;obtain⟨m0,hm0⟩:∃m0,m0=w3.heap.size:=⟨_,rfl⟩;have hm1:m0<=w3.heap.size:=Nat.le_of_eq hm0;have HM0:=Lib.hid hm0;have HBW:=Lib.hid fun(W:World) (h:Below m0 w3 W)=>HW.out.trans ((hm0 ▸ h:Below w3.heap.size w3 W).mono HW.out.size)
 have HNB:=Lib.hid fun(W:World) (h:Below m0 w3 W)=>HN.out.kept (HBW.out W h) (Nat.le_refl _)
 have HRB:=Lib.hid fun(W:World) (h:Below m0 w3 W)=>HR.out.kept (HBW.out W h) (Nat.le_refl _)
 have HSB:=Lib.hid fun(W:World) (h:Below m0 w3 W)=>hSg.kept (HBW.out W h) (Nat.le_refl _)
 have C1:=Lib.hid fun(W:World) (h:Below m0 w3 W)=>HPP.out W (HSB.out W h) (HNB.out W h) (HRB.out W h)
 have C2:=Lib.hid fun(W:World) (h:Below m0 w3 W)=>HPR.out W (HNB.out W h) (HRB.out W h)
 have C3:=Lib.hid fun(W:World) (h:Below m0 w3 W)=>HNP.out W (HSB.out W h) (HNB.out W h) (HRB.out W h)
 have C4:=Lib.hid fun(W:World) (h:Below m0 w3 W)=>HNR.out W (HNB.out W h) (HRB.out W h)
 have C5:=Lib.hid fun(W:World) (h:Below m0 w3 W)=>HRP.out W (HSB.out W h) (HNB.out W h) (HRB.out W h)
 have C6:=Lib.hid fun(W:World) (h:Below m0 w3 W)=>HNQ.out W (HNB.out W h) (HRB.out W h)
 have hS:w3.drew.cell? ⟨G,0,none⟩=some (.slice (some ⟨rb,ro,none⟩) rn rc)/\w3.drew.cell? ⟨G,1,none⟩=some (.slice na nn nc)/\w3.drew.cell? ⟨rb,ro+k*2,none⟩=some (.string S0)/\w3.drew.cell? ⟨rb,ro+k*2+1,none⟩=some (.int .i64 (q:Int))/\Below m0 w3 w3.drew:=⟨d0,d1,((bcell HW.out).1 _ _ (zai HR0.out)).trans HR0.out,((bcell HW.out).1 _ _ (zai HR1.out)).trans HR1.out,hm0 ▸ Below.drew (Below.refl _ _)⟩;clear hm0 d0 d1 hG hSg
 go_region_held3 (fun W=>W.cell? ⟨G,0,none⟩=some (.slice (some ⟨rb,ro,none⟩) rn rc)/\W.cell? ⟨G,1,none⟩=some (.slice na nn nc)/\W.cell? ⟨rb,ro+k*2,none⟩=some (.string S0)/\W.cell? ⟨rb,ro+k*2+1,none⟩=some (.int .i64 (q:Int))/\Below m0 w3 W) (first|exact hS)
  (first
   |(go_at_call 10;(with_reducible refine(C1.out _ hS.2.2.2.2).mono ?_);rintro ev w5 ⟨rfl,hb⟩;replace hS:=prnK hm1 hb hS;clear hb)
   |(go_at_call 11;(with_reducible refine(C2.out _ hS.2.2.2.2).mono ?_);rintro ev w5 ⟨rfl,hb⟩;replace hS:=prnK hm1 hb hS;clear hb)
   |(go_at_call 12;(with_reducible refine(C3.out _ hS.2.2.2.2).mono ?_);rintro ev w5 ⟨rfl,hb⟩;replace hS:=prnK hm1 hb hS;clear hb)
   |(go_at_call 13;(with_reducible refine(C4.out _ hS.2.2.2.2).mono ?_);rintro ev w5 ⟨rfl,hb⟩;replace hS:=prnK hm1 hb hS;clear hb)
   |(go_at_call 13;(with_reducible refine(C6.out _ hS.2.2.2.2).mono ?_);rintro ev w5 ⟨rfl,hb⟩;replace hS:=prnK hm1 hb hS;clear hb)
   |(go_at_call 14;(with_reducible refine(C5.out _ hS.2.2.2.2).mono ?_);rintro ev w5 ⟨rfl,hb⟩;replace hS:=prnK hm1 hb hS;clear hb))
 go_wp2;go_ret;exact⟨rfl,HBW.out _ hS.2.2.2.2⟩
end
section
open Go.RowKit
theorem yadf (rv nv:Value)(rs:List PR)(ns:List PN)(w:World)(hl:SignsAt w)(hS:SgnAt w)(hR:RulesIn w rv rs)(hN:NodesAt w nv ns)(hw:∀n,n ∈ ns->z87 n)(j:Nat)(hj:j<65536) :
  Calls Tryz.prog 3 #[.agg #[rv,nv],.int .u16 (j:Int)] w fun e w'=>e=.returned (.bool true)/\Below w.heap.size w w':=by
 cases h:(fewB rs ns&&okB (chkL rs ns)) with
 |false=>exact yaex rv nv w (awk10 hl hS) _ (sml10 hR hN h)
 |true=>
  obtain⟨hf,ho⟩:=Bool.and_eq_true_iff.1 h;obtain⟨-,ra,rc,rfl,-⟩:=id hR;obtain⟨-,na,nc,rfl,-⟩:=id hN;exact yaib ra na rc nc rs ns w hS (awk10 hl hS) j hj hf (yah0 ho) hw (sml10 hR hN h) hR hN
end
end Go.Proofs.YtmopdlbpkiaoeaaGreatDoor
