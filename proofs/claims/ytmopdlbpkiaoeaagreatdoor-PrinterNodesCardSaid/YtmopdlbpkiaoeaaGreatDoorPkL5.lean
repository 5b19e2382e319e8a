/- The law PrinterNodes, given the program's printer and Expression. The law PrinterNodes, for every argument. -/
import Derived.Test.YtmopdlbpkiaoeaaGreatDoorPkSynFIn
import Derived.Test.YtmopdlbpkiaoeaaGreatDoorPkP
import Derived.Test.YtmopdlbpkiaoeaaGreatDoorPkGA
import Derived.Test.YtmopdlbpkiaoeaaGreatDoorPkPM
import Derived.Test.YtmopdlbpkiaoeaaGreatDoorPkPP
import Derived.Test.YtmopdlbpkiaoeaaGreatDoorPkPK
set_option maxRecDepth 100000
set_option maxHeartbeats 8000000
namespace Go.Proofs.YtmopdlbpkiaoeaaGreatDoor
section
open Go.RowKit
def Exp10 (s:ByteArray)(f:MF)(w:World):Prop:=∀W,Below w.heap.size w W->Calls Tryz.prog 18 #[.string s] W fun e w'=>∃va vc na nc ca cc,e=.returned (.tuple #[.agg #[.slice va 1 vc,.slice na f.nodes.length nc,.slice ca f.calls.length cc],.nilIface])/\NodesAt w' (.slice na f.nodes.length nc) f.nodes/\CellsAt w' (.slice ca f.calls.length cc) f.calls.length (zcw f.calls)/\Below W.heap.size W w'
theorem yae4 (rv nv:Value)(w:World)(hA:Awk10 w)(at':Int)(hS:Sml10 (.agg #[rv,nv]) false w) :
  Calls Tryz.prog 7 #[.agg #[rv,nv],.int .u16 at'] w fun e w'=>e=.returned (.bool true)/\Below w.heap.size w w':=by
 unfold Awk10 at hA;unfold Sml10 at hS;have HA:=Lib.hid hA;have HS:=Lib.hid hS;clear hA hS;go_enter Tryz.func7,Tryz.ntmps7
 go_wp2_with (first
  |(go_at_call 8;(with_reducible refine(HA.out _ (zaa w _)).mono ?_);rintro e w2 ⟨rfl,hb⟩;have HW:=Lib.hid ((zaa w _).trans (hb.mono (zaa w _).size));have b0:=(bcell hb).1 w.heap.size 0 (by simp);have b1:=(bcell hb).1 w.heap.size 1 (by simp);simp at b0 b1;clear hb)
  |(go_at_call 9;(with_reducible refine(HS.out _ HW.out).mono ?_);rintro e w3 ⟨rfl,hb⟩;replace HW:=Lib.hid (HW.out.trans (hb.mono HW.out.size));clear hb b0 b1)
  |(go_at_call 8;(with_reducible refine(HA.out _ HW.out).mono ?_);rintro e w4 ⟨rfl,hb⟩;replace HW:=Lib.hid (HW.out.trans (hb.mono HW.out.size));clear hb))
 go_ret;exact⟨rfl,HW.out⟩
def yalb (rs:List PR)(f:MF)(x y:PN):Prop:=x.op=y.op/\(x.s0=y.s0/\x.s1=y.s1/\x.s2=y.s2/\x.s3=y.s3)/\x.kids.length=y.kids.length/\(x.op=2->∃(p q:Nat) (c:List Nat × Nat) (r:PR),x.rule=(p:Int)/\f.calls[p]?=some c/\y.rule=(q:Int)/\rs[q]?=some r/\r.name=strOf c.1)
theorem yalc {rs:List PR}{ns:List PN}(hk:chkL rs ns=.ok){f:MF}{x y:PN}(hy:y ∈ ns)(h:yadc (nmOf rs) f x y):yalb rs f x y:=by
 obtain⟨h1,h2,h3,h4⟩:=h;refine⟨h1,h2,h3,fun ho=>?_⟩;obtain⟨g1,g2,c,hc,hn⟩:=h4 ho;obtain⟨-,-,-,-,h5,-,-⟩:=z3k hk;obtain⟨i,hi⟩:=List.getElem?_of_mem hy;have hb:=h5 i (List.getElem?_eq_some_iff.1 hi).1;unfold zbv at hb;rw[hi] at hb;have hm:madeB y rs.length=true:=by simpa using hb
 rcases z9h hm with⟨z0,-⟩|⟨z0,-⟩|⟨-,-,ha,hlt,-⟩|⟨z0,-⟩|⟨z0,-⟩
 ·omega
 ·omega
 ·obtain⟨r,hr⟩:∃r,rs[y.rule.toNat]?=some r:=⟨_,List.getElem?_eq_getElem (by omega)⟩
  refine⟨x.rule.toNat,y.rule.toNat,c,r,by omega,hc,by omega,hr,?_⟩;rw[hn];unfold nmOf;rw[hr];exact(zt7 _).symm
 ·omega
 ·omega
theorem yain (ra na:Option Addr)(rc nc:Nat)(rs:List PR)(ns:List PN)(w:World)(hSg:SgnAt w)(hA:Awk10 w)(j:Nat)(hj:j<65536)(hf:fewB rs ns=true)(hk:chkL rs ns=.ok)(hws:∀n,n ∈ ns->z87 n)(hS:Sml10 (.agg #[.slice ra rs.length rc,.slice na ns.length nc]) true w)(i:Nat)(hij:j%ns.length=i)(f:MF)(hE:Exp10 (strOf (tx ns (nmOf rs) cxN 0 (i:Int))) f w)(hfl:(f.nodes.length:Int)=(i:Int)-exL ns i)(hfn:∀(k:Nat) (x:PN),f.nodes[k]?=some x->∃y,ns[(exL ns i+1).toNat+k]?=some y/\yadc (nmOf rs) f x y)(hR:RulesIn w (.slice ra rs.length rc) rs)(hN:NodesAt w (.slice na ns.length nc) ns) :
  Calls Tryz.prog 7 #[.agg #[.slice ra rs.length rc,.slice na ns.length nc],.int .u16 (j:Int)] w fun e w'=>e=.returned (.bool true)/\Below w.heap.size w w':=by
 unfold Awk10 at hA;unfold Sml10 at hS;unfold Exp10 at hE;have HA:=Lib.hid hA;have HS:=Lib.hid hS;obtain⟨hnm,-,hrl,hnl⟩:=z9r hf;obtain⟨-,-,hr0,-,-,h6,-⟩:=z3k hk;have hn0:0<ns.length:=by
  rcases Nat.eq_zero_or_pos ns.length with h|h
  ·obtain⟨r,hr⟩:∃r,rs[0]?=some r:=⟨_,List.getElem?_eq_getElem hr0⟩
   obtain⟨q,-,hq⟩:=z9t hk (List.mem_of_getElem? hr);omega
  ·exact h
 have hil:i<ns.length:=hij ▸ Nat.mod_lt _ hn0;have hli:=yaag hk hnm hnl hil 0;have hex:=zuh h6 (i:Int) (by omega) (by omega);have hxl:=zj5 ns i hex;have HNP:=Lib.hid fun W (hW:Below w.heap.size w W) hN hR=>yabd rs ns ra na rc nc i W (hSg.kept hW (Nat.le_refl _)) hk hws hil (by omega) hN hR
 have HEX:=Lib.hid fun(W:World) hN=>z0q ra na rs.length rc ns.length nc ns (by omega) (i:Int) (by omega) W hN
 have e1:(j:Int)%(ns.length:Int)=(i:Int):=by rw[<-hij];exact(Int.natCast_emod j ns.length).symm
 have z1:¬(ns.length:Int)=0:=by omega
 obtain⟨SI,hSI⟩:∃SI,strOf (tx ns (nmOf rs) cxN 0 (i:Int))=SI:=⟨_,rfl⟩;rw[hSI] at HNP hE;have HR:=Lib.hid hR;have HN:=Lib.hid hN;obtain⟨a,ha⟩:∃a:Nat,exL ns (i:Int)=(a:Int)-1:=⟨(exL ns (i:Int)+1).toNat,by omega⟩;rw[ha] at hfl hfn hxl HEX;rw[show((a:Int)-1+1).toNat=a from by omega] at hfn;have HFN:=Lib.hid fun(k:Nat) (x:PN) (hx:f.nodes[k]?=some x)=>(hfn k x hx).imp fun y hy=>And.intro hy.1 (yalc hk (List.mem_of_getElem? hy.1) hy.2)
 obtain⟨fn,hfnn⟩:∃fn,f.nodes.length=fn:=⟨_,rfl⟩;rw[hfnn] at hfl;have HFL:=Lib.hid hfnn;have HNNL:=Lib.hid hnl;have hi1:i<=400:=by omega
 have ha1:a<=400:=by omega
 have hf1:fn<=400:=by omega
 have w4:((fn:Int) != (i:Int)+1-(a:Int))=false:=by rw[bne_eq_false_iff_eq];omega
 have hafn:a+fn=i+1:=by omega
 rw[hfnn] at hE;have HE:=Lib.hid hE;have HIL:=Lib.hid hil;clear hA hS hSg hE hf hk hws hnm hrl hnl hr0 h6 hn0 hli hex hSI hR hN ha hfn hfl hxl hfnn hil hij;obtain⟨rn,hrn⟩:∃rn,rs.length=rn:=⟨_,rfl⟩;obtain⟨nn,hnn⟩:∃nn,ns.length=nn:=⟨_,rfl⟩;rw[hrn] at HS HNP HEX HR ⊢;rw[hnn] at HS HNP HEX HN HIL e1 z1 ⊢;have HRN:=Lib.hid hrn;have HNN:=Lib.hid hnn;clear hrn hnn;go_enter Tryz.func7,Tryz.ntmps7
 go_wp2_with (first
  |(go_at_call 8;(with_reducible refine(HA.out _ (zaa w _)).mono ?_);rintro e w2 ⟨rfl,hb⟩;have HW:=Lib.hid ((zaa w _).trans (hb.mono (zaa w _).size));have b0:=(bcell hb).1 w.heap.size 0 (by simp);have b1:=(bcell hb).1 w.heap.size 1 (by simp);simp at b0 b1;clear hb)
  |(go_at_call 9;(with_reducible refine(HS.out _ HW.out).mono ?_);rintro e w3 ⟨rfl,hb⟩;replace HW:=Lib.hid (HW.out.trans (hb.mono HW.out.size));have d0:=(bcell hb).1 _ 0 (zai b0);have d1:=(bcell hb).1 _ 1 (zai b1);rw[b0] at d0;rw[b1] at d1;clear hb b0 b1)
  |(go_at_call 12;(with_reducible refine(HNP.out _ HW.out (HN.out.kept HW.out (Nat.le_refl _)) (HR.out.kept HW.out (Nat.le_refl _))).mono ?_);rintro e w4 ⟨rfl,hb⟩;replace HW:=Lib.hid (HW.out.trans (hb.mono HW.out.size));have b0:=(bcell hb).1 _ 0 (zai d0);have b1:=(bcell hb).1 _ 1 (zai d1);rw[d0] at b0;rw[d1] at b1;clear hb d0 d1)
  |(go_at_call 18;(with_reducible refine(HE.out _ HW.out).mono ?_);rintro e w5 ⟨va,vc,na2,nc2,ca,cc,rfl,hN2,hC2,hb⟩;have hn:=zaa w5 (.cells #[.slice va 1 vc,.slice na2 fn nc2,.slice ca f.calls.length cc] 46);have hbn:=hb.trans (hn.mono hb.size);replace HW:=Lib.hid (HW.out.trans (hbn.mono HW.out.size));have d0:=(bcell hb).1 _ 0 (zai b0);have d1:=(bcell hb).1 _ 1 (zai b1);rw[b0] at d0;rw[b1] at d1;have dl:=zai d0;have D0:=Lib.hid (((bcell hbn).1 _ 0 (zai b0)).trans b0);have D1:=Lib.hid (((bcell hbn).1 _ 1 (zai b1)).trans b1);have HN2:=Lib.hid (hN2.kept hn (Nat.le_refl _));have HC2:=Lib.hid (hC2.kept hn (Nat.le_refl _));have HF:=Lib.hid (Bl.new w5 46 #[.slice va 1 vc,.slice na2 fn nc2,.slice ca f.calls.length cc]);clear hb hn hbn b0 b1 hN2 hC2)
  |(go_at_call 24;(with_reducible refine(HEX.out _ (HN.out.kept HW.out (Nat.le_refl _))).mono ?_);rintro e w6 ⟨rfl,hb⟩;replace HW:=Lib.hid (HW.out.trans (hb.mono HW.out.size));replace HN2:=Lib.hid (HN2.out.kept hb (Nat.le_refl _));replace HC2:=Lib.hid (HC2.out.kept hb (Nat.le_refl _));replace HF:=Lib.hid (HF.out.below hb);clear d0 d1 dl;have d0:=(bcell hb).1 _ 0 (zai D0.out);have d1:=(bcell hb).1 _ 1 (zai D1.out);rw[D0.out] at d0;rw[D1.out] at d1;have f1:=HF.out.cell (o:=1) (u:=.slice na2 fn nc2) rfl;have f2:=HF.out.cell (o:=2) (u:=.slice ca f.calls.length cc) rfl;have fl:=HF.out.lt;have dl:=zai d0;clear hb D0 D1))
 go_loopw [9] (fun c wr=>∃k:Nat,k<=fn/\c=.int .i64 k/\Below w6.heap.size w6 wr) (fun c _=>fn-(intOf c).toNat)
 case atStart=>exact⟨0,Nat.zero_le _,rfl,Below.refl _ _⟩
 case round=>
  obtain⟨k,hk,rfl,hbw⟩:=hrel;have HWR:=Lib.hid (HW.out.trans (hbw.mono HW.out.size));have HN3:=Lib.hid (HN2.out.kept hbw (Nat.le_refl _));have HC3:=Lib.hid (HC2.out.kept hbw (Nat.le_refl _));have HG3:=Lib.hid (HN.out.kept HWR.out (Nat.le_refl _));have HR3:=Lib.hid (HR.out.kept HWR.out (Nat.le_refl _));have HBR:=Lib.hid hbw;have HBL:=Lib.hid fun(o o':Obj)=>Below.drew (hbw.trans ((zbo wr o o').mono hbw.size))
  have v0:=((bcell hbw).1 _ _ (zai d0)).trans d0;have v1:=((bcell hbw).1 _ _ (zai d1)).trans d1;have u1:=((bcell hbw).1 _ _ (zai f1)).trans f1;have u2:=((bcell hbw).1 _ _ (zai f2)).trans f2;have vl:=zai v0;have ul:=zai u1;clear d0 d1 f1 f2 dl fl hbw;by_cases hlt:k<fn
  ·obtain⟨x,hx⟩:∃x,f.nodes[k]?=some x:=⟨_,List.getElem?_eq_getElem (by rw[HFL.out];exact hlt)⟩
   obtain⟨y,hy,hop,⟨hs0,hs1,hs2,hs3⟩,hkl,hcall⟩:=HFN.out k x hx;obtain⟨nb,no,en,kv,c0,c1,c2,c3,c4,c5,c6,hK,-⟩:=yaa6 HN3.out hx;obtain⟨gb,go,eg,kw,g0,g1,g2,g3,g4,g5,g6,hL,-⟩:=yaa6 HG3.out hy;obtain⟨ka,kc,rfl⟩:∃ka kc,kv=.slice ka x.kids.length kc:=by
    obtain⟨a,c,e,-⟩:=hK;exact⟨a,c,e⟩
   obtain⟨la,lc,rfl⟩:∃ka kc,kw=.slice ka y.kids.length kc:=by
    obtain⟨a,c,e,-⟩:=hL;exact⟨a,c,e⟩
   rw[<-hop] at g0;rw[<-hs0] at g3;rw[<-hs1] at g4;rw[<-hs2] at g5;rw[<-hs3] at g6;rw[<-hkl] at g1;obtain⟨m,hm⟩:∃m,a+k=m:=⟨_,rfl⟩;have em:(a:Int)+(k:Int)=(m:Int):=by omega
   rw[hm] at g0 g1 g2 g3 g4 g5 g6;rw[en] at u1;rw[eg] at v1;have nl:=zai c0;have glt:=zai g0;have k1:(k:Int)<(fn:Int):=by omega
   have k2:(m:Int)<(nn:Int):=by have:=(List.getElem?_eq_some_iff.1 hy).1;have:=HNN.out;omega
   have qs:∀w,(binOp .neq 41 (.agg #[.int .u64 x.s0,.int .u64 x.s1,.int .u64 x.s2,.int .u64 x.s3]) (.agg #[.int .u64 x.s0,.int .u64 x.s1,.int .u64 x.s2,.int .u64 x.s3])).run Tryz.prog w=.ok (.bool false) w:=fun w=>by rw[zl1,zrj];simp
   have HSE:=Lib.hid qs;have HWR2:=Lib.hid fun(o o':Obj)=>HWR.out.trans ((zbo wr o o').mono HWR.out.size)
   clear qs en eg hK hL hx hy hop hs0 hs1 hs2 hs3 hkl hm;by_cases h2:x.op=2
   ·obtain⟨p,q,c,r,hp,hcc,hq,hr,hnr⟩:=hcall h2
    have hpl:=(List.getElem?_eq_some_iff.1 hcc).1;obtain⟨cb,co,eca,hcells⟩:∃b off,ca=some ⟨b,off,none⟩/\∀j u,(zcw f.calls)[j]?=some u->wr.cell? ⟨b,off+j,none⟩=some u:=HC3.out.src.resolve_left (by omega);obtain⟨cc0,-,ccl⟩:=zcy hcells hcc (Below.refl _ _);obtain⟨rb,ro,era,rr0,-⟩:=yacf HR3.out hr;have rrl:=zai rr0;rw[hnr] at rr0;rw[hp] at c2;rw[hq] at g2;rw[h2] at c0 g0;rw[eca] at u2;rw[era] at v0;obtain⟨SN,hSN⟩:∃SN,strOf c.1=SN:=⟨_,rfl⟩;rw[hSN] at cc0 rr0;obtain⟨cn,hcn⟩:∃cn,f.calls.length=cn:=⟨_,rfl⟩;rw[hcn] at u2 hpl;have p2:(p:Int)<(cn:Int):=by omega
    have p4:(q:Int)<(rn:Int):=by have:=(List.getElem?_eq_some_iff.1 hr).1;have:=HRN.out;omega
    have p3:¬(cn:Int)<=(p:Int):=by omega
    have p3n:¬cn<=p:=by omega
    have p3d:decide ((p:Int) ≥ (cn:Int))=false:=decide_eq_false (by omega);have p3e:decide ((cn:Int)<=(p:Int))=false:=decide_eq_false (by omega);clear hcall h2 hp hcc hq hr hnr hcells eca era hSN hcn hpl
    go_wp2_with (with_reducible refine zaf BinOp.neq 41 _ _ _ rfl rfl _ _ rfl rfl zal _ (HSE.out _) ?_)
    have o1:=zaa wr (.cells #[.int .i64 2,.slice ka x.kids.length kc,.int .i64 (p:Int),.int .u64 x.s0,.int .u64 x.s1,.int .u64 x.s2,.int .u64 x.s3] 54);have o2:=zaa (wr.alloc (.cells #[.int .i64 2,.slice ka x.kids.length kc,.int .i64 (p:Int),.int .u64 x.s0,.int .u64 x.s1,.int .u64 x.s2,.int .u64 x.s3] 54)) (.cells #[.int .i64 2,.slice la x.kids.length lc,.int .i64 (q:Int),.int .u64 x.s0,.int .u64 x.s1,.int .u64 x.s2,.int .u64 x.s3] 54);have X1:=(Bl.new wr 54 #[.int .i64 2,.slice ka x.kids.length kc,.int .i64 (p:Int),.int .u64 x.s0,.int .u64 x.s1,.int .u64 x.s2,.int .u64 x.s3]).below o2;have Y1:=Bl.new (wr.alloc (.cells #[.int .i64 2,.slice ka x.kids.length kc,.int .i64 (p:Int),.int .u64 x.s0,.int .u64 x.s1,.int .u64 x.s2,.int .u64 x.s3] 54)) 54 #[.int .i64 2,.slice la x.kids.length lc,.int .i64 (q:Int),.int .u64 x.s0,.int .u64 x.s1,.int .u64 x.s2,.int .u64 x.s3];have hb2:=o1.trans (o2.mono o1.size);rw[show(wr.alloc (.cells #[.int .i64 2,.slice ka x.kids.length kc,.int .i64 (p:Int),.int .u64 x.s0,.int .u64 x.s1,.int .u64 x.s2,.int .u64 x.s3] 54)).heap.size=wr.heap.size+1 from by simp] at Y1;obtain⟨W2,hW2⟩:∃W2,((wr.alloc (.cells #[.int .i64 2,.slice ka x.kids.length kc,.int .i64 (p:Int),.int .u64 x.s0,.int .u64 x.s1,.int .u64 x.s2,.int .u64 x.s3] 54)).alloc (.cells #[.int .i64 2,.slice la x.kids.length lc,.int .i64 (q:Int),.int .u64 x.s0,.int .u64 x.s1,.int .u64 x.s2,.int .u64 x.s3] 54))=W2:=⟨_,rfl⟩;rw[hW2] at X1 Y1 hb2;rw[hW2];obtain⟨Xb,hXb⟩:∃Xb,wr.heap.size=Xb:=⟨_,rfl⟩;have HB2:=Lib.hid hb2;have x0:=X1.cell (o:=0) (u:=.int .i64 2) rfl;have x2:=X1.cell (o:=2) (u:=.int .i64 (p:Int)) rfl;have y2:=Y1.cell (o:=2) (u:=.int .i64 (q:Int)) rfl;replace u2:=((bcell hb2).1 _ _ (zai u2)).trans u2;replace v0:=((bcell hb2).1 _ _ (zai v0)).trans v0;replace cc0:=((bcell hb2).1 _ _ (zai cc0)).trans cc0;replace rr0:=((bcell hb2).1 _ _ (zai rr0)).trans rr0;obtain⟨Fb,hFb⟩:∃Fb,w5.heap.size=Fb:=⟨_,rfl⟩;obtain⟨Gb,hGb⟩:∃Gb,w.heap.size=Gb:=⟨_,rfl⟩;rw[hXb] at x0 x2 y2;rw[hFb] at u2;rw[hGb] at v0;rw[hXb,hFb,hGb];have HXB:=Lib.hid hXb;have HGB:=Lib.hid hGb;have HFB:=Lib.hid hFb;clear o1 o2 X1 Y1 hb2 hW2 hXb hFb hGb c0 c1 c2 c3 c4 c5 c6 g0 g1 g2 g3 g4 g5 g6 u1 v1 ccl rrl nl glt vl ul;have hS:W2.drew.cell? ⟨Xb,0,none⟩=some (.int .i64 2)/\W2.drew.cell? ⟨Xb,2,none⟩=some (.int .i64 (p:Int))/\W2.drew.cell? ⟨Xb+1,2,none⟩=some (.int .i64 (q:Int))/\W2.drew.cell? ⟨Fb,2,none⟩=some (.slice (some ⟨cb,co,none⟩) cn cc)/\W2.drew.cell? ⟨Gb,0,none⟩=some (.slice (some ⟨rb,ro,none⟩) rn rc)/\W2.drew.cell? ⟨cb,co+p*2,none⟩=some (.string SN)/\W2.drew.cell? ⟨rb,ro+q*2,none⟩=some (.string SN)/\Below W2.heap.size W2 W2.drew:=⟨x0,x2,y2,u2,v0,cc0,rr0,Below.drew (Below.refl _ _)⟩;clear x0 x2 y2 u2 v0 cc0 rr0
    go_region_held3 (fun W=>W.cell? ⟨Xb,0,none⟩=some (.int .i64 2)/\W.cell? ⟨Xb,2,none⟩=some (.int .i64 (p:Int))/\W.cell? ⟨Xb+1,2,none⟩=some (.int .i64 (q:Int))/\W.cell? ⟨Fb,2,none⟩=some (.slice (some ⟨cb,co,none⟩) cn cc)/\W.cell? ⟨Gb,0,none⟩=some (.slice (some ⟨rb,ro,none⟩) rn rc)/\W.cell? ⟨cb,co+p*2,none⟩=some (.string SN)/\W.cell? ⟨rb,ro+q*2,none⟩=some (.string SN)/\Below W2.heap.size W2 W) (first|exact hS) (fail)
    obtain⟨-,-,-,-,-,-,-,hbz⟩:=hS;have HBZ:=Lib.hid hbz;clear hbz;go_wp2;rw[<-HFB.out,<-HGB.out];go_roundw
    case rel=>exact⟨k+1,by omega,by go_num,HBR.out.trans ((HB2.out.trans (HBZ.out.mono HB2.out.size)).mono HBR.out.size)⟩
    case measure=>simp[intOf];omega
   ·have q2:(x.op == 2)=false:=by rw[beq_eq_false_iff_ne];exact h2
    clear hcall h2
    go_wp2_with (with_reducible refine zaf BinOp.neq 41 _ _ _ rfl rfl _ _ rfl rfl zal _ (HSE.out _) ?_)
    go_region
    go_wp2;go_roundw
    case rel=>exact⟨k+1,by omega,by go_num,HBL.out _ _⟩
    case measure=>simp[intOf];omega
  ·obtain rfl:k=fn:=by omega
   have k1:¬(k:Int)<(k:Int):=by omega
   go_wp2;go_ret;exact⟨rfl,HWR.out⟩
end
section
open Go.RowKit
theorem yal7 {rs:List PR}{ns:List PN}(hk:chkL rs ns=.ok)(hw:∀n,n ∈ ns->z87 n):GVal ns ctN/\(∀i,i<ns.length->dpL ns i<=201)/\(∀(i:Nat) (n:PN),ns[i]?=some n->n.op=1->Lx false (cxN n) [ctN n])/\∀(i:Nat) (n:PN),ns[i]?=some n->n.op=2->nameB (nmOf rs n.rule)=true:=by
 obtain⟨h1,h2,h3,h4,h5,h6,h7⟩:=z3k hk;have hmade:∀(i:Nat) (n:PN),ns[i]?=some n->madeB n rs.length=true:=fun i n hn=>by
  have:=h5 i (List.getElem?_eq_some_iff.1 hn).1;unfold zbv at this;rw[hn] at this;simpa using this
 have hc:=fun(i:Nat) (n:PN) (hn:ns[i]?=some n) (h:n.op=1)=>yafj (hmade i n hn) h (hw n (List.mem_of_getElem? hn))
 refine⟨⟨zuh h6,fun i n hn=>⟨rs.length,hmade i n hn⟩,fun i n hn h=>(hc i n hn h).1⟩,fun i hi=>Nat.le_succ_of_le (h7 i hi),fun i n hn h=>(hc i n hn h).2,fun i n hn ho=>?_⟩;rcases z9h (hmade i n hn) with⟨h0,-⟩|⟨h0,-⟩|⟨-,-,ha,hb,-⟩|⟨h0,-⟩|⟨h0,-⟩
 ·omega
 ·omega
 ·obtain⟨r,hr⟩:∃r,rs[n.rule.toNat]?=some r:=⟨_,List.getElem?_eq_getElem (by omega)⟩
  have:=h4 _ (List.getElem?_eq_some_iff.1 hr).1;unfold zbp at this;rw[hr] at this;have:=(Bool.or_eq_false_iff.1 this).2;unfold nmOf;rw[hr];simpa using this
 ·omega
 ·omega
theorem yae5 (rv nv:Value)(rs:List PR)(ns:List PN)(w:World)(hl:SignsAt w)(hS:SgnAt w)(hR:RulesIn w rv rs)(hN:NodesAt w nv ns)(hw:∀n,n ∈ ns->z87 n)(j:Nat)(hj:j<65536) :
  Calls Tryz.prog 7 #[.agg #[rv,nv],.int .u16 (j:Int)] w fun e w'=>e=.returned (.bool true)/\Below w.heap.size w w':=by
 cases h:(fewB rs ns&&okB (chkL rs ns)) with
 |false=>exact yae4 rv nv w (awk10 hl hS) _ (sml10 hR hN h)
 |true=>
  obtain⟨hf,ho⟩:=Bool.and_eq_true_iff.1 h;obtain⟨-,ra,rc,rfl,-⟩:=id hR;obtain⟨-,na,nc,rfl,-⟩:=id hN;have hk:=yah0 ho;obtain⟨hnm,hkd,hrl,hnl⟩:=z9r hf;have hn0:0<ns.length:=by
   obtain⟨-,-,hr0,-⟩:=z3k hk;obtain⟨r,hr⟩:∃r,rs[0]?=some r:=⟨_,List.getElem?_eq_getElem hr0⟩;obtain⟨q,-,hq⟩:=z9t hk (List.mem_of_getElem? hr);omega
  obtain⟨i,hi⟩:∃i,j%ns.length=i:=⟨_,rfl⟩;have hil:i<ns.length:=hi ▸ Nat.mod_lt _ hn0;obtain⟨hv,hd,hc,hnn⟩:=yal7 hk hw;obtain⟨f,h1,h2,h3⟩:=yaf2 hv hd hc hnn hil;have hls:=yaag hk hnm hnl hil 0;have hxl:=(yaal hk hil).2.2;refine yain ra na rc nc rs ns w hS (awk10 hl hS) j hj hf hk hw (sml10 hR hN h) i hi f (fun W hb=>?_) h2 h3 hR hN;have hx:=z96 (strOf (tx ns (nmOf rs) cxN 0 (i:Int))) W (hl.kept hb (Nat.le_refl _)) (by rw[zb0];omega);rw[yajm hk hil,yag2,h1] at hx;refine hx.mono fun e w' h=>?_
  obtain⟨rv,nv,cv,qs,rfl,k1,k2,k3,k4⟩:=h;obtain⟨va,vc,rfl⟩:=zag k3;obtain⟨na2,nc2,rfl⟩:=zag k1.2.1;obtain⟨ca,cc,rfl⟩:=zag k2;refine⟨va,vc,na2,nc2,ca,cc,rfl,k1.nodes (by unfold maxLen;omega) (fun x hx=>?_),CellsAt.of_own k2,k4⟩;obtain⟨k,hk2⟩:=List.getElem?_of_mem hx;obtain⟨y,hy,hlike⟩:=h3 k x hk2;have:=hkd y (List.mem_of_getElem? hy);have:=hlike.2.2.1;unfold maxLen;omega
end
end Go.Proofs.YtmopdlbpkiaoeaaGreatDoor
