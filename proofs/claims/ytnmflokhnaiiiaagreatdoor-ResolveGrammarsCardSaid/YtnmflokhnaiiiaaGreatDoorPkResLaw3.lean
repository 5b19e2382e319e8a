/- ResolveGrammars. Written by wip/gen/reslaw3.py. -/
import Derived.Test.YtnmflokhnaiiiaaGreatDoorPkJ1
import Derived.Test.YtnmflokhnaiiiaaGreatDoorPkRR
set_option maxRecDepth 100000
set_option maxHeartbeats 8000000
namespace Go.Proofs.YtnmflokhnaiiiaaGreatDoor
section
open Go.RowKit
theorem zyq {er:Err}{c:Int}{ty:TypeId}{iv:Value}{w:World}(hv:er.val=.iface ty iv)(hc:er.codeOf=some c)(he:er.In w)(hg:w.cell? ⟨0,0,none⟩=some (rt 28)):Calls Tryz.prog 14 #[.iface ty iv] w fun ev w'=>ev=.returned (.tuple #[.int .i64 c,.bool true])/\Below w.heap.size w w':=by
 rw[<-hv];exact zm6 er c w hc he hg
theorem z1u (hA:zbx)(s:ByteArray)(w:World)(hl:LexLaid w)(hb:1000<s.size):Calls Tryz.prog 5 #[.string s] w fun e w'=>e=.returned (.bool true)/\Below w.heap.size w w':=by
 have HAW:=Lib.hid fun(W:World) (hb:Below w.heap.size w W)=>hA W (hl.kept hb (Nat.le_refl _))
 have HB0:=Lib.hid (Below.refl w.heap.size w);have HL:=Lib.hid hl;have k1:(1000:Int)<(s.size:Int):=by omega
 clear hl hA hb;go_enter Tryz.func5,Tryz.ntmps5
 go_wp2_with (first
  |(go_at_call 10;(with_reducible refine(HAW.out _ HB1.out).mono ?_);rintro e w2 ⟨rfl,hb⟩;have HB2:=Lib.hid (HB1.out.trans (hb.mono HB1.out.size));clear hb)
  |(go_at_call 10;(with_reducible refine(HAW.out _ HB0.out).mono ?_);rintro e w1 ⟨rfl,hb⟩;have HB1:=Lib.hid hb;clear hb))
 go_ret;exact⟨rfl,HB2.out⟩
theorem z1v (hA:zbx)(s:ByteArray)(w:World)(hl:LexLaid w)(hs:s.size<=1000)(c:Int)(hc:c≠0)(hn:∀W,Below w.heap.size w W->Calls Tryz.prog 24 #[.string s] W (GErrC c W))(hr:∀W,Calls Tryz.prog 25 #[.string s] W (RErr c W)):Calls Tryz.prog 5 #[.string s] w fun e w'=>e=.returned (.bool true)/\Below w.heap.size w w':=by
 have HAW:=Lib.hid fun(W:World) (hb:Below w.heap.size w W)=>hA W (hl.kept hb (Nat.le_refl _))
 have HB0:=Lib.hid (Below.refl w.heap.size w);have HL:=Lib.hid hl;have k1:¬(1000:Int)<(s.size:Int):=by omega
 have HN:=Lib.hid hn;have HR:=Lib.hid hr;have hc0:(c == 0)=false:=zae hc;clear hl hA hs hn hr hc;go_enter Tryz.func5,Tryz.ntmps5
 go_upto_region 4 with(first
  |(go_at_call 10;(with_reducible refine(HAW.out _ HB0.out).mono ?_);rintro e w1 ⟨rfl,hb⟩;have HB1:=Lib.hid hb;clear hb)
  |(go_at_call 24;(with_reducible refine(HN.out _ HB1.out).mono ?_);rintro e w2 ⟨er,⟨he,hE,hb⟩,hco⟩;obtain⟨ty,iv,hv⟩:=er.val_ne;rw[hv] at he;subst he;have hn:=zaa w2 (.cells #[.slice none 0 0,.slice none 0 0] 40);have hbn:=hb.trans (hn.mono hb.size);have HE2:=Lib.hid (hE.kept hn (Nat.le_refl _));have HCO:=Lib.hid hco;have HV:=Lib.hid hv;have HG2:=Lib.hid (Bl.new w2 40 #[.slice none 0 0,.slice none 0 0]);have HB2:=Lib.hid (HB1.out.trans (hbn.mono HB1.out.size));clear hE hb hco hv hn hbn))
 obtain⟨W2,hW2⟩:∃W2,w2.alloc (.cells #[.slice none 0 0,.slice none 0 0] 40)=W2:=⟨_,rfl⟩;obtain⟨G,hG⟩:∃G,w2.heap.size=G:=⟨_,rfl⟩;rw[hW2] at HE2 HG2 HB2;rw[hG] at HG2;rw[hW2,hG];clear hW2 hG
 go_upto_region 5 with(go_at_call 25;(with_reducible refine(HR.out _).mono ?_);rintro e w3 ⟨rfl,hb⟩;have hn:=zaa w3 (.cells #[.slice none 0 0,.slice none 0 0] 40);have hbn:=hb.trans (hn.mono hb.size);have HE3:=Lib.hid (HE2.out.kept hbn (Nat.le_refl _));have HG3:=Lib.hid (HG2.out.below hbn);have HB3:=Lib.hid (HB2.out.trans (hbn.mono HB2.out.size));clear hb hn hbn)
 obtain⟨W3,hW3⟩:∃W3,w3.alloc (.cells #[.slice none 0 0,.slice none 0 0] 40)=W3:=⟨_,rfl⟩;rw[hW3] at HE3 HG3 HB3;rw[hW3];clear hW3;have HKC:=Lib.hid (zyq HV.out HCO.out HE3.out (zhp HL.out.1 HB3.out))
 go_wp2_with (first
  |(go_at_call 14;(with_reducible refine HKC.out.mono ?_);rintro e w4 ⟨rfl,hb⟩;have HG4:=Lib.hid (HG3.out.below hb);have HB4:=Lib.hid (HB3.out.trans (hb.mono HB3.out.size));clear hb;have g0:=HG4.out.cell (o:=0) (u:=.slice none 0 0) rfl;have g1:=HG4.out.cell (o:=1) (u:=.slice none 0 0) rfl;have gl:=HG4.out.lt)
  |(go_at_call 13;(with_reducible refine(zjt _).mono ?_);rintro e w5 ⟨rfl,hb⟩;have HB5:=Lib.hid (HB4.out.trans (hb.mono HB4.out.size));clear hb))
 go_ret;exact⟨rfl,HB5.out⟩
theorem z1w (rv nv:Value)(rs:List PR)(ns:List PN)(w:World)(hR:RulesIn w rv rs)(hN:NodesAt w nv ns)(hnm:∀r,r ∈ rs->r.name.size<=2000000)(hk:chkL rs ns=.ok):Calls Tryz.prog 26 #[.agg #[rv,nv]] w fun e w'=>e=.returned (.bool true)/\Below w.heap.size w w':=by
 have h:=zx7 rv nv rs ns w hR hN hnm;rw[hk] at h;exact h
theorem z53 (hA:zbx)(s:ByteArray)(w:World)(hl:LexLaid w)(hs:s.size<=1000)(rs:List PR)(ns:List PN)(hk:chkL rs ns=.ok)(hlr:rs.length<=maxLen)(hln:ns.length<=maxLen)(hkl:∀n,n ∈ ns->n.kids.length<=maxLen)(hsz:∀r,r ∈ rs->r.name.size<=2000000)(hn:∀W,Below w.heap.size w W->Calls Tryz.prog 24 #[.string s] W (zr7 rs ns W))(hr:∀W,Calls Tryz.prog 25 #[.string s] W (zml rs ns W)):Calls Tryz.prog 5 #[.string s] w fun e w'=>e=.returned (.bool true)/\Below w.heap.size w w':=by
 have HAW:=Lib.hid fun(W:World) (hb:Below w.heap.size w W)=>hA W (hl.kept hb (Nat.le_refl _))
 have HB0:=Lib.hid (Below.refl w.heap.size w);have HL:=Lib.hid hl;have k1:¬(1000:Int)<(s.size:Int):=by omega
 have HN:=Lib.hid hn;have HR:=Lib.hid hr;have HLR:=Lib.hid hlr;have HLN:=Lib.hid hln;have HKL:=Lib.hid hkl;have HSZ:=Lib.hid hsz;have HKO:=Lib.hid hk;clear hl hA hs hn hr hlr hln hkl hsz hk;go_enter Tryz.func5,Tryz.ntmps5
 go_upto_region 4 with(first
  |(go_at_call 10;(with_reducible refine(HAW.out _ HB0.out).mono ?_);rintro e w1 ⟨rfl,hb⟩;have HB1:=Lib.hid hb;clear hb)
  |(go_at_call 24;(with_reducible refine(HN.out _ HB1.out).mono ?_);rintro e w2 ⟨rv2,nv2,qs2,rfl,hR,hN,hb⟩;obtain⟨ra2,rc2,rfl⟩:=zag hR;obtain⟨na2,nc2,rfl⟩:=zag hN.2.1;have hn:=zaa w2 (.cells #[.slice ra2 rs.length rc2,.slice na2 ns.length nc2] 40);have hbn:=hb.trans (hn.mono hb.size);have HR2:=Lib.hid (RulesIn.of_own (zab hR hn) HLR.out);have HN2:=Lib.hid ((hN.grown hn).nodes HLN.out HKL.out);have HG2:=Lib.hid (Bl.new w2 40 #[.slice ra2 rs.length rc2,.slice na2 ns.length nc2]);have HB2:=Lib.hid (HB1.out.trans (hbn.mono HB1.out.size));clear hR hN hb hn hbn))
 obtain⟨W2,hW2⟩:∃W2,w2.alloc (.cells #[.slice ra2 rs.length rc2,.slice na2 ns.length nc2] 40)=W2:=⟨_,rfl⟩;obtain⟨G,hG⟩:∃G,w2.heap.size=G:=⟨_,rfl⟩;rw[hW2] at HR2 HN2 HG2 HB2;rw[hG] at HG2;rw[hW2,hG];clear hW2 hG
 go_upto_region 5 with(go_at_call 25;(with_reducible refine(HR.out _).mono ?_);rintro e w3 ⟨ra3,rc3,na3,nc3,rfl,hR,hN,hb⟩;have hn:=zaa w3 (.cells #[.slice ra3 rs.length rc3,.slice na3 ns.length nc3] 40);have hbn:=hb.trans (hn.mono hb.size);have HR3:=Lib.hid (HR2.out.kept hbn (Nat.le_refl _));have HN3:=Lib.hid (HN2.out.kept hbn (Nat.le_refl _));have HS3:=Lib.hid (hR.kept hn (Nat.le_refl _));have HT3:=Lib.hid (hN.kept hn (Nat.le_refl _));have HG3:=Lib.hid (HG2.out.below hbn);have HH3:=Lib.hid (Bl.new w3 40 #[.slice ra3 rs.length rc3,.slice na3 ns.length nc3]);have HB3:=Lib.hid (HB2.out.trans (hbn.mono HB2.out.size));clear hR hN hb hn hbn)
 obtain⟨W3,hW3⟩:∃W3,w3.alloc (.cells #[.slice ra3 rs.length rc3,.slice na3 ns.length nc3] 40)=W3:=⟨_,rfl⟩;obtain⟨H,hH⟩:∃H,w3.heap.size=H:=⟨_,rfl⟩;rw[hW3] at HR3 HN3 HS3 HT3 HG3 HH3 HB3;rw[hH] at HH3;rw[hW3,hH];clear hW3 hH HR2 HN2 HG2 HB2;have g0:=HG3.out.cell (o:=0) (u:=.slice ra2 rs.length rc2) rfl;have g1:=HG3.out.cell (o:=1) (u:=.slice na2 ns.length nc2) rfl;have gl:=HG3.out.lt;have h0:=HH3.out.cell (o:=0) (u:=.slice ra3 rs.length rc3) rfl;have h1:=HH3.out.cell (o:=1) (u:=.slice na3 ns.length nc3) rfl;have hhl:=HH3.out.lt;have HVA:=Lib.hid fun(W:World) (hb:Below W3.heap.size W3 W)=>z1w _ _ _ _ W (HR3.out.kept hb (Nat.le_refl _)) (HN3.out.kept hb (Nat.le_refl _)) HSZ.out HKO.out
 go_wp2_with (first
  |(go_at_call 13;(with_reducible refine(zmj _ _ _ _ _ _ _ HR3.out HN3.out HS3.out HT3.out).mono ?_);rintro e w4 ⟨rfl,hb⟩;have HG4:=Lib.hid (HG3.out.below hb);have HQ4:=Lib.hid hb;clear hb g0 g1 gl h0 h1 hhl;have g0:=HG4.out.cell (o:=0) (u:=.slice ra2 rs.length rc2) rfl;have g1:=HG4.out.cell (o:=1) (u:=.slice na2 ns.length nc2) rfl;have gl:=HG4.out.lt)
  |(go_at_call 26;(with_reducible refine(HVA.out _ HQ4.out).mono ?_);rintro e w5 ⟨rfl,hb⟩;have HQ5:=Lib.hid (HQ4.out.trans (hb.mono HQ4.out.size));clear hb))
 go_ret;exact⟨rfl,HB3.out.trans (HQ5.out.mono HB3.out.size)⟩
theorem z1x (hA:zbx)(s:ByteArray)(w:World)(hl:LexLaid w):Calls Tryz.prog 5 #[.string s] w fun e w'=>e=.returned (.bool true)/\Below w.heap.size w w':=by
 by_cases hs:s.size<=1000
 ·rcases zyp s w hl (by omega) with⟨hc,hn,hr⟩|⟨rs,f,-,-,-,hK,hk,hn,hr⟩
  ·exact z1v hA s w hl hs _ hc hn hr
  ·exact z53 hA s w hl hs _ _ hk (zse hK) (zsf hK) (zhl hK) (zhk hK) hn hr
 ·exact z1u hA s w hl (by omega)
end
end Go.Proofs.YtnmflokhnaiiiaaGreatDoor
