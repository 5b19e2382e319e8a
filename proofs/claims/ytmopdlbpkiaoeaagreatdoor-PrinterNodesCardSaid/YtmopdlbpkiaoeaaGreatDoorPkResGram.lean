/- resolve's grammar. -/
import Derived.Deep.RegionLaw
import Derived.Deep.Cut
import Derived.Test.YtmopdlbpkiaoeaaGreatDoorPkResGSt
set_option maxRecDepth 100000
set_option maxHeartbeats 8000000
namespace Go.Proofs.YtmopdlbpkiaoeaaGreatDoor
section
open Go.RowKit
theorem zjq {rs:List (List Nat × Nat × Int)}{k:Nat}{x:List Nat × Nat × Int}(h:rs[k]?=some x):zb5 (zam (rs.take (k+1)))=zb5 (zam (rs.take k))++[.string (strOf x.1),.int .i64 x.2.2]:=by
 rw[za3 rs k x h];unfold zam zb5;rw[List.map_append,List.flatMap_append];rfl
theorem zjr {l m:List ByteArray}{ns:List PN}{k:Nat}{n:PN}(h:ns[k]?=some n):zan l m (ns.take (k+1))=zan l m (ns.take k)++[gNode l m n]:=by
 rw[za3 ns k n h];unfold zan;rw[List.map_append];rfl
theorem zc1 (l m:List ByteArray)(ns:List PN):(zan l m ns).length=ns.length:=List.length_map _
theorem zk8 (l m:List ByteArray)(n:PN):(gNode l m n).kids=n.kids:=by
 unfold gNode;split<;>rfl
def z6w (rs:List PR)(ns:List PN)(w:World)(e:Ending)(w':World):Prop:=∃rv nv qs,e=.returned (.agg #[rv,nv])/\w'.ownsRow w.heap.size 32 2 rv rs.length (zb5 rs)/\NRow w.heap.size nv ns qs w'/\Below w.heap.size w w'
theorem z0u (rv nv cv:Value)(rs:List (List Nat × Nat × Int))(f:MF)(b:Nat)(w:World)(h:FileIn w rv nv cv rs f)(hC:COk f)(hr:rs.length<=10000000)(hn:f.nodes.length<=100000000)(hk:∀n,n ∈ f.nodes->n.kids.length<=100000000)
  (hnm:∀r,r ∈ rs->r.1.length<=2000000) (hnc:∀r,r ∈ f.calls->r.1.length<=2000000) (hF:FinAt w b (nmR rs)) :
  Calls Tryz.prog 61 #[.agg #[rv,nv,cv],finF b] w (z6w (zam rs) (zan (nmR rs) (nmC f) f.nodes) w):=by
 obtain⟨-,⟨a1,c1,rfl,-,ha1⟩,⟨-,a2,c2,rfl,ha2⟩,a3,c3,rfl,-,ha3⟩:=h;have HA1:=Lib.hid ha1;have HA2:=Lib.hid ha2;have HA3:=Lib.hid ha3;have HM:=Lib.hid hnm;have HMC:=Lib.hid hnc;have HK:=Lib.hid hk;have HCO:=Lib.hid hC;have HFI:=Lib.hid hF;clear ha1 ha2 ha3 hnm hnc hk hC hF;have H0:Hid (GSt w #[.slice a1 rs.length c1,.slice a2 f.nodes.length c2,.slice a3 f.calls.length c3] (.slice none 0 0) 0 (zb5 (zam (rs.take 0))) (.slice none 0 0) [] [] (((w.alloc (.cells #[.slice a1 rs.length c1,.slice a2 f.nodes.length c2,.slice a3 f.calls.length c3] 46)).alloc (.cells #[.slice none 0 0,.slice none 0 0] 25)).alloc (.cells #[.slice none 0 0,.slice none 0 0] 25))):=Lib.hid ⟨(Bl.new w _ _).past.past,(Bl.new' (by simp)).past,Bl.new' (by simp),World.ownsRow_nil _ _ _ _,NRow.nil _ _,((zaa w _).trans ((zaa _ _).mono (by simp))).trans ((zaa _ _).mono (by simp<;>omega))⟩;unfold finF;go_enter Tryz.func61,Tryz.ntmps61
 go_upto_region 2 with fail
 obtain⟨W0,hW0⟩:∃W0,((w.alloc (.cells #[.slice a1 rs.length c1,.slice a2 f.nodes.length c2,.slice a3 f.calls.length c3] 46)).alloc (.cells #[.slice none 0 0,.slice none 0 0] 25)).alloc (.cells #[.slice none 0 0,.slice none 0 0] 25)=W0:=⟨_,rfl⟩;rw[hW0] at H0;rw[hW0];clear hW0;have x0:=H0.out.1.cell (o:=0) (u:=.slice a1 rs.length c1) rfl;have xl0:=H0.out.1.lt;go_wp2
 go_loopw [13] (fun c wr=>∃(k:Nat) (ra:Option Addr) (rc:Nat),k<=rs.length/\c=.int .i64 k/\GSt w #[.slice a1 rs.length c1,.slice a2 f.nodes.length c2,.slice a3 f.calls.length c3] (.slice ra k rc) k (zb5 (zam (rs.take k))) (.slice none 0 0) [] [] wr) (fun c _=>rs.length-(intOf c).toNat)
 case atStart=>exact⟨0,none,0,Nat.zero_le _,rfl,H0.out⟩
 case round=>
  clear x0 xl0;obtain⟨k,ra,rc,hk,rfl,hG⟩:=hrel;have hbs:=hG.2.2.2.2.2.size;have HB:=Lib.hid hG.2.2.2.2.2;have HG:=Lib.hid hG;by_cases hlt:k<rs.length
  ·obtain⟨x,hx⟩:∃x,rs[k]?=some x:=⟨_,List.getElem?_eq_getElem hlt⟩
   rcases HA1.out with hz|⟨ab,ao,rfl,hca⟩
   ·rw[hz] at hlt;exact absurd hlt (Nat.not_lt_zero _)
   obtain⟨e0,e1,e2,e3⟩:=zdt hca hx HB.out;have k1:(k:Int)<(rs.length:Int):=by omega
   have HX:=Lib.hid (zjq hx);have hxs:(strOf x.1).size<=2000000:=by rw[zb0];exact HM.out x (List.mem_of_getElem? hx)
   have HCL:=Lib.hid (fun W=>ze1 (strOf x.1) W hxs);obtain⟨ir,hir,hzr0,hzr1,hzr2⟩:=info_parts zrl;have HW:=Lib.hid (Bl.new wr 123 #[.string (strOf x.1),.int .i64 (x.2.1:Int),.int .i64 x.2.2]);have HG1:=Lib.hid (hG.below (zaa wr (.cells #[.string (strOf x.1),.int .i64 (x.2.1:Int),.int .i64 x.2.2] 123)));clear hca hx hG hxs
   go_upto_region 5 with fail
   obtain⟨W1,hW1⟩:∃W1,wr.alloc (.cells #[.string (strOf x.1),.int .i64 (x.2.1:Int),.int .i64 x.2.2] 123)=W1:=⟨_,rfl⟩;rw[hW1] at HW HG1;rw[hW1];obtain⟨R,hR⟩:∃R,wr.heap.size=R:=⟨_,rfl⟩;rw[hR] at HW;rw[hR];clear hW1 hR e0 e1 e2 e3 hbs HB;have hbs1:=HG1.out.2.2.2.2.2.size;have f0:=HW.out.cell (o:=0) (u:=.string (strOf x.1)) rfl;have f2:=HW.out.cell (o:=2) (u:=.int .i64 x.2.2) rfl;have fl:=HW.out.lt;have g0:=HG1.out.2.2.1.cell (o:=0) (u:=.slice ra k rc) rfl;have gl:=HG1.out.2.2.1.lt
   go_region_law (first
    |(go_simp;go_at_call 90;(refine(HCL.out _).mono ?_);rintro e w3 ⟨rfl,hb⟩;have hb3:Below W1.heap.size W1 w3:=Below.trans (by repeat (first|exact Below.refl _ _|refine Below.drew ?_)) (hb.mono (by simp));have hbs3:=hb3.size;have HW3:=Lib.hid (HW.out.below hb3);have HG3:=Lib.hid (HG1.out.below hb3);clear f0 f2 fl g0 gl hb hb3;have f3:=HW3.out.cell (o:=2) (u:=.int .i64 x.2.2) rfl;have fl3:=HW3.out.lt;have g3:=HG3.out.2.2.1.cell (o:=0) (u:=.slice ra k rc) rfl;have gl3:=HG3.out.2.2.1.lt)
    |(refine zcs (by rfl) _ _ 22 (by rfl) w.heap.size 32 ir _ 2 24 Tryz.underlying22 hir hzr0 hzr1 hzr2 (by rfl) (by decide) (.slice ra k rc) k _ (by simp[Act.eval]) (by refine zab HG3.out.2.2.2.1 ?_;repeat (first|exact Below.refl _ _|refine Below.drew ?_|refine zac ?_ rfl _)) _ 1 1 [.string (strOf x.1),.int .i64 x.2.2] (by simp[Act.eval];rfl) (by rfl) (by refine Bl.news (t:=32) ?_;repeat (first|(refine Bl.new' ?_;simp;done)|refine Bl.drew ?_|refine Bl.past ?_)) (by simp[Value.oneCell']) (by unfold maxLen;omega) (by omega) (by simp;omega) ?_;intro a5 c5 w5 hown5 hgrow5 hat5;have HG5:=Lib.hid (GSt.rule (HG3.out.below (by repeat (first|exact Below.refl _ _|refine Below.drew ?_|refine zac ?_ rfl _))) hgrow5 hown5);have hm5:=GSt.mid (HG3.out.below (by repeat (first|exact Below.refl _ _|refine Below.drew ?_|refine zac ?_ rfl _))) hgrow5;have z0:=hm5.cell (o:=0) (u:=.slice ra k rc) rfl;have zf:=hm5.free 0;have zl:=hm5.lt;clear hown5 hgrow5 hat5 hm5))
   all_goals
    rw[<-HX.out] at HG5;go_wp2;go_roundw
    case rel=>exact⟨k+1,a5,c5,hlt,by go_num,HG5.out⟩
    case measure=>simp[intOf];omega
  ·obtain rfl:k=rs.length:=by omega
   have k1:¬(rs.length:Int)<(rs.length:Int):=by omega
   have HG2:Hid (GSt w #[.slice a1 rs.length c1,.slice a2 f.nodes.length c2,.slice a3 f.calls.length c3] (.slice ra rs.length rc) rs.length (zb5 (zam rs)) (.slice none 0 0) (zan (nmR rs) (nmC f) (f.nodes.take 0)) [] wr):=Lib.hid (by
    have:=HG.out;rw[List.take_length] at this;exact this)
   have x1:=HG2.out.1.cell (o:=1) (u:=.slice a2 f.nodes.length c2) rfl;have xl0:=HG2.out.1.lt;clear hG H0 HG HB hbs hlt hk;go_wp2
   go_loopw [32] (fun c wq=>∃(i:Nat) (na:Option Addr) (nc:Nat) (qs:List Value),i<=f.nodes.length/\c=.int .i64 i/\GSt w #[.slice a1 rs.length c1,.slice a2 f.nodes.length c2,.slice a3 f.calls.length c3] (.slice ra rs.length rc) rs.length (zb5 (zam rs)) (.slice na i nc) (zan (nmR rs) (nmC f) (f.nodes.take i)) qs wq) (fun c _=>f.nodes.length-(intOf c).toNat)
   case atStart=>exact⟨0,none,0,[],Nat.zero_le _,rfl,HG2.out⟩
   case round=>
    clear x1 xl0 k1 HG2;obtain⟨i,na,nc,qs,hi,rfl,hG⟩:=hrel;have hbs:=hG.2.2.2.2.2.size;have HB:=Lib.hid hG.2.2.2.2.2;have HG:=Lib.hid hG;by_cases hlt:i<f.nodes.length
    ·obtain⟨n,hn'⟩:∃n,f.nodes[i]?=some n:=⟨_,List.getElem?_eq_getElem hlt⟩
     rcases HA2.out with hz|⟨ab,ao,rfl,hca⟩
     ·rw[hz] at hlt;exact absurd hlt (Nat.not_lt_zero _)
     obtain⟨kv,d0,d1,d2,d3,d4,d5,d6,di,dl⟩:=(hca i n hn').kept HB.out (Nat.le_refl _);have hkl:=HK.out n (List.mem_of_getElem? hn');have la:=zai d0;have k1:(i:Int)<(f.nodes.length:Int):=by omega
     have HX:=Lib.hid (zjr (l:=nmR rs) (m:=nmC f) hn');have HNK:=Lib.hid hn';have DI:=Lib.hid di;obtain⟨ka,kc,rfl,-⟩:=di;clear hca hn' dl;have HLEN:Hid ((zan (nmR rs) (nmC f) (f.nodes.take i)).length=i):=Lib.hid (by rw[zc1,List.length_take];omega);obtain⟨ii,hii,hzi0,hzi1,hzi2⟩:=info_parts zd1;obtain⟨ie,hie,hze0,hze1,hze2⟩:=info_parts zik;have HN1:=Lib.hid (Bl.new wr 54 #[.int .i64 n.op,.slice ka n.kids.length kc,.int .i64 n.rule,.int .u64 n.s0,.int .u64 n.s1,.int .u64 n.s2,.int .u64 n.s3]);have HB1:=Lib.hid (zaa wr (.cells #[.int .i64 n.op,.slice ka n.kids.length kc,.int .i64 n.rule,.int .u64 n.s0,.int .u64 n.s1,.int .u64 n.s2,.int .u64 n.s3] 54));have HSRC:=Lib.hid (DI.out.kept HB1.out (Nat.le_refl _)).src
     go_upto_region 10 with fail
     obtain⟨W1,hW1⟩:∃W1,wr.alloc (.cells #[.int .i64 n.op,.slice ka n.kids.length kc,.int .i64 n.rule,.int .u64 n.s0,.int .u64 n.s1,.int .u64 n.s2,.int .u64 n.s3] 54)=W1:=⟨_,rfl⟩;rw[hW1] at HN1 HB1 HSRC;rw[hW1];obtain⟨R,hR⟩:∃R,wr.heap.size=R:=⟨_,rfl⟩;rw[hR] at HN1 hbs;rw[hR];have n1:=HN1.out.cell (o:=1) (u:=.slice ka n.kids.length kc) rfl;have nl:=HN1.out.lt;clear hW1 d0 d1 d2 d3 d4 d5 d6 la hG
     go_upto_region 11 with(at_builtin;(refine zf6 _ rfl _ _ 52 rfl w.heap.size 3 ii (.int .i64 0) 1 8 Tryz.underlying52 hii hzi0 hzi1 hzi2 rfl (by decide) rfl ka n.kids.length kc (intsV n.kids) rfl (by unfold intsV;rw[List.length_map,Nat.mul_one]) HSRC.out (ints_oneCell .i64 n.kids) (by unfold maxLen;omega) (by omega) (by omega) ?_);intro a5 c5 w5 hown5 hgrow5;have hb5:=zb1 hgrow5;have HN5:=Lib.hid (HN1.out.below hb5);have n5:=HN5.out.cell (o:=1) (u:=.slice ka n.kids.length kc) rfl;have nf5:=HN5.out.free 1;have nl5:=HN5.out.lt;have HO5:=Lib.hid hown5;have HB5:=Lib.hid (HB1.out.trans (hb5.mono HB1.out.size));clear hown5 hgrow5 hb5)
     have HB2:=Lib.hid (HB5.out.setCell (p:=⟨R,1,none⟩) (by rw[hR];exact Nat.le_refl R) (.slice a5 n.kids.length c5));have HN2:Hid (Bl (w5.setCell ⟨R,1,none⟩ (.slice a5 n.kids.length c5)) R 54 #[.int .i64 n.op,.slice a5 n.kids.length c5,.int .i64 n.rule,.int .u64 n.s0,.int .u64 n.s1,.int .u64 n.s2,.int .u64 n.s3]):=Lib.hid (HN5.out.put _);have HO2:=Lib.hid (ownsRow_setCell_other HO5.out (a:=⟨R,1,none⟩) (zaq HO5.out HN5.out (by decide)) (.slice a5 n.kids.length c5));obtain⟨W2,hW2⟩:∃W2,w5.setCell ⟨R,1,none⟩ (.slice a5 n.kids.length c5)=W2:=⟨_,rfl⟩;rw[hW2] at HB2 HN2 HO2;rw[hW2];have HG2:=Lib.hid (HG.out.below HB2.out);clear hW2 n1 nl n5 nf5 nl5 HN5 HO5 HB5 HN1 HB1 HSRC DI;have hs2:=HB2.out.size;rw[hR] at hs2;have b2:=HG2.out.1.cell (o:=2) (u:=.slice a3 f.calls.length c3) rfl;have bl:=HG2.out.1.lt;have y0:=HN2.out.cell (o:=0) (u:=.int .i64 n.op) rfl;have y1:=HN2.out.cell (o:=1) (u:=.slice a5 n.kids.length c5) rfl;have y3:=HN2.out.cell (o:=3) (u:=.int .u64 n.s0) rfl;have y4:=HN2.out.cell (o:=4) (u:=.int .u64 n.s1) rfl;have y5:=HN2.out.cell (o:=5) (u:=.int .u64 n.s2) rfl;have y6:=HN2.out.cell (o:=6) (u:=.int .u64 n.s3) rfl;have yf:=HN2.out.free 2;have yl:=HN2.out.lt;by_cases h2:n.op=2
     ·obtain⟨c,hcr,hcl⟩:=HCO.out.rule HNK.out h2
      obtain⟨x,hx⟩:∃x,f.calls[c]?=some x:=⟨_,List.getElem?_eq_getElem hcl⟩;rcases HA3.out with hz|⟨cb,co,rfl,hca⟩
      ·rw[hz] at hcl;exact absurd hcl (Nat.not_lt_zero _)
      have HBW:=Lib.hid (HG2.out.2.2.2.2.2);obtain⟨e0,-,e3⟩:=zcy hca hx HBW.out;have y2:=HN2.out.cell (o:=2) (u:=.int .i64 n.rule) rfl;rw[hcr] at y2;have HNP:Hid (gNode (nmR rs) (nmC f) n=⟨n.op,n.kids,idxO (fndL (nmR rs) (strOf x.1)),n.s0,n.s1,n.s2,n.s3⟩):=Lib.hid (by
       have e:(nmC f).getD n.rule.toNat ByteArray.empty=strOf x.1:=by
        rw[hcr,Int.toNat_natCast,List.getD_eq_getElem?_getD,zgx hx];rfl
       unfold gNode;rw[if_pos h2,e])
      have hxs:(strOf x.1).size<=2000000:=by rw[zb0];exact HMC.out x (List.mem_of_getElem? hx)
      have HFN:=Lib.hid (zim (strOf x.1) b (nmR rs) W2 (HFI.out.below HBW.out) (by unfold maxLen;omega));obtain⟨z,hz⟩:∃z,idxO (fndL (nmR rs) (strOf x.1))=z:=⟨_,rfl⟩;rw[hz] at HFN HNP;have q1:(n.op == 2)=true:=by rw[h2];rfl
      have q2:(0:Int)<=(c:Int):=by omega
      have q3:(c:Int)<(f.calls.length:Int):=by omega
      have HN3:Hid (Bl (W2.setCell ⟨R,2,none⟩ (.int .i64 z)) R 54 #[.int .i64 n.op,.slice a5 n.kids.length c5,.int .i64 z,.int .u64 n.s0,.int .u64 n.s1,.int .u64 n.s2,.int .u64 n.s3]):=Lib.hid (HN2.out.put _);have HO3:=Lib.hid (ownsRow_setCell_other HO2.out (a:=⟨R,2,none⟩) (zaq HO2.out HN2.out (by decide)) (.int .i64 z));have HG3:=Lib.hid (HG.out.below (HB2.out.setCell (p:=⟨R,2,none⟩) (by rw[hR];exact Nat.le_refl R) (.int .i64 z)));clear hca hx hxs hz h2 hcr
      go_upto_region 13 with(go_at_call 89;(with_reducible refine HFN.out.mono ?_);rintro e w3 ⟨rfl,hw3⟩;obtain rfl:=hw3.symm;clear hw3)
      clear b2 bl y0 y1 y2 y3 y4 y5 y6 yf yl e0 e3 HFN;obtain⟨W3,hW3⟩:∃W3,W2.setCell ⟨R,2,none⟩ (.int .i64 z)=W3:=⟨_,rfl⟩;rw[hW3] at HN3 HO3 HG3;rw[hW3];clear hW3 HG2 HO2 HN2 HB2;have hs3:=HG3.out.2.2.2.2.2.size;have g1:=HG3.out.2.2.1.cell (o:=1) (u:=.slice na i nc) rfl;have gl:=HG3.out.2.2.1.lt;have y0:=HN3.out.cell (o:=0) (u:=.int .i64 n.op) rfl;have y1:=HN3.out.cell (o:=1) (u:=.slice a5 n.kids.length c5) rfl;have y2:=HN3.out.cell (o:=2) (u:=.int .i64 z) rfl;have y3:=HN3.out.cell (o:=3) (u:=.int .u64 n.s0) rfl;have y4:=HN3.out.cell (o:=4) (u:=.int .u64 n.s1) rfl;have y5:=HN3.out.cell (o:=5) (u:=.int .u64 n.s2) rfl;have y6:=HN3.out.cell (o:=6) (u:=.int .u64 n.s3) rfl;have yl:=HN3.out.lt;have HCC:=Lib.hid (zc7 W3 (nodeC ((⟨n.op,n.kids,z,n.s0,n.s1,n.s2,n.s3⟩:PN),.slice a5 n.kids.length c5)) 54)
      go_wp2_with (at_builtin;(refine wpList_append_own _ rfl _ _ 23 rfl w.heap.size 54 ie _ 7 72 Tryz.underlying23 hie hze0 hze1 hze2 rfl (by decide) _ (zan (nmR rs) (nmC f) (f.nodes.take i)).length _ rfl (zab HG3.out.2.2.2.2.1.2.1 (zaa W3 _)) ⟨_,0,none⟩ 1 1 (nodeC ((⟨n.op,n.kids,z,n.s0,n.s1,n.s2,n.s3⟩:PN),.slice a5 n.kids.length c5)) rfl rfl HCC.out (by simp[nodeC,Value.oneCell']) (by rw[HLEN.out];unfold maxLen;omega) (by rw[HLEN.out];omega) (by simp;omega) ?_);intro v6 w6 hown6 hgrow6 _;obtain⟨a6,c6,rfl⟩:=zag hown6;have HG4:=Lib.hid (GSt.node (n:=(⟨n.op,n.kids,z,n.s0,n.s1,n.s2,n.s3⟩:PN)) (HG3.out.below (zaa W3 _)) (zab HO3.out (zaa W3 _)) hgrow6 hown6);have hm5:=GSt.mid2 (HG3.out.below (zaa W3 _)) hgrow6;have z0:=hm5.cell (o:=1) (u:=.slice na i nc) rfl;have zf:=hm5.free 1;have zl:=hm5.lt;rw[HLEN.out] at HG4 ⊢;clear hown6 hgrow6 hm5)
      go_roundw
      case rel=>exact⟨i+1,a6,c6,_,hlt,by go_num,by
       have:=HG4.out;rw[HX.out,HNP.out];exact this⟩
      case measure=>simp[intOf];omega
     ·have HNP:Hid (gNode (nmR rs) (nmC f) n=n):=Lib.hid (if_neg h2)
      have q1:(n.op == 2)=false:=zae h2;clear h2
      go_upto_region 13 with fail
      obtain⟨W3,rfl⟩:∃W3,W3=W2:=⟨_,rfl⟩;have HN3:=HN2;have HO3:=HO2;have HG3:=HG2;clear b2 bl yf;have y2:=HN3.out.cell (o:=2) (u:=.int .i64 n.rule) rfl;have hs3:=HG3.out.2.2.2.2.2.size;have g1:=HG3.out.2.2.1.cell (o:=1) (u:=.slice na i nc) rfl;have gl:=HG3.out.2.2.1.lt;have HCC:=Lib.hid (zc7 W3 (nodeC (n,.slice a5 n.kids.length c5)) 54)
      go_wp2_with (at_builtin;(refine wpList_append_own _ rfl _ _ 23 rfl w.heap.size 54 ie _ 7 72 Tryz.underlying23 hie hze0 hze1 hze2 rfl (by decide) _ (zan (nmR rs) (nmC f) (f.nodes.take i)).length _ rfl (zab HG3.out.2.2.2.2.1.2.1 (zaa W3 _)) ⟨_,0,none⟩ 1 1 (nodeC (n,.slice a5 n.kids.length c5)) rfl rfl HCC.out (by simp[nodeC,Value.oneCell']) (by rw[HLEN.out];unfold maxLen;omega) (by rw[HLEN.out];omega) (by simp;omega) ?_);intro v6 w6 hown6 hgrow6 _;obtain⟨a6,c6,rfl⟩:=zag hown6;have HG4:=Lib.hid (GSt.node (n:=n) (HG3.out.below (zaa W3 _)) (zab HO3.out (zaa W3 _)) hgrow6 hown6);have hm5:=GSt.mid2 (HG3.out.below (zaa W3 _)) hgrow6;have z0:=hm5.cell (o:=1) (u:=.slice na i nc) rfl;have zf:=hm5.free 1;have zl:=hm5.lt;rw[HLEN.out] at HG4 ⊢;clear hown6 hgrow6 hm5)
      go_roundw
      case rel=>exact⟨i+1,a6,c6,_,hlt,by go_num,by
       have:=HG4.out;rw[HX.out,HNP.out];exact this⟩
      case measure=>simp[intOf];omega
    ·obtain rfl:i=f.nodes.length:=by omega
     have k1:¬(f.nodes.length:Int)<(f.nodes.length:Int):=by omega
     have HE:Hid (GSt w #[.slice a1 rs.length c1,.slice a2 f.nodes.length c2,.slice a3 f.calls.length c3] (.slice ra rs.length rc) rs.length (zb5 (zam rs)) (.slice na f.nodes.length nc) (zan (nmR rs) (nmC f) f.nodes) qs wr):=Lib.hid (by
      have:=HG.out;rw[List.take_length] at this;exact this)
     have g0:=HE.out.2.2.1.cell (o:=0) (u:=.slice ra rs.length rc) rfl;have g1:=HE.out.2.2.1.cell (o:=1) (u:=.slice na f.nodes.length nc) rfl;have gl:=HE.out.2.2.1.lt;have r0:=HE.out.2.1.cell (o:=0) (u:=.slice none 0 0) rfl;have r1:=HE.out.2.1.cell (o:=1) (u:=.slice none 0 0) rfl;have rf:=HE.out.2.1.free;have rl:=HE.out.2.1.lt;have HL:Hid ((zam rs).length=rs.length):=Lib.hid (List.length_map _);clear hG HG HB hbs;have HF:=Lib.hid (HE.out.fin (.slice ra rs.length rc) (.slice na f.nodes.length nc));go_wp2;refine bodyPost_ret (v:=.agg #[.slice ra rs.length rc,.slice na f.nodes.length nc]) (by simp[results,Tryz.results61,go_sem,r0,r1]) rfl ?_;exact⟨_,_,qs,rfl,by rw[HL.out];exact HF.out.1,HF.out.2.1,HF.out.2.2⟩
end
end Go.Proofs.YtmopdlbpkiaoeaaGreatDoor
