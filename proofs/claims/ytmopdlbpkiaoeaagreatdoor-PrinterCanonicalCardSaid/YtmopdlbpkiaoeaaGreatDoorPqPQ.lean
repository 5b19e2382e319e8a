/- The reference's text of a node: every node of a valid grammar. The reference's Node and Print. -/
import Derived.Test.YtmopdlbpkiaoeaaGreatDoorPqPR
set_option maxRecDepth 100000
set_option maxHeartbeats 8000000
open Go.Value renaming slice->jf, string->jh
namespace Go.Proofs.YtmopdlbpkiaoeaaGreatDoor
open Go.Lib renaming hid->qaa
open List renaming append_nil->qa6, flatMap_append->qbp, flatMap_cons->qat, flatMap_nil->qbu, getElem?_eq_getElem->qae, length_append->qad, mem_cons->qbk, mem_of_getElem?->qan, mem_singleton->qam
open Nat renaming le_of_eq->qdc, le_refl->qac, le_trans->qal
variable {ns:List PN}
section
open Go.RowKit
theorem yacj {sep x:List Nat}:∀ {l:List (List Nat)},x ∈ l->x.length<=(joinT sep l).length
 | [],h=>by cases h
 | [a],h=>by
  rw[qam.1 h];exact qac _
 |a::b::t,h=>by
  show _<=(a++(sep++joinT sep (b::t))).length;rw[qad,qad];rcases qbk.1 h with rfl|h
  ·omega
  ·have:=yacj (sep:=sep) h
   omega
theorem yah8 (b:Bool)(l:List Nat):l.length<=(parX b l).length:=by
 cases b
 ·exact qac _
 ·show l.length<=([40]++l++[41]).length
  rw[qad,qad];omega
theorem yah9 (op:Int):parB op 0=false:=by
 unfold parB;split
 ·rfl
 ·split
  ·rfl
  ·split<;>rfl
theorem yaia {nm:Int->List Nat}{cx:PN->List Nat}(hk:zdo ns){i:Nat}{n:PN}(hn:ns[i]?=some n):tx ns nm cx 0 (i:Int)=inX ns nm cx n (tx ns nm cx):=by
 rw[tx_eq hk hn,yah9];rfl
theorem yagh {nm:Int->List Nat}{cx:PN->List Nat}(hk:zdo ns){i:Nat}{n:PN}(hn:ns[i]?=some n)(pl:Nat):(tx ns nm cx 0 (i:Int)).length<=(tx ns nm cx pl (i:Int)).length:=by
 rw[yaia hk hn,tx_eq hk hn];exact yah8 _ _
theorem yaea (rs:List PR)(ns:List PN)(ra na:Option Addr)(rn rc nn nc:Nat)(hrn:rn=rs.length)(hnn:nn=ns.length)(hk:chkL rs ns=.ok)(hw:∀n,n ∈ ns->z87 n) :
  ∀(m i:Nat),i<m->i<ns.length->(tx ns (nmOf rs) cxN 0 (i:Int)).length<=1000000->∀(pl:Nat) (W:World),pl<=3->NodesAt W (jf na nn nc) ns->RulesIn W (jf ra rn rc) rs->RTx (.agg #[jf ra rn rc,jf na nn nc]) (i:Int) (pl:Int) W (tx ns (nmOf rs) cxN pl (i:Int))
 |0,i,h,_=>U
 |m+1,i,him,hi=>by
  intro hlen pl W hpl hN hR;obtain⟨n,hn⟩:∃n,ns[i]?=some n:=⟨_,qae hi⟩;obtain⟨-,-,-,-,h5,h6,-⟩:=z3k hk;have hkb:=(zuh h6).kids;have hmade:madeB n rs.length=true:=by
   have:=h5 i hi;unfold zbv at this;rw[hn] at this;simpa using this
  rw[yaia hkb hn] at hlen;rw[tx_eq hkb hn];have hki:∀x,x ∈ n.kids->∃j:Nat,x=(j:Int)/\j<ns.length/\j<m:=fun x hx=>by
   have:=hkb i n hn x hx;exact⟨x.toNat,U,U,U⟩
  have hrec:∀(q:Nat) (x:Int),q<=3->x ∈ n.kids->(tx ns (nmOf rs) cxN q x).length<=1000000->∀W2,Below W.heap.size W W2->RTx (.agg #[jf ra rn rc,jf na nn nc]) x (q:Int) W2 (tx ns (nmOf rs) cxN q x):=fun q x hq hx hl W2 hb=>by
   obtain⟨j,rfl,hj,hjm⟩:=hki x hx;obtain⟨y,hy⟩:∃y,ns[j]?=some y:=⟨_,qae hj⟩;exact yaea rs ns ra na rn rc nn nc hrn hnn hk hw m j hjm hj (qal (yagh hkb hy q) hl) q W2 hq (hN.kept hb (qac _)) (hR.kept hb (qac _))
  obtain⟨A0,A1,A2,A3,A4,A5,A6,A7,A8,A9⟩:=yamh rs ns ra na rn rc nn nc i pl n W hn hnn hN hR;rcases z9h hmade with⟨h0,-⟩|⟨h1,-,-⟩|⟨h2,hks,h0,hr,-⟩|⟨h34,hks,-⟩|⟨h59,k0,hks,-⟩
  ·rw[show inX ns (nmOf rs) cxN n (tx ns (nmOf rs) cxN)=[39,39] from by unfold inX;rw[if_pos h0],h0]
   exact A0 h0
  ·rw[show inX ns (nmOf rs) cxN n (tx ns (nmOf rs) cxN)=cxN n from by unfold inX;rw[if_neg U,if_pos h1],h1]
   exact A1 h1 (qaa (hw n (qan hn)))
  ·obtain⟨r,hr2⟩:∃r,rs[n.rule.toNat]?=some r:=⟨_,qae U⟩
   rw[show inX ns (nmOf rs) cxN n (tx ns (nmOf rs) cxN)=bts r.name from by unfold inX;rw[if_neg U,if_neg U,if_pos h2];unfold nmOf;rw[hr2],h2];exact A2 h2 r (qaa hr2) (qaa h0) (qaa hrn)
  ·have hp:decide (1<=(pl:Int))=parB n.op pl:=by
    unfold parB;rw[if_pos h34];exact decide_eq_decide.2 U
   rcases h34 with h3|h4
   ·have e:inX ns (nmOf rs) cxN n (tx ns (nmOf rs) cxN)=joinT [32] (n.kids.map (tx ns (nmOf rs) cxN 1)):=by
     unfold inX;rw[if_neg U,if_neg U,if_neg U,if_pos h3]
    rw[e] at hlen ⊢;exact A3 h3 _ _ (qaa hlen) (qaa fun x hx=>hrec 1 x U hx (qal (yacj (List.mem_map_of_mem hx)) hlen)) (qaa hp)
   ·have e:inX ns (nmOf rs) cxN n (tx ns (nmOf rs) cxN)=joinT [32,47,32] (n.kids.map (altX ns (tx ns (nmOf rs) cxN 0))):=by
     unfold inX;rw[if_neg U,if_neg U,if_neg U,if_neg U,if_pos h4];rfl
    rw[e] at hlen ⊢;exact A4 h4 _ _ (qaa hlen) (qaa fun x hx=>hrec 0 x U hx (qal (qal (yah8 _ _) (yacj (List.mem_map_of_mem (f:=altX ns (tx ns (nmOf rs) cxN 0)) hx))) hlen)) (qaa hp) (qaa fun x hx=>(hki x hx).imp fun j hj=>⟨hj.1,hj.2.1⟩)
  ·have hk0:k0 ∈ n.kids:=by rw[hks];exact qam.2 rfl
   by_cases h89:n.op=8∨n.op=9
   ·have e:inX ns (nmOf rs) cxN n (tx ns (nmOf rs) cxN)=[preX n.op]++tx ns (nmOf rs) cxN 2 k0:=by
     unfold inX;rw[if_neg U,if_neg U,if_neg U,if_neg U,if_neg U,if_pos h89,hks,qat,qbu,qa6];rfl
    have hp:decide (2<=(pl:Int))=parB n.op pl:=by
     unfold parB;rw[if_neg U,if_pos h89];exact decide_eq_decide.2 U
    rw[e] at hlen ⊢;rw[qad] at hlen;rcases h89 with h|h
    ·rw[h] at hp ⊢
     exact A8 h k0 _ _ (qaa hks) (qaa U) (qaa (hrec 2 k0 U hk0 U)) (qaa hp)
    ·rw[h] at hp ⊢
     exact A9 h k0 _ _ (qaa hks) (qaa U) (qaa (hrec 2 k0 U hk0 U)) (qaa hp)
   ·have e:inX ns (nmOf rs) cxN n (tx ns (nmOf rs) cxN)=tx ns (nmOf rs) cxN 3 k0++[sufX n.op]:=by
     unfold inX;rw[if_neg U,if_neg U,if_neg U,if_neg U,if_neg U,if_neg h89,hks,qat,qbu,qa6]
    have hp:decide ((pl:Int)=3)=parB n.op pl:=by
     unfold parB;rw[if_neg U,if_neg h89,if_pos U];exact decide_eq_decide.2 U
    rw[e] at hlen ⊢;rw[qad] at hlen;rcases(by omega:n.op=5∨n.op=6∨n.op=7) with h|h|h
    ·rw[h] at hp ⊢
     exact A5 h k0 _ _ (qaa hks) (qaa U) (qaa (hrec 3 k0 U hk0 U)) (qaa hp)
    ·rw[h] at hp ⊢
     exact A6 h k0 _ _ (qaa hks) (qaa U) (qaa (hrec 3 k0 U hk0 U)) (qaa hp)
    ·rw[h] at hp ⊢
     exact A7 h k0 _ _ (qaa hks) (qaa U) (qaa (hrec 3 k0 U hk0 U)) (qaa hp)
end
section
open Go.RowKit
theorem yaav (rs:List PR)(ns:List PN)(ra na:Option Addr)(rn rc nn nc i:Nat)(hrn:rn=rs.length)(hnn:nn=ns.length)(hk:chkL rs ns=.ok)(hw:∀n,n ∈ ns->z87 n)(hi:i<ns.length)(hl:(tx ns (nmOf rs) cxN 0 (i:Int)).length<=1000000)(W:World)(hN:NodesAt W (jf na nn nc) ns)(hR:RulesIn W (jf ra rn rc) rs) :
  Calls Tryz.prog 13 #[.agg #[jf ra rn rc,jf na nn nc],.int .i64 (i:Int)] W fun e w'=>e=.returned (jh (strOf (tx ns (nmOf rs) cxN 0 (i:Int))))/\Below W.heap.size W w':=by
 have HT:=qaa (show ∀W2,NodesAt W2 (jf na nn nc) ns->RulesIn W2 (jf ra rn rc) rs->RTx (.agg #[jf ra rn rc,jf na nn nc]) (i:Int) 0 W2 (tx ns (nmOf rs) cxN 0 (i:Int)) from fun W2 h h2=>yaea rs ns ra na rn rc nn nc hrn hnn hk hw (i+1) i (Nat.lt_succ_self _) hi hl 0 W2 U h h2);unfold RTx at HT;have HN:=qaa hN;have HR:=qaa hR;clear hN hR hk hw hl hrn hnn hi;obtain⟨S,hS⟩:∃S,strOf (tx ns (nmOf rs) cxN 0 (i:Int))=S:=⟨_,rfl⟩;rw[hS] at HT ⊢;clear hS;go_enter Tryz.func13,Tryz.ntmps13;have HB:=qaa (zaa W (.cells #[jf ra rn rc,jf na nn nc] 25))
 go_wp2_with (go_at_call 32;(with_reducible refine(HT.out _ (HN.out.kept HB.out (qac _)) (HR.out.kept HB.out (qac _))).mono ?_);rintro e w3 ⟨rfl,hb⟩;have HB3:=qaa (HB.out.trans (hb.mono HB.out.size));clear hb)
 go_ret;exact⟨rfl,HB3.out⟩
theorem yagi {nm:Int->List Nat}{cx:PN->List Nat}{rs:List PR}{k:Nat}{r:PR}(h:rs[k]?=some r):fileX ns nm cx (rs.take (k+1))=fileX ns nm cx (rs.take k)++(bts r.name++([32,60,45,32]++(tx ns nm cx 0 r.root++[10]))):=by
 rw[za3 rs k r h];unfold fileX;rw[qbp,qat,qbu,qa6]
theorem yagj {nm:Int->List Nat}{cx:PN->List Nat}(rs:List PR)(k:Nat):(fileX ns nm cx (rs.take k)).length<=(fileX ns nm cx rs).length:=by
 conv=>rhs;rw[<-List.take_append_drop k rs]
 unfold fileX;rw[qbp,qad];omega
theorem prnK {b1 o1 b2 o2 b3 o3 b4 o4 m0:Nat}{u1 u2 u3 u4:Value}{wr W W':World}(hm:m0<=wr.heap.size)(hb:Below W.heap.size W W')(h:W.cell? ⟨b1,o1,none⟩=some u1/\W.cell? ⟨b2,o2,none⟩=some u2/\W.cell? ⟨b3,o3,none⟩=some u3/\W.cell? ⟨b4,o4,none⟩=some u4/\Below m0 wr W) :
  W'.cell? ⟨b1,o1,none⟩=some u1/\W'.cell? ⟨b2,o2,none⟩=some u2/\W'.cell? ⟨b3,o3,none⟩=some u3/\W'.cell? ⟨b4,o4,none⟩=some u4/\Below m0 wr W':=by
 obtain⟨h1,h2,h3,h4,h5⟩:=h;have hc:=(bcell hb).1;exact⟨(hc _ _ (zai h1)).trans h1,(hc _ _ (zai h2)).trans h2,(hc _ _ (zai h3)).trans h3,(hc _ _ (zai h4)).trans h4,h5.trans (hb.mono (qal hm h5.size))⟩
theorem yafr {rs:List PR}(hk:chkL rs ns=.ok){r:PR}(hr:r ∈ rs):∃j:Nat,r.root=(j:Int)/\j<ns.length:=by
 obtain⟨-,-,-,-,-,h6,-⟩:=z3k hk;have key:∀(l:List PR) (b:Int),ordR ns l b=true->∀r,r ∈ l->b<r.root/\r.root<ns.length:=by
  intro l
  induction l with
  |nil=>intro b _ r hr;cases hr
  |cons x t ih=>
   intro b h r hr;obtain⟨h1,h2,h3,h4⟩:=zuf h;rcases qbk.1 hr with rfl|hr
   ·exact⟨h1,h2⟩
   ·have:=ih _ h4 r hr
    exact⟨U,this.2⟩
 have:=key rs (-1) h6 r hr;exact⟨r.root.toNat,U,U⟩
theorem yac4 (rs:List PR)(ns:List PN)(ra na:Option Addr)(rn rc nn nc:Nat)(hrn:rn=rs.length)(hnn:nn=ns.length)(hk:chkL rs ns=.ok)(hw:∀n,n ∈ ns->z87 n)(hl:(z88 rs ns).length<=1000000)(W:World)(hN:NodesAt W (jf na nn nc) ns)(hR:RulesIn W (jf ra rn rc) rs) :
  Calls Tryz.prog 11 #[.agg #[jf ra rn rc,jf na nn nc]] W fun e w'=>e=.returned (jh (strOf (z88 rs ns)))/\Below W.heap.size W w':=by
 unfold z88 at hl ⊢;have HT:=qaa fun(i:Nat) (hi:i<ns.length) (hl:(tx ns (nmOf rs) cxN 0 (i:Int)).length<=1000000)=>yaav rs ns ra na rn rc nn nc i hrn hnn hk hw hi hl
 have HK:=qaa fun(r:PR) (hr:r ∈ rs)=>yafr hk hr
 have HN:=qaa hN;have HR:=qaa hR;have HL:=qaa hl;have HRN:=qaa hrn;have HRL:=qaa (show rn<=9223372036854775807 from by have:=hR.1;unfold maxLen at this;omega);clear hN hR hk hw hl hrn hnn;have HG:=qaa (Bl.new W 25 #[jf ra rn rc,jf na nn nc]);have hB1:=zaa W (.cells #[jf ra rn rc,jf na nn nc] 25);go_enter Tryz.func11,Tryz.ntmps11;obtain⟨W1,hW1⟩:∃W1,W.alloc (.cells #[jf ra rn rc,jf na nn nc] 25)=W1:=⟨_,rfl⟩;obtain⟨B0,hB0q⟩:∃B0,W.heap.size=B0:=⟨_,rfl⟩
 go_wp2_with fail
 rw[hW1] at HG hB1;have HB1:=qaa hB1;have HN1:=qaa (HN.out.kept HB1.out (qac _));have HR1:=qaa (HR.out.kept HB1.out (qac _));rw[hB0q] at HG;clear hB1 hW1 HN HR
 go_loopw [3,4] (fun s c wr=>∃(k:Nat) (S:ByteArray),k<=rn/\c=.int .i64 k/\s=jh S/\S=strOf (fileX ns (nmOf rs) cxN (rs.take k))/\Below W1.heap.size W1 wr) (fun _ c _=>rn-(intOf c).toNat)
 case atStart=>exact⟨0,_,Nat.zero_le _,rfl,rfl,rfl,Below.refl _ _⟩
 case round=>
  obtain⟨k,S,hk,rfl,rfl,hS,hb⟩:=hrel;have v0:=(HG.out.below hb).cell (o:=0) (u:=jf ra rn rc) rfl;have v1:=(HG.out.below hb).cell (o:=1) (u:=jf na nn nc) rfl;have vl:=(HG.out.below hb).lt;have HN2:=qaa (HN1.out.kept hb (qac _));have HR2:=qaa (HR1.out.kept hb (qac _));have HBW:=qaa (HB1.out.trans (hb.mono HB1.out.size));have HBR:=qaa hb;by_cases hlt2:k<rn
  ·obtain⟨r,hr⟩:∃r,rs[k]?=some r:=⟨_,qae (by rw[<-HRN.out];exact hlt2)⟩
   obtain⟨rb,ro,ern,r0,r1⟩:=HR2.out.nth hr;obtain⟨j,hj,hjl⟩:=HK.out r (qan hr);have k2:(k:Int)<(rn:Int):=U
   have w1:IntKind.i64.wrap ((k:Int)+1)=(k:Int)+1:=IntWalk.i64_in _ (by have:=HRL.out;omega);have hJ2:=yagj (ns:=ns) (nm:=nmOf rs) (cx:=cxN) rs (k+1);have HNX:=qaa (yagi (ns:=ns) (nm:=nmOf rs) (cx:=cxN) hr);rw[HNX.out,hj] at hJ2;rw[hj] at HNX r1;have hL:=HL.out;obtain⟨J,hJq⟩:∃J,fileX ns (nmOf rs) cxN (rs.take k)=J:=⟨_,rfl⟩;obtain⟨T,hTq⟩:∃T,tx ns (nmOf rs) cxN 0 (j:Int)=T:=⟨_,rfl⟩;rw[hJq] at hS hJ2 HNX;rw[hTq] at hJ2 HNX;obtain⟨nm,hnm⟩:∃nm,bts r.name=nm:=⟨_,rfl⟩;rw[hnm] at hJ2 HNX;rw[qad,qad,qad,qad,List.length_singleton,show [32,60,45,32].length=4 from rfl] at hJ2;have hR:=HT.out j hjl (by rw[hTq];omega);rw[hTq] at hR;have hrn:r.name=strOf nm:=by rw[<-hnm,zt7]
   rw[hrn] at r0;have a1:=z86 J nm U;have a2:=z86 (J++nm) [32,60,45,32] (by simp;omega);have a3:=z86 (J++nm++[32,60,45,32]) T (by simp;omega);have a4:=z86 (J++nm++[32,60,45,32]++T) [10] (by simp;omega);rw[<-hS] at a1;rw[show strOf [32,60,45,32]=⟨#[32,60,45,32]⟩ from rfl] at a2;rw[show strOf [10]=⟨#[10]⟩ from rfl] at a4;obtain⟨S0,hS0⟩:∃S0,strOf nm=S0:=⟨_,rfl⟩;obtain⟨S1,hS1⟩:∃S1,strOf (J++nm)=S1:=⟨_,rfl⟩;obtain⟨S2,hS2⟩:∃S2,strOf (J++nm++[32,60,45,32])=S2:=⟨_,rfl⟩;obtain⟨S3,hS3⟩:∃S3,strOf (J++nm++[32,60,45,32]++T)=S3:=⟨_,rfl⟩;obtain⟨S4,hS4⟩:∃S4,strOf (J++nm++[32,60,45,32]++T++[10])=S4:=⟨_,rfl⟩;obtain⟨ST,hST⟩:∃ST,strOf T=ST:=⟨_,rfl⟩;rw[hS0,hS1] at a1;rw[hS1,hS2] at a2;rw[hS2,hST,hS3] at a3;rw[hS3,hS4] at a4;rw[hS0] at r0;rw[hST] at hR;have HSN:=qaa (show S4=strOf (fileX ns (nmOf rs) cxN (rs.take (k+1))) from by rw[HNX.out,<-hS4];simp);obtain⟨m0,hm0⟩:∃m0,m0=wr.heap.size:=⟨_,rfl⟩;have HM0:=qaa hm0;have hm1:m0<=wr.heap.size:=qdc hm0;have HC:=qaa fun(W:World) (h:Below m0 wr W)=>hR W (HN2.out.kept h (qdc hm0.symm)) (HR2.out.kept h (qdc hm0.symm))
   have hSd:wr.drew.cell? ⟨B0,0,none⟩=some (jf ra rn rc)/\wr.drew.cell? ⟨B0,1,none⟩=some (jf na nn nc)/\wr.drew.cell? ⟨rb,ro+k*2,none⟩=some (jh S0)/\wr.drew.cell? ⟨rb,ro+k*2+1,none⟩=some (.int .i64 (j:Int))/\Below m0 wr wr.drew:=⟨v0,v1,r0,r1,hm0 ▸ Below.drew (Below.refl _ _)⟩;rw[ern] at v0 hSd HC;clear hS hJ2 hJq hTq hnm hrn hS0 hS1 hS2 hS3 hS4 hST hR hL hr hj hjl hb hm0 ern;have hS:=hSd;clear hSd;go_wp2
   go_region_held3 (fun W=>W.cell? ⟨B0,0,none⟩=some (jf (some ⟨rb,ro,none⟩) rn rc)/\W.cell? ⟨B0,1,none⟩=some (jf na nn nc)/\W.cell? ⟨rb,ro+k*2,none⟩=some (jh S0)/\W.cell? ⟨rb,ro+k*2+1,none⟩=some (.int .i64 (j:Int))/\Below m0 wr W) (first|exact hS)
    (first
     |(go_at_call 13;(with_reducible refine(HC.out _ hS.2.2.2.2).mono ?_);rintro ev w5 ⟨rfl,hb⟩;replace hS:=prnK hm1 hb hS;clear hb))
   obtain⟨-,-,-,-,hbf⟩:=hS;have HBF:=qaa (HBR.out.trans ((HM0.out ▸ hbf:Below wr.heap.size wr _).mono HBR.out.size));clear hbf;go_wp2;go_roundw
   case rel=>exact⟨k+1,_,U,by go_num,rfl,HSN.out,HBF.out⟩
   case measure=>simp[intOf];omega
  ·obtain rfl:k=rn:=U
   have k2:¬(k:Int)<(k:Int):=U
   rw[List.take_of_length_le (by rw[HRN.out];exact qac _)] at hS;subst hS;clear hb;go_wp2;go_ret;exact⟨rfl,hB0q ▸ HBW.out⟩
end
