/- The reference's Check, Valid, Small. Two grammars that are the same; what the reference's Of returns, case by case. -/
import Derived.Deep.Cut
import Derived.Test.YtmopdlbpkiaoeaaGreatDoorPqRC
import Derived.Test.YtmopdlbpkiaoeaaGreatDoorPqRO
set_option maxRecDepth 100000
set_option maxHeartbeats 8000000
open Go.IntKind renaming i64->jd, u64->jg
open Go.Value renaming int->je, slice->jf, string->jh
namespace Go.Proofs.YtmopdlbpkiaoeaaGreatDoor
open Go.Lib renaming hid->qaa
open List renaming getElem?_eq_getElem->qae
open Nat renaming le_refl->qac
open Go.RowKit
variable {e:Ending}{ns:List PN}{rs:List PR}{f:MF}{i:Nat}{w w':World}
theorem zty (n:PN)(ka:Option Addr)(kc R:Nat)(w:World)(hl:n.kids.length<=9223372036854775807) :
  Calls Tryz.prog 82 #[.agg #[je jd n.op,jf ka n.kids.length kc,je jd n.rule,je jg n.s0,je jg n.s1,je jg n.s2,je jg n.s3],je jd (R:Int)] w fun e w'=>e=.returned (.bool (madeB n R))/\Below w.heap.size w w':=by
 rw[zsa,zxk];exact z8l _ _ _ _ _ _ _ _ _ _ w hl
def chkT:Chk->ByteArray × Int × Int
 |.ok=>(⟨#[]⟩,0,0)
 |.large=>(⟨#[]⟩,4,0)
 |.rules i=>(⟨#[114,117,108,101,115]⟩,10,(i:Int))
 |.nodes i=>(⟨#[110,111,100,101,115]⟩,10,(i:Int))
 |.order=>(⟨#[]⟩,10,0)
 |.deep i=>(⟨#[110,111,100,101,115]⟩,5,(i:Int))
def RChkIs (c:Chk)(w:World)(e:Ending)(w':World):Prop:=e=.returned (.tuple #[jh (chkT c).1,je jd (chkT c).2.1,je jd (chkT c).2.2])/\Below w.heap.size w w'
theorem RChkIs.mk {c d:Chk}(h:c=d)(hb:Below w.heap.size w w'):RChkIs c w (.returned (.tuple #[jh (chkT d).1,je jd (chkT d).2.1,je jd (chkT d).2.2])) w':=by subst h;exact⟨rfl,hb⟩
theorem nodK {n b0 nb o:Nat}{v0 v1 x0 x1 x2 x3 x4 x5 x6:Value}{W W':World}(hn:n<=w.heap.size)(hb:Below W.heap.size W W')(h:W.cell? ⟨b0,0,none⟩=some v0/\W.cell? ⟨b0,1,none⟩=some v1/\W.cell? ⟨nb,o,none⟩=some x0/\W.cell? ⟨nb,o+1,none⟩=some x1/\W.cell? ⟨nb,o+2,none⟩=some x2/\W.cell? ⟨nb,o+3,none⟩=some x3/\W.cell? ⟨nb,o+4,none⟩=some x4/\W.cell? ⟨nb,o+5,none⟩=some x5/\W.cell? ⟨nb,o+6,none⟩=some x6/\b0<W.heap.size/\Below n w W) :
  W'.cell? ⟨b0,0,none⟩=some v0/\W'.cell? ⟨b0,1,none⟩=some v1/\W'.cell? ⟨nb,o,none⟩=some x0/\W'.cell? ⟨nb,o+1,none⟩=some x1/\W'.cell? ⟨nb,o+2,none⟩=some x2/\W'.cell? ⟨nb,o+3,none⟩=some x3/\W'.cell? ⟨nb,o+4,none⟩=some x4/\W'.cell? ⟨nb,o+5,none⟩=some x5/\W'.cell? ⟨nb,o+6,none⟩=some x6/\b0<W'.heap.size/\Below n w W':=by
 obtain⟨h0,h1,g0,g1,g2,g3,g4,g5,g6,h4,h5⟩:=h;have hc:=(bcell hb).1;have hl:=zai g0;exact⟨by rw[hc _ _ h4];exact h0,by rw[hc _ _ h4];exact h1,by rw[hc _ _ hl];exact g0,by rw[hc _ _ hl];exact g1,by rw[hc _ _ hl];exact g2,by rw[hc _ _ hl];exact g3,by rw[hc _ _ hl];exact g4,by rw[hc _ _ hl];exact g5,by rw[hc _ _ hl];exact g6,Nat.lt_of_lt_of_le h4 hb.size,h5.trans (hb.mono (Nat.le_trans hn h5.size))⟩
theorem ztz (h:1000<rs.length∨10000<ns.length):chkL rs ns=.large:=if_pos h
theorem zx4 (h:¬(1000<rs.length∨10000<ns.length))(h0:rs.length=0):chkL rs ns=.rules 0:=by unfold chkL;rw[if_neg h,if_pos h0]
theorem zlc (h:¬(1000<rs.length∨10000<ns.length))(h0:rs.length≠0)(h1:fbad (zbp rs) rs.length 0=some i):chkL rs ns=.rules i:=by unfold chkL;rw[if_neg h,if_neg h0,h1]
theorem zt0 (h:¬(1000<rs.length∨10000<ns.length))(h0:rs.length≠0)(h1:fbad (zbp rs) rs.length 0=none)(h2:fbad (zbv ns rs.length) ns.length 0=some i):chkL rs ns=.nodes i:=by unfold chkL;rw[if_neg h,if_neg h0,h1];dsimp only;rw[h2]
theorem zt1 (h:¬(1000<rs.length∨10000<ns.length))(h0:rs.length≠0)(h1:fbad (zbp rs) rs.length 0=none)(h2:fbad (zbv ns rs.length) ns.length 0=none)(h3:ordR ns rs (-1)=false):chkL rs ns=.order:=by
 unfold chkL;rw[if_neg h,if_neg h0,h1];dsimp only;rw[h2];dsimp only;rw[if_neg (by rw[h3];exact Bool.false_ne_true)]
theorem zx5 (h:¬(1000<rs.length∨10000<ns.length))(h0:rs.length≠0)(h1:fbad (zbp rs) rs.length 0=none)(h2:fbad (zbv ns rs.length) ns.length 0=none)(h3:ordR ns rs (-1)=true)(h4:fbad (zb2 ns) ns.length 0=some i):chkL rs ns=.deep i:=by
 unfold chkL;rw[if_neg h,if_neg h0,h1];dsimp only;rw[h2];dsimp only;rw[if_pos h3,h4]
theorem zx6 (h:¬(1000<rs.length∨10000<ns.length))(h0:rs.length≠0)(h1:fbad (zbp rs) rs.length 0=none)(h2:fbad (zbv ns rs.length) ns.length 0=none)(h3:ordR ns rs (-1)=true)(h4:fbad (zb2 ns) ns.length 0=none):chkL rs ns=.ok:=by
 unfold chkL;rw[if_neg h,if_neg h0,h1];dsimp only;rw[h2];dsimp only;rw[if_pos h3,h4]
theorem zon (ra na:Option Addr)(rn rc nn nc:Nat)(w:World)(hr:rn<=9223372036854775807)(hn:nn<=9223372036854775807)(h:1000<rn∨10000<nn) :
  Calls Tryz.prog 51 #[.agg #[jf ra rn rc,jf na nn nc]] w (RChkIs .large w):=by
 have HB:=qaa (zaa w);by_cases h1:1000<rn
 ·have k1:(1000:Int)<(rn:Int):=U
  clear h;go_enter Tryz.func51,Tryz.ntmps51;go_wp2
  go_ret3
  exact RChkIs.mk (d:=.large) rfl (HB.out _)
 ·have k1:¬(1000:Int)<(rn:Int):=U
  have k2:(10000:Int)<(nn:Int):=U
  clear h;go_enter Tryz.func51,Tryz.ntmps51;go_wp2
  go_ret3
  exact RChkIs.mk (d:=.large) rfl (HB.out _)
theorem zqf (ra na:Option Addr)(rc nn nc:Nat)(w:World)(hn:nn<=10000) :
  Calls Tryz.prog 51 #[.agg #[jf ra 0 rc,jf na nn nc]] w (RChkIs (.rules 0) w):=by
 have HB:=qaa (zaa w);have k2:¬(10000:Int)<(nn:Int):=U
 go_enter Tryz.func51,Tryz.ntmps51;go_wp2
 go_ret3
 exact RChkIs.mk (d:=.rules 0) rfl (HB.out _)
theorem zqg (rv nv:Value)(rs:List PR)(ns:List PN)(w:World)(hR:RulesIn w rv rs)(hN:NodesAt w nv ns)(hnm:∀r,r ∈ rs->r.name.size<=2000000)(hsm:¬(1000<rs.length∨10000<ns.length))(hr0:rs.length≠0) :
  Calls Tryz.prog 51 #[.agg #[rv,nv]] w (RChkIs (chkL rs ns) w):=by
 have HB:=qaa (zaa w);have HM:=qaa hnm;have HSM:=qaa hsm;have HNR:=qaa hR;have HNN:=qaa hN;have k0:¬(1000:Int)<(rs.length:Int):=U
 have k00:¬(10000:Int)<(ns.length:Int):=U
 have q0:((rs.length:Int) == 0)=false:=zae U;obtain⟨-,ra,rc,rfl,hra⟩:=hR;obtain⟨-,na,nc,rfl,hna⟩:=hN;rcases hra with h1|⟨rb,ro,rfl,hcr⟩
 ·rw[h1] at hr0;exact absurd rfl hr0
 have hrl:rs.length<=1000:=U
 have hnl:ns.length<=10000:=U
 clear hnm hsm;go_enter Tryz.func51,Tryz.ntmps51;go_wp2
 go_loopw [5] (fun c wr=>∃k:Nat,k<=rs.length/\c=je jd k/\Below w.heap.size w wr/\w.heap.size<wr.heap.size/\wr.cell? ⟨w.heap.size,0,none⟩=some (jf (some ⟨rb,ro,none⟩) rs.length rc)/\wr.cell? ⟨w.heap.size,1,none⟩=some (jf na ns.length nc)/\fbad (zbp rs) rs.length 0=fbad (zbp rs) (rs.length-k) k) (fun c _=>rs.length-(intOf c).toNat)
 case atStart=>exact⟨0,Nat.zero_le _,rfl,HB.out _,jc,jc,jc,rfl⟩
 case round=>
  obtain⟨k,hk,rfl,hbw,hsw,b0,b1,hf⟩:=hrel;have HF:=qaa hf;have HW:=qaa hbw;clear hf;by_cases hlt:k<rs.length
  ·obtain⟨r,hr⟩:∃r,rs[k]?=some r:=⟨_,qae hlt⟩
   obtain⟨c0,c1⟩:=(hcr k r hr).kept hbw (qac _);have lb:=zai c0;have k1:(k:Int)<(rs.length:Int):=U
   have hsub:rs.length-k=(rs.length-(k+1))+1:=U
   rw[hsub] at HF;have hnb:=zk6 hr;have HP:=qaa (fun w=>zvt r.name w (HM.out r (List.mem_of_getElem? hr)));have HCR:=qaa hcr;clear hsub hr hbw hcr;cases hnm:nameB (bts r.name) with
   |false=>
    rw[hnm,Bool.not_false,Bool.or_true] at hnb;rw[hnm] at HP;have HR:=qaa (zlc (ns:=ns) HSM.out hr0 (HF.out.trans (zbn hnb)));clear hnb hnm
    go_wp2_with (go_at_call 81;(with_reducible refine(HP.out _).mono ?_);rintro e w2 ⟨rfl,hw⟩;obtain rfl:=hw.symm;clear hw)
    go_ret3
    exact RChkIs.mk (d:=.rules k) HR.out HW.out
   |true=>
    rw[hnm,Bool.not_true,Bool.or_false] at hnb;rw[hnm] at HP;have HNB:=qaa hnb;clear hnb hnm
    go_wp2_with (go_at_call 81;(with_reducible refine(HP.out _).mono ?_);rintro e w2 ⟨rfl,hw⟩;obtain rfl:=hw.symm;clear hw)
    go_loopw [6] (fun c wq=>∃(j q:Nat),j<=k/\c=je jd j/\wq=wr.drewN q/\seenL rs j r.name=false) (fun c _=>k-(intOf c).toNat)
    case atStart=>exact⟨0,0,Nat.zero_le _,rfl,rfl,rfl⟩
    case round=>
     obtain⟨j,q,hj,rfl,rfl,hs⟩:=hrel;have HS:=qaa hs;clear hs;by_cases hjk:j<k
     ·obtain⟨x,hx⟩:∃x,rs[j]?=some x:=⟨_,qae U⟩
      obtain⟨d0,d1⟩:=(HCR.out j x hx).kept HW.out (qac _);have hss:=zk5 hx r.name;have k2:(j:Int)<(k:Int):=U
      have k3:(j:Int)<(rs.length:Int):=U
      by_cases hxr:x.name=r.name
      ·have hin:seenL rs k r.name=true:=by
        have h1:x ∈ rs.take k:=by
         rw[List.mem_iff_getElem?];exact⟨j,by rw[List.getElem?_take,if_pos hjk];exact hx⟩
        unfold seenL;rw[List.any_eq_true];exact⟨x,h1,decide_eq_true hxr⟩
       have HR:=qaa (zlc (ns:=ns) HSM.out hr0 (HF.out.trans (zbn (HNB.out.trans hin))));have q1:(x.name.toList == r.name.toList)=true:=by rw[hxr];simp
       clear hx hss hin hxr;go_wp2;go_quiet (fail);go_wp2
       go_ret3
       exact RChkIs.mk (d:=.rules k) HR.out (zak (zak HW.out))
      ·have q1:(x.name.toList == r.name.toList)=false:=by rw[zeq,decide_eq_false hxr]
       have HSS:Hid (seenL rs (j+1) r.name=false):=qaa (by rw[hss,HS.out,decide_eq_false hxr];rfl);clear hx hss hxr;go_wp2;go_quiet (fail);go_wp2;go_roundw
       case rel=>exact⟨j+1,_,U,by go_num,rfl,HSS.out⟩
       case measure=>simp[intOf];omega
     ·obtain rfl:j=k:=U
      have k2:¬(j:Int)<(j:Int):=U
      have HR:=qaa (HF.out.trans (zbz (HNB.out.trans HS.out)));go_wp2;refine⟨⟨j+1,U,by go_num,zak HW.out,hsw,b0,b1,HR.out⟩,by simp[intOf];omega⟩
  ·obtain rfl:k=rs.length:=U
   have k1:¬(rs.length:Int)<(rs.length:Int):=U
   have HR1:Hid (fbad (zbp rs) rs.length 0=none):=qaa (by rw[HF.out,Nat.sub_self];rfl);clear hbw hcr;go_wp2
   go_loopw [7] (fun c wr=>∃k:Nat,k<=ns.length/\c=je jd k/\Below w.heap.size w wr/\w.heap.size<wr.heap.size/\wr.cell? ⟨w.heap.size,0,none⟩=some (jf (some ⟨rb,ro,none⟩) rs.length rc)/\wr.cell? ⟨w.heap.size,1,none⟩=some (jf na ns.length nc)/\fbad (zbv ns rs.length) ns.length 0=fbad (zbv ns rs.length) (ns.length-k) k) (fun c _=>ns.length-(intOf c).toNat)
   case atStart=>exact⟨0,Nat.zero_le _,rfl,HW.out,hsw,b0,b1,rfl⟩
   case round=>
    obtain⟨k,hk,rfl,hbw2,hsw2,b02,b12,hf2⟩:=hrel;have HF2:=qaa hf2;have HW2:=qaa hbw2;clear hf2 HF HW b0 b1 hsw;by_cases hlt2:k<ns.length
    ·obtain⟨n,hn⟩:∃r,ns[k]?=some r:=⟨_,qae hlt2⟩
     rcases hna with h0|⟨nb,no,rfl,hca⟩
     ·rw[h0] at hlt2;exact absurd hlt2 (Nat.not_lt_zero _)
     obtain⟨kv,c0,c1,c2,c3,c4,c5,c6,⟨ka,kc,rfl,-⟩,cl⟩:=(hca k n hn).kept hbw2 (qac _);have k2:(k:Int)<(ns.length:Int):=U
     have hsub:ns.length-k=(ns.length-(k+1))+1:=U
     rw[hsub] at HF2;have hnb:zbv ns rs.length k=!madeB n rs.length:=by unfold zbv;rw[hn]
     unfold maxLen at cl;have HC:=qaa (fun W=>zty n ka kc rs.length W U);clear hsub hca hn hbw2;cases hm:madeB n rs.length with
     |false=>
      rw[hm] at hnb HC;have HR:=qaa (zt0 HSM.out hr0 HR1.out (HF2.out.trans (zbn hnb)));clear hnb hm;go_wp2;obtain⟨n0,hn0⟩:∃n0,w.heap.size=n0:=⟨_,rfl⟩;have hnw:n0<=w.heap.size:=Nat.le_of_eq hn0.symm;have HN0:=qaa hn0;have hS:(fun W:World=>W.cell? ⟨w.heap.size,0,none⟩=some (jf (some ⟨rb,ro,none⟩) rs.length rc)/\W.cell? ⟨w.heap.size,1,none⟩=some (jf (some ⟨nb,no,none⟩) ns.length nc)/\W.cell? ⟨nb,no+k*7,none⟩=some (je jd n.op)/\W.cell? ⟨nb,no+k*7+1,none⟩=some (jf ka n.kids.length kc)/\W.cell? ⟨nb,no+k*7+2,none⟩=some (je jd n.rule)/\W.cell? ⟨nb,no+k*7+3,none⟩=some (je jg n.s0)/\W.cell? ⟨nb,no+k*7+4,none⟩=some (je jg n.s1)/\W.cell? ⟨nb,no+k*7+5,none⟩=some (je jg n.s2)/\W.cell? ⟨nb,no+k*7+6,none⟩=some (je jg n.s3)/\w.heap.size<W.heap.size/\Below n0 w W) wr.drew:=⟨b02,b12,c0,c1,c2,c3,c4,c5,c6,hsw2,by rw[<-hn0];exact HW2.out.drew⟩;clear hn0 b02 b12 c0 c1 c2 c3 c4 c5 c6 hsw2 HW2;dsimp only at hS
      go_region_held3 (fun W=>W.cell? ⟨w.heap.size,0,none⟩=some (jf (some ⟨rb,ro,none⟩) rs.length rc)/\W.cell? ⟨w.heap.size,1,none⟩=some (jf (some ⟨nb,no,none⟩) ns.length nc)/\W.cell? ⟨nb,no+k*7,none⟩=some (je jd n.op)/\W.cell? ⟨nb,no+k*7+1,none⟩=some (jf ka n.kids.length kc)/\W.cell? ⟨nb,no+k*7+2,none⟩=some (je jd n.rule)/\W.cell? ⟨nb,no+k*7+3,none⟩=some (je jg n.s0)/\W.cell? ⟨nb,no+k*7+4,none⟩=some (je jg n.s1)/\W.cell? ⟨nb,no+k*7+5,none⟩=some (je jg n.s2)/\W.cell? ⟨nb,no+k*7+6,none⟩=some (je jg n.s3)/\w.heap.size<W.heap.size/\Below n0 w W) (first|exact hS)
       (first|(go_at_call 82;with_reducible refine(HC.out _).mono ?_;rintro ev w3 ⟨rfl,hb⟩;replace hS:=nodK hnw hb hS;clear hb))
      have HB3:=qaa hS.2.2.2.2.2.2.2.2.2.2;clear hS;go_wp2
      go_ret3
      exact RChkIs.mk (d:=.nodes k) HR.out (by rw[HN0.out];exact HB3.out)
     |true=>
      rw[hm] at hnb HC;have HR:=qaa (HF2.out.trans (zbz hnb));clear hnb hm;go_wp2;obtain⟨n0,hn0⟩:∃n0,w.heap.size=n0:=⟨_,rfl⟩;have hnw:n0<=w.heap.size:=Nat.le_of_eq hn0.symm;have HN0:=qaa hn0;have hS:(fun W:World=>W.cell? ⟨w.heap.size,0,none⟩=some (jf (some ⟨rb,ro,none⟩) rs.length rc)/\W.cell? ⟨w.heap.size,1,none⟩=some (jf (some ⟨nb,no,none⟩) ns.length nc)/\W.cell? ⟨nb,no+k*7,none⟩=some (je jd n.op)/\W.cell? ⟨nb,no+k*7+1,none⟩=some (jf ka n.kids.length kc)/\W.cell? ⟨nb,no+k*7+2,none⟩=some (je jd n.rule)/\W.cell? ⟨nb,no+k*7+3,none⟩=some (je jg n.s0)/\W.cell? ⟨nb,no+k*7+4,none⟩=some (je jg n.s1)/\W.cell? ⟨nb,no+k*7+5,none⟩=some (je jg n.s2)/\W.cell? ⟨nb,no+k*7+6,none⟩=some (je jg n.s3)/\w.heap.size<W.heap.size/\Below n0 w W) wr.drew:=⟨b02,b12,c0,c1,c2,c3,c4,c5,c6,hsw2,by rw[<-hn0];exact HW2.out.drew⟩;clear hn0 b02 b12 c0 c1 c2 c3 c4 c5 c6 hsw2 HW2;dsimp only at hS
      go_region_held3 (fun W=>W.cell? ⟨w.heap.size,0,none⟩=some (jf (some ⟨rb,ro,none⟩) rs.length rc)/\W.cell? ⟨w.heap.size,1,none⟩=some (jf (some ⟨nb,no,none⟩) ns.length nc)/\W.cell? ⟨nb,no+k*7,none⟩=some (je jd n.op)/\W.cell? ⟨nb,no+k*7+1,none⟩=some (jf ka n.kids.length kc)/\W.cell? ⟨nb,no+k*7+2,none⟩=some (je jd n.rule)/\W.cell? ⟨nb,no+k*7+3,none⟩=some (je jg n.s0)/\W.cell? ⟨nb,no+k*7+4,none⟩=some (je jg n.s1)/\W.cell? ⟨nb,no+k*7+5,none⟩=some (je jg n.s2)/\W.cell? ⟨nb,no+k*7+6,none⟩=some (je jg n.s3)/\w.heap.size<W.heap.size/\Below n0 w W) (first|exact hS)
       (first|(go_at_call 82;with_reducible refine(HC.out _).mono ?_;rintro ev w3 ⟨rfl,hb⟩;replace hS:=nodK hnw hb hS;clear hb))
      obtain⟨b03,b13,-,-,-,-,-,-,-,hsw3,hb3⟩:=hS;have HB3:=qaa hb3;clear hb3;go_wp2;go_roundw
      case rel=>exact⟨k+1,U,by go_num,by rw[HN0.out];exact HB3.out,hsw3,b03,b13,HR.out⟩
      case measure=>simp[intOf];omega
    ·obtain rfl:k=ns.length:=U
     have k2:¬(ns.length:Int)<(ns.length:Int):=U
     have HR2:Hid (fbad (zbv ns rs.length) ns.length 0=none):=qaa (by rw[HF2.out,Nat.sub_self];rfl);have HO:=qaa (fun W (hb:Below w.heap.size w W)=>zp9 (jf (some ⟨rb,ro,none⟩) rs.length rc) na ns.length nc rs ns W U (HNR.out.kept hb (qac _)) (HNN.out.kept hb (qac _)));clear hbw2;cases ho:ordR ns rs (-1) with
     |false=>
      rw[ho] at HO;have HR:=qaa (zt1 HSM.out hr0 HR1.out HR2.out ho);clear ho
      go_wp2_with (go_at_call 83;(with_reducible refine(HO.out _ HW2.out).mono ?_);rintro e w3 ⟨rfl,hb⟩;replace HW2:=qaa (HW2.out.trans (hb.mono HW2.out.size));clear hb)
      go_ret3
      exact RChkIs.mk (d:=.order) HR.out HW2.out
     |true=>
      rw[ho] at HO;have HK:=qaa (zuh ho).kids;have HOR:=qaa ho;clear ho
      go_wp2_with (go_at_call 83;(with_reducible refine(HO.out _ HW2.out).mono ?_);rintro e w3 ⟨rfl,hb⟩;replace HW2:=qaa (HW2.out.trans (hb.mono HW2.out.size));have q1:=(bcell hb).1 _ 0 hsw2;have q2:=(bcell hb).1 _ 1 hsw2;rw[b02] at q1;rw[b12] at q2;have hsw3:=Nat.lt_of_lt_of_le hsw2 hb.size;clear hb b02 b12 hsw2)
      go_loopw [8] (fun c wr=>∃k:Nat,k<=ns.length/\c=je jd k/\Below w.heap.size w wr/\w.heap.size<wr.heap.size/\wr.cell? ⟨w.heap.size,0,none⟩=some (jf (some ⟨rb,ro,none⟩) rs.length rc)/\wr.cell? ⟨w.heap.size,1,none⟩=some (jf na ns.length nc)/\fbad (zb2 ns) ns.length 0=fbad (zb2 ns) (ns.length-k) k) (fun c _=>ns.length-(intOf c).toNat)
      case atStart=>exact⟨0,Nat.zero_le _,rfl,HW2.out,hsw3,q1,q2,rfl⟩
      case round=>
       obtain⟨k,hk4,rfl,hbw4,hsw4,b04,b14,hf4⟩:=hrel;have HF4:=qaa hf4;have HW4:=qaa hbw4;clear hf4 HW2 q1 q2 hsw3;by_cases hlt4:k<ns.length
       ·have k4:(k:Int)<(ns.length:Int):=U
        have hsub:ns.length-k=(ns.length-(k+1))+1:=U
        rw[hsub] at HF4;have hrd:=zuk HK.out 205 (k:Int) U U;rw[show(k:Int).toNat=k by omega] at hrd;have HC:=qaa (zn4 (some ⟨rb,ro,none⟩) na rs.length rc ns.length nc ns U HK.out 205 k 205 wr rfl U hlt4 (HNN.out.kept HW4.out (qac _)));generalize rdF ns 205 (k:Int)=y at HC hrd;clear hsub hbw4;by_cases hd:200<dpL ns k
        ·have hbad:zb2 ns k=true:=decide_eq_true hd
         have HR:=qaa (zx5 HSM.out hr0 HR1.out HR2.out HOR.out (HF4.out.trans (zbn hbad)));have k5:(200:Int)<(y:Int):=U
         clear hbad hrd
         go_wp2_with (go_at_call 84;(with_reducible refine HC.out.mono ?_);rintro e w5 ⟨rfl,hb⟩;replace HW4:=qaa (HW4.out.trans (hb.mono HW4.out.size));clear hb)
         go_ret3
         exact RChkIs.mk (d:=.deep k) HR.out HW4.out
        ·have hbad:zb2 ns k=false:=decide_eq_false hd
         have HR:=qaa (HF4.out.trans (zbz hbad));have k5:¬(200:Int)<(y:Int):=U
         clear hbad hrd
         go_wp2_with (go_at_call 84;(with_reducible refine HC.out.mono ?_);rintro e w5 ⟨rfl,hb⟩;replace HW4:=qaa (HW4.out.trans (hb.mono HW4.out.size));have q1:=(bcell hb).1 _ 0 hsw4;have q2:=(bcell hb).1 _ 1 hsw4;rw[b04] at q1;rw[b14] at q2;have hsw5:=Nat.lt_of_lt_of_le hsw4 hb.size;clear hb b04 b14 hsw4)
         go_roundw
         case rel=>exact⟨k+1,U,by go_num,HW4.out,hsw5,q1,q2,HR.out⟩
         case measure=>simp[intOf];omega
       ·obtain rfl:k=ns.length:=U
        have k4:¬(ns.length:Int)<(ns.length:Int):=U
        have HR4:Hid (fbad (zb2 ns) ns.length 0=none):=qaa (by rw[HF4.out,Nat.sub_self];rfl);have HR:=qaa (zx6 HSM.out hr0 HR1.out HR2.out HOR.out HR4.out);clear hbw4;go_wp2
        go_ret3
        exact RChkIs.mk (d:=.ok) HR.out HW4.out
theorem zho (rv nv:Value)(rs:List PR)(ns:List PN)(w:World)(hR:RulesIn w rv rs)(hN:NodesAt w nv ns)(hnm:∀r,r ∈ rs->r.name.size<=2000000) :
  Calls Tryz.prog 51 #[.agg #[rv,nv]] w (RChkIs (chkL rs ns) w):=by
 by_cases hl:1000<rs.length∨10000<ns.length
 ·rw[ztz hl]
  obtain⟨hlr,ra,rc,rfl,-⟩:=hR;obtain⟨hln,na,nc,rfl,-⟩:=hN;unfold maxLen at hlr hln;exact zon ra na rs.length rc ns.length nc w U U hl
 ·by_cases h0:rs.length=0
  ·rw[zx4 hl h0]
   obtain⟨-,ra,rc,rfl,-⟩:=hR;obtain⟨-,na,nc,rfl,-⟩:=hN;rw[h0];exact zqf ra na rc ns.length nc w U
  ·exact zqg rv nv rs ns w hR hN hnm hl h0
end Go.Proofs.YtmopdlbpkiaoeaaGreatDoor
namespace Go.Proofs.YtmopdlbpkiaoeaaGreatDoor
open Go.Lib renaming hid->qaa
open List renaming getElem?_eq_getElem->qae
open Nat renaming le_refl->qac
variable {e:Ending}{ns:List PN}{rs:List PR}{f:MF}{i:Nat}{w w':World}
section
open Go.RowKit
theorem zx8 {rs:List (List Nat × Nat × Int)}{x:List Nat × Nat}(hd:dupO rs=some x)(h:ROfIs rs f w e w'):e=.returned (.agg #[jf none 0 0,jf none 0 0,jh (strOf x.1),je jd 2,je jd (x.2:Int)])/\Below w.heap.size w w':=by
 unfold ROfIs at h;rw[hd] at h;exact h
theorem zx9 {rs:List (List Nat × Nat × Int)}{x:List Nat × Nat}(hd:dupO rs=none)(hu:undO (nmR rs) f=some x)(h:ROfIs rs f w e w'):e=.returned (.agg #[jf none 0 0,jf none 0 0,jh (strOf x.1),je jd 3,je jd (x.2:Int)])/\Below w.heap.size w w':=by
 unfold ROfIs at h;rw[hd] at h;dsimp only at h;rw[hu] at h;exact h
theorem zya {rs:List (List Nat × Nat × Int)}(hd:dupO rs=none)(hu:undO (nmR rs) f=none)(h:ROfIs rs f w e w'):∃ra rc na nc,e=.returned (.agg #[jf ra (zam rs).length rc,jf na (zan (nmR rs) (nmC f) f.nodes).length nc,jh ⟨#[]⟩,je jd 0,je jd 0])/\RulesIn w' (jf ra (zam rs).length rc) (zam rs)/\NodesAt w' (jf na (zan (nmR rs) (nmC f) f.nodes).length nc) (zan (nmR rs) (nmC f) f.nodes)/\Below w.heap.size w w':=by
 unfold ROfIs at h;rw[hd] at h;dsimp only at h;rw[hu] at h;obtain⟨rv,nv,rfl,h1,h2,h3⟩:=h;have h1':=h1;have h2':=h2;obtain⟨-,ra,rc,rfl,-⟩:=h1;obtain⟨-,na,nc,rfl,-⟩:=h2;exact⟨ra,rc,na,nc,rfl,h1',h2',h3⟩
end
