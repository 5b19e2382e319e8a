/- The reference's Check, Valid, Small. The reference's Small. -/
import Derived.Test.YthhppmehhdlmnaaGreatDoorPzGA
import Derived.Test.YthhppmehhdlmnaaGreatDoorPzFS
import Derived.Test.YthhppmehhdlmnaaGreatDoorPzLexRef1
set_option maxRecDepth 100000
set_option maxHeartbeats 8000000
namespace Go.Proofs.YthhppmehhdlmnaaGreatDoor
open Go.RowKit
theorem zti (n:PN)(ka:Option Addr)(kc R:Nat)(w:World)(hl:n.kids.length<=9223372036854775807) :
  Calls Tryz.prog 100 #[.agg #[.int .i64 n.op,.slice ka n.kids.length kc,.int .i64 n.rule,.int .u64 n.s0,.int .u64 n.s1,.int .u64 n.s2,.int .u64 n.s3],.int .i64 (R:Int)] w fun e w'=>e=.returned (.bool (madeB n R))/\Below w.heap.size w w':=by
 rw[zq5,zvw];exact z8g _ _ _ _ _ _ _ _ _ _ w hl
def chkT:Chk->ByteArray × Int × Int
 |.ok=>(⟨#[]⟩,0,0)
 |.large=>(⟨#[]⟩,4,0)
 |.rules i=>(⟨#[114,117,108,101,115]⟩,10,(i:Int))
 |.nodes i=>(⟨#[110,111,100,101,115]⟩,10,(i:Int))
 |.order=>(⟨#[]⟩,10,0)
 |.deep i=>(⟨#[110,111,100,101,115]⟩,5,(i:Int))
def RChkIs (c:Chk)(w:World)(e:Ending)(w':World):Prop:=e=.returned (.tuple #[.string (chkT c).1,.int .i64 (chkT c).2.1,.int .i64 (chkT c).2.2])/\Below w.heap.size w w'
theorem RChkIs.mk {c d:Chk}{w w':World}(h:c=d)(hb:Below w.heap.size w w'):RChkIs c w (.returned (.tuple #[.string (chkT d).1,.int .i64 (chkT d).2.1,.int .i64 (chkT d).2.2])) w':=by subst h;exact⟨rfl,hb⟩
theorem nodK {n b0 nb o:Nat}{v0 v1 x0 x1 x2 x3 x4 x5 x6:Value}{w W W':World}(hn:n<=w.heap.size)(hb:Below W.heap.size W W')(h:W.cell? ⟨b0,0,none⟩=some v0/\W.cell? ⟨b0,1,none⟩=some v1/\W.cell? ⟨nb,o,none⟩=some x0/\W.cell? ⟨nb,o+1,none⟩=some x1/\W.cell? ⟨nb,o+2,none⟩=some x2/\W.cell? ⟨nb,o+3,none⟩=some x3/\W.cell? ⟨nb,o+4,none⟩=some x4/\W.cell? ⟨nb,o+5,none⟩=some x5/\W.cell? ⟨nb,o+6,none⟩=some x6/\b0<W.heap.size/\Below n w W) :
  W'.cell? ⟨b0,0,none⟩=some v0/\W'.cell? ⟨b0,1,none⟩=some v1/\W'.cell? ⟨nb,o,none⟩=some x0/\W'.cell? ⟨nb,o+1,none⟩=some x1/\W'.cell? ⟨nb,o+2,none⟩=some x2/\W'.cell? ⟨nb,o+3,none⟩=some x3/\W'.cell? ⟨nb,o+4,none⟩=some x4/\W'.cell? ⟨nb,o+5,none⟩=some x5/\W'.cell? ⟨nb,o+6,none⟩=some x6/\b0<W'.heap.size/\Below n w W':=by
 obtain⟨h0,h1,g0,g1,g2,g3,g4,g5,g6,h4,h5⟩:=h;have hc:=(bcell hb).1;have hl:=zac g0;exact⟨by rw[hc _ _ h4];exact h0,by rw[hc _ _ h4];exact h1,by rw[hc _ _ hl];exact g0,by rw[hc _ _ hl];exact g1,by rw[hc _ _ hl];exact g2,by rw[hc _ _ hl];exact g3,by rw[hc _ _ hl];exact g4,by rw[hc _ _ hl];exact g5,by rw[hc _ _ hl];exact g6,Nat.lt_of_lt_of_le h4 hb.size,h5.trans (hb.mono (Nat.le_trans hn h5.size))⟩
theorem ztj {rs:List PR}{ns:List PN}(h:1000<rs.length∨10000<ns.length):chkL rs ns=.large:=if_pos h
theorem zxh {rs:List PR}{ns:List PN}(h:¬(1000<rs.length∨10000<ns.length))(h0:rs.length=0):chkL rs ns=.rules 0:=by unfold chkL;rw[if_neg h,if_pos h0]
theorem zj2 {rs:List PR}{ns:List PN}{i:Nat}(h:¬(1000<rs.length∨10000<ns.length))(h0:rs.length≠0)(h1:fbad (zbm rs) rs.length 0=some i):chkL rs ns=.rules i:=by unfold chkL;rw[if_neg h,if_neg h0,h1]
theorem ztk {rs:List PR}{ns:List PN}{i:Nat}(h:¬(1000<rs.length∨10000<ns.length))(h0:rs.length≠0)(h1:fbad (zbm rs) rs.length 0=none)(h2:fbad (zbc ns rs.length) ns.length 0=some i):chkL rs ns=.nodes i:=by unfold chkL;rw[if_neg h,if_neg h0,h1];dsimp only;rw[h2]
theorem ztl {rs:List PR}{ns:List PN}(h:¬(1000<rs.length∨10000<ns.length))(h0:rs.length≠0)(h1:fbad (zbm rs) rs.length 0=none)(h2:fbad (zbc ns rs.length) ns.length 0=none)(h3:ordR ns rs (-1)=false):chkL rs ns=.order:=by
 unfold chkL;rw[if_neg h,if_neg h0,h1];dsimp only;rw[h2];dsimp only;rw[if_neg (by rw[h3];exact Bool.false_ne_true)]
theorem zxi {rs:List PR}{ns:List PN}{i:Nat}(h:¬(1000<rs.length∨10000<ns.length))(h0:rs.length≠0)(h1:fbad (zbm rs) rs.length 0=none)(h2:fbad (zbc ns rs.length) ns.length 0=none)(h3:ordR ns rs (-1)=true)(h4:fbad (zbp ns) ns.length 0=some i):chkL rs ns=.deep i:=by
 unfold chkL;rw[if_neg h,if_neg h0,h1];dsimp only;rw[h2];dsimp only;rw[if_pos h3,h4]
theorem zxj {rs:List PR}{ns:List PN}(h:¬(1000<rs.length∨10000<ns.length))(h0:rs.length≠0)(h1:fbad (zbm rs) rs.length 0=none)(h2:fbad (zbc ns rs.length) ns.length 0=none)(h3:ordR ns rs (-1)=true)(h4:fbad (zbp ns) ns.length 0=none):chkL rs ns=.ok:=by
 unfold chkL;rw[if_neg h,if_neg h0,h1];dsimp only;rw[h2];dsimp only;rw[if_pos h3,h4]
theorem zni (ra na:Option Addr)(rn rc nn nc:Nat)(w:World)(hr:rn<=9223372036854775807)(hn:nn<=9223372036854775807)(h:1000<rn∨10000<nn) :
  Calls Tryz.prog 60 #[.agg #[.slice ra rn rc,.slice na nn nc]] w (RChkIs .large w):=by
 have HB:=Lib.hid (zab w);by_cases h1:1000<rn
 ·have k1:(1000:Int)<(rn:Int):=by omega
  clear h;go_enter Tryz.func60,Tryz.ntmps60;go_wp2
  go_ret3
  exact RChkIs.mk (d:=.large) rfl (HB.out _)
 ·have k1:¬(1000:Int)<(rn:Int):=by omega
  have k2:(10000:Int)<(nn:Int):=by omega
  clear h;go_enter Tryz.func60,Tryz.ntmps60;go_wp2
  go_ret3
  exact RChkIs.mk (d:=.large) rfl (HB.out _)
theorem zpj (ra na:Option Addr)(rc nn nc:Nat)(w:World)(hn:nn<=10000) :
  Calls Tryz.prog 60 #[.agg #[.slice ra 0 rc,.slice na nn nc]] w (RChkIs (.rules 0) w):=by
 have HB:=Lib.hid (zab w);have k2:¬(10000:Int)<(nn:Int):=by omega
 go_enter Tryz.func60,Tryz.ntmps60;go_wp2
 go_ret3
 exact RChkIs.mk (d:=.rules 0) rfl (HB.out _)
theorem zpk (rv nv:Value)(rs:List PR)(ns:List PN)(w:World)(hR:RulesIn w rv rs)(hN:NodesAt w nv ns)(hnm:∀r,r ∈ rs->r.name.size<=2000000)(hsm:¬(1000<rs.length∨10000<ns.length))(hr0:rs.length≠0) :
  Calls Tryz.prog 60 #[.agg #[rv,nv]] w (RChkIs (chkL rs ns) w):=by
 have HB:=Lib.hid (zab w);have HM:=Lib.hid hnm;have HSM:=Lib.hid hsm;have HNR:=Lib.hid hR;have HNN:=Lib.hid hN;have k0:¬(1000:Int)<(rs.length:Int):=by omega
 have k00:¬(10000:Int)<(ns.length:Int):=by omega
 have q0:((rs.length:Int) == 0)=false:=zaj (by omega);obtain⟨-,ra,rc,rfl,hra⟩:=hR;obtain⟨-,na,nc,rfl,hna⟩:=hN;rcases hra with h1|⟨rb,ro,rfl,hcr⟩
 ·rw[h1] at hr0;exact absurd rfl hr0
 have hrl:rs.length<=1000:=by omega
 have hnl:ns.length<=10000:=by omega
 clear hnm hsm;go_enter Tryz.func60,Tryz.ntmps60;go_wp2
 go_loopw [5] (fun c wr=>∃k:Nat,k<=rs.length/\c=.int .i64 k/\Below w.heap.size w wr/\w.heap.size<wr.heap.size/\wr.cell? ⟨w.heap.size,0,none⟩=some (.slice (some ⟨rb,ro,none⟩) rs.length rc)/\wr.cell? ⟨w.heap.size,1,none⟩=some (.slice na ns.length nc)/\fbad (zbm rs) rs.length 0=fbad (zbm rs) (rs.length-k) k) (fun c _=>rs.length-(intOf c).toNat)
 case atStart=>exact⟨0,Nat.zero_le _,rfl,HB.out _,by simp,by simp,by simp,rfl⟩
 case round=>
  obtain⟨k,hk,rfl,hbw,hsw,b0,b1,hf⟩:=hrel;have HF:=Lib.hid hf;have HW:=Lib.hid hbw;clear hf;by_cases hlt:k<rs.length
  ·obtain⟨r,hr⟩:∃r,rs[k]?=some r:=⟨_,List.getElem?_eq_getElem hlt⟩
   obtain⟨c0,c1⟩:=(hcr k r hr).kept hbw (Nat.le_refl _);have lb:=zac c0;have k1:(k:Int)<(rs.length:Int):=by omega
   have hsub:rs.length-k=(rs.length-(k+1))+1:=by omega
   rw[hsub] at HF;have hnb:=zji hr;have HP:=Lib.hid (fun w=>zxf r.name w (HM.out r (List.mem_of_getElem? hr)));have HCR:=Lib.hid hcr;clear hsub hr hbw hcr;cases hnm:nameB (bts r.name) with
   |false=>
    rw[hnm,Bool.not_false,Bool.or_true] at hnb;rw[hnm] at HP;have HR:=Lib.hid (zj2 (ns:=ns) HSM.out hr0 (HF.out.trans (zb3 hnb)));clear hnb hnm
    go_wp2_with (go_at_call 99;(with_reducible refine(HP.out _).mono ?_);rintro e w2 ⟨rfl,hw⟩;obtain rfl:=hw.symm;clear hw)
    go_ret3
    exact RChkIs.mk (d:=.rules k) HR.out HW.out
   |true=>
    rw[hnm,Bool.not_true,Bool.or_false] at hnb;rw[hnm] at HP;have HNB:=Lib.hid hnb;clear hnb hnm
    go_wp2_with (go_at_call 99;(with_reducible refine(HP.out _).mono ?_);rintro e w2 ⟨rfl,hw⟩;obtain rfl:=hw.symm;clear hw)
    go_loopw [6] (fun c wq=>∃(j q:Nat),j<=k/\c=.int .i64 j/\wq=wr.drewN q/\seenL rs j r.name=false) (fun c _=>k-(intOf c).toNat)
    case atStart=>exact⟨0,0,Nat.zero_le _,rfl,rfl,rfl⟩
    case round=>
     obtain⟨j,q,hj,rfl,rfl,hs⟩:=hrel;have HS:=Lib.hid hs;clear hs;by_cases hjk:j<k
     ·obtain⟨x,hx⟩:∃x,rs[j]?=some x:=⟨_,List.getElem?_eq_getElem (by omega)⟩
      obtain⟨d0,d1⟩:=(HCR.out j x hx).kept HW.out (Nat.le_refl _);have hss:=zjh hx r.name;have k2:(j:Int)<(k:Int):=by omega
      have k3:(j:Int)<(rs.length:Int):=by omega
      by_cases hxr:x.name=r.name
      ·have hin:seenL rs k r.name=true:=by
        have h1:x ∈ rs.take k:=by
         rw[List.mem_iff_getElem?];exact⟨j,by rw[List.getElem?_take,if_pos hjk];exact hx⟩
        unfold seenL;rw[List.any_eq_true];exact⟨x,h1,decide_eq_true hxr⟩
       have HR:=Lib.hid (zj2 (ns:=ns) HSM.out hr0 (HF.out.trans (zb3 (HNB.out.trans hin))));have q1:(x.name.toList == r.name.toList)=true:=by rw[hxr];simp
       clear hx hss hin hxr;go_wp2;go_quiet (fail);go_wp2
       go_ret3
       exact RChkIs.mk (d:=.rules k) HR.out (zak (zak HW.out))
      ·have q1:(x.name.toList == r.name.toList)=false:=by rw[z4r,decide_eq_false hxr]
       have HSS:Hid (seenL rs (j+1) r.name=false):=Lib.hid (by rw[hss,HS.out,decide_eq_false hxr];rfl);clear hx hss hxr;go_wp2;go_quiet (fail);go_wp2;go_roundw
       case rel=>exact⟨j+1,_,by omega,by go_num,rfl,HSS.out⟩
       case measure=>simp[intOf];omega
     ·obtain rfl:j=k:=by omega
      have k2:¬(j:Int)<(j:Int):=by omega
      have HR:=Lib.hid (HF.out.trans (zdu (HNB.out.trans HS.out)));go_wp2;refine⟨⟨j+1,by omega,by go_num,zak HW.out,hsw,b0,b1,HR.out⟩,by simp[intOf];omega⟩
  ·obtain rfl:k=rs.length:=by omega
   have k1:¬(rs.length:Int)<(rs.length:Int):=by omega
   have HR1:Hid (fbad (zbm rs) rs.length 0=none):=Lib.hid (by rw[HF.out,Nat.sub_self];rfl);clear hbw hcr;go_wp2
   go_loopw [7] (fun c wr=>∃k:Nat,k<=ns.length/\c=.int .i64 k/\Below w.heap.size w wr/\w.heap.size<wr.heap.size/\wr.cell? ⟨w.heap.size,0,none⟩=some (.slice (some ⟨rb,ro,none⟩) rs.length rc)/\wr.cell? ⟨w.heap.size,1,none⟩=some (.slice na ns.length nc)/\fbad (zbc ns rs.length) ns.length 0=fbad (zbc ns rs.length) (ns.length-k) k) (fun c _=>ns.length-(intOf c).toNat)
   case atStart=>exact⟨0,Nat.zero_le _,rfl,HW.out,hsw,b0,b1,rfl⟩
   case round=>
    obtain⟨k,hk,rfl,hbw2,hsw2,b02,b12,hf2⟩:=hrel;have HF2:=Lib.hid hf2;have HW2:=Lib.hid hbw2;clear hf2 HF HW b0 b1 hsw;by_cases hlt2:k<ns.length
    ·obtain⟨n,hn⟩:∃r,ns[k]?=some r:=⟨_,List.getElem?_eq_getElem hlt2⟩
     rcases hna with h0|⟨nb,no,rfl,hca⟩
     ·rw[h0] at hlt2;exact absurd hlt2 (Nat.not_lt_zero _)
     obtain⟨kv,c0,c1,c2,c3,c4,c5,c6,⟨ka,kc,rfl,-⟩,cl⟩:=(hca k n hn).kept hbw2 (Nat.le_refl _);have k2:(k:Int)<(ns.length:Int):=by omega
     have hsub:ns.length-k=(ns.length-(k+1))+1:=by omega
     rw[hsub] at HF2;have hnb:zbc ns rs.length k=!madeB n rs.length:=by unfold zbc;rw[hn]
     unfold maxLen at cl;have HC:=Lib.hid (fun W=>zti n ka kc rs.length W (by omega));clear hsub hca hn hbw2;cases hm:madeB n rs.length with
     |false=>
      rw[hm] at hnb HC;have HR:=Lib.hid (ztk HSM.out hr0 HR1.out (HF2.out.trans (zb3 hnb)));clear hnb hm;go_wp2;obtain⟨n0,hn0⟩:∃n0,w.heap.size=n0:=⟨_,rfl⟩;have hnw:n0<=w.heap.size:=Nat.le_of_eq hn0.symm;have HN0:=Lib.hid hn0;have hS:(fun W:World=>W.cell? ⟨w.heap.size,0,none⟩=some (.slice (some ⟨rb,ro,none⟩) rs.length rc)/\W.cell? ⟨w.heap.size,1,none⟩=some (.slice (some ⟨nb,no,none⟩) ns.length nc)/\W.cell? ⟨nb,no+k*7,none⟩=some (.int .i64 n.op)/\W.cell? ⟨nb,no+k*7+1,none⟩=some (.slice ka n.kids.length kc)/\W.cell? ⟨nb,no+k*7+2,none⟩=some (.int .i64 n.rule)/\W.cell? ⟨nb,no+k*7+3,none⟩=some (.int .u64 n.s0)/\W.cell? ⟨nb,no+k*7+4,none⟩=some (.int .u64 n.s1)/\W.cell? ⟨nb,no+k*7+5,none⟩=some (.int .u64 n.s2)/\W.cell? ⟨nb,no+k*7+6,none⟩=some (.int .u64 n.s3)/\w.heap.size<W.heap.size/\Below n0 w W) wr.drew:=⟨b02,b12,c0,c1,c2,c3,c4,c5,c6,hsw2,by rw[<-hn0];exact HW2.out.drew⟩;clear hn0 b02 b12 c0 c1 c2 c3 c4 c5 c6 hsw2 HW2;dsimp only at hS
      go_region_held3 (fun W=>W.cell? ⟨w.heap.size,0,none⟩=some (.slice (some ⟨rb,ro,none⟩) rs.length rc)/\W.cell? ⟨w.heap.size,1,none⟩=some (.slice (some ⟨nb,no,none⟩) ns.length nc)/\W.cell? ⟨nb,no+k*7,none⟩=some (.int .i64 n.op)/\W.cell? ⟨nb,no+k*7+1,none⟩=some (.slice ka n.kids.length kc)/\W.cell? ⟨nb,no+k*7+2,none⟩=some (.int .i64 n.rule)/\W.cell? ⟨nb,no+k*7+3,none⟩=some (.int .u64 n.s0)/\W.cell? ⟨nb,no+k*7+4,none⟩=some (.int .u64 n.s1)/\W.cell? ⟨nb,no+k*7+5,none⟩=some (.int .u64 n.s2)/\W.cell? ⟨nb,no+k*7+6,none⟩=some (.int .u64 n.s3)/\w.heap.size<W.heap.size/\Below n0 w W) (first|exact hS)
       (first|(go_at_call 100;with_reducible refine(HC.out _).mono ?_;rintro ev w3 ⟨rfl,hb⟩;replace hS:=nodK hnw hb hS;clear hb))
      have HB3:=Lib.hid hS.2.2.2.2.2.2.2.2.2.2;clear hS;go_wp2
      go_ret3
      exact RChkIs.mk (d:=.nodes k) HR.out (by rw[HN0.out];exact HB3.out)
     |true=>
      rw[hm] at hnb HC;have HR:=Lib.hid (HF2.out.trans (zdu hnb));clear hnb hm;go_wp2;obtain⟨n0,hn0⟩:∃n0,w.heap.size=n0:=⟨_,rfl⟩;have hnw:n0<=w.heap.size:=Nat.le_of_eq hn0.symm;have HN0:=Lib.hid hn0;have hS:(fun W:World=>W.cell? ⟨w.heap.size,0,none⟩=some (.slice (some ⟨rb,ro,none⟩) rs.length rc)/\W.cell? ⟨w.heap.size,1,none⟩=some (.slice (some ⟨nb,no,none⟩) ns.length nc)/\W.cell? ⟨nb,no+k*7,none⟩=some (.int .i64 n.op)/\W.cell? ⟨nb,no+k*7+1,none⟩=some (.slice ka n.kids.length kc)/\W.cell? ⟨nb,no+k*7+2,none⟩=some (.int .i64 n.rule)/\W.cell? ⟨nb,no+k*7+3,none⟩=some (.int .u64 n.s0)/\W.cell? ⟨nb,no+k*7+4,none⟩=some (.int .u64 n.s1)/\W.cell? ⟨nb,no+k*7+5,none⟩=some (.int .u64 n.s2)/\W.cell? ⟨nb,no+k*7+6,none⟩=some (.int .u64 n.s3)/\w.heap.size<W.heap.size/\Below n0 w W) wr.drew:=⟨b02,b12,c0,c1,c2,c3,c4,c5,c6,hsw2,by rw[<-hn0];exact HW2.out.drew⟩;clear hn0 b02 b12 c0 c1 c2 c3 c4 c5 c6 hsw2 HW2;dsimp only at hS
      go_region_held3 (fun W=>W.cell? ⟨w.heap.size,0,none⟩=some (.slice (some ⟨rb,ro,none⟩) rs.length rc)/\W.cell? ⟨w.heap.size,1,none⟩=some (.slice (some ⟨nb,no,none⟩) ns.length nc)/\W.cell? ⟨nb,no+k*7,none⟩=some (.int .i64 n.op)/\W.cell? ⟨nb,no+k*7+1,none⟩=some (.slice ka n.kids.length kc)/\W.cell? ⟨nb,no+k*7+2,none⟩=some (.int .i64 n.rule)/\W.cell? ⟨nb,no+k*7+3,none⟩=some (.int .u64 n.s0)/\W.cell? ⟨nb,no+k*7+4,none⟩=some (.int .u64 n.s1)/\W.cell? ⟨nb,no+k*7+5,none⟩=some (.int .u64 n.s2)/\W.cell? ⟨nb,no+k*7+6,none⟩=some (.int .u64 n.s3)/\w.heap.size<W.heap.size/\Below n0 w W) (first|exact hS)
       (first|(go_at_call 100;with_reducible refine(HC.out _).mono ?_;rintro ev w3 ⟨rfl,hb⟩;replace hS:=nodK hnw hb hS;clear hb))
      obtain⟨b03,b13,-,-,-,-,-,-,-,hsw3,hb3⟩:=hS;have HB3:=Lib.hid hb3;clear hb3;go_wp2;go_roundw
      case rel=>exact⟨k+1,by omega,by go_num,by rw[HN0.out];exact HB3.out,hsw3,b03,b13,HR.out⟩
      case measure=>simp[intOf];omega
    ·obtain rfl:k=ns.length:=by omega
     have k2:¬(ns.length:Int)<(ns.length:Int):=by omega
     have HR2:Hid (fbad (zbc ns rs.length) ns.length 0=none):=Lib.hid (by rw[HF2.out,Nat.sub_self];rfl);have HO:=Lib.hid (fun W (hb:Below w.heap.size w W)=>zov (.slice (some ⟨rb,ro,none⟩) rs.length rc) na ns.length nc rs ns W (by omega) (HNR.out.kept hb (Nat.le_refl _)) (HNN.out.kept hb (Nat.le_refl _)));clear hbw2;cases ho:ordR ns rs (-1) with
     |false=>
      rw[ho] at HO;have HR:=Lib.hid (ztl HSM.out hr0 HR1.out HR2.out ho);clear ho
      go_wp2_with (go_at_call 101;(with_reducible refine(HO.out _ HW2.out).mono ?_);rintro e w3 ⟨rfl,hb⟩;replace HW2:=Lib.hid (HW2.out.trans (hb.mono HW2.out.size));clear hb)
      go_ret3
      exact RChkIs.mk (d:=.order) HR.out HW2.out
     |true=>
      rw[ho] at HO;have HK:=Lib.hid (zod ho).kids;have HOR:=Lib.hid ho;clear ho
      go_wp2_with (go_at_call 101;(with_reducible refine(HO.out _ HW2.out).mono ?_);rintro e w3 ⟨rfl,hb⟩;replace HW2:=Lib.hid (HW2.out.trans (hb.mono HW2.out.size));have q1:=(bcell hb).1 _ 0 hsw2;have q2:=(bcell hb).1 _ 1 hsw2;rw[b02] at q1;rw[b12] at q2;have hsw3:=Nat.lt_of_lt_of_le hsw2 hb.size;clear hb b02 b12 hsw2)
      go_loopw [8] (fun c wr=>∃k:Nat,k<=ns.length/\c=.int .i64 k/\Below w.heap.size w wr/\w.heap.size<wr.heap.size/\wr.cell? ⟨w.heap.size,0,none⟩=some (.slice (some ⟨rb,ro,none⟩) rs.length rc)/\wr.cell? ⟨w.heap.size,1,none⟩=some (.slice na ns.length nc)/\fbad (zbp ns) ns.length 0=fbad (zbp ns) (ns.length-k) k) (fun c _=>ns.length-(intOf c).toNat)
      case atStart=>exact⟨0,Nat.zero_le _,rfl,HW2.out,hsw3,q1,q2,rfl⟩
      case round=>
       obtain⟨k,hk4,rfl,hbw4,hsw4,b04,b14,hf4⟩:=hrel;have HF4:=Lib.hid hf4;have HW4:=Lib.hid hbw4;clear hf4 HW2 q1 q2 hsw3;by_cases hlt4:k<ns.length
       ·have k4:(k:Int)<(ns.length:Int):=by omega
        have hsub:ns.length-k=(ns.length-(k+1))+1:=by omega
        rw[hsub] at HF4;have hrd:=zul HK.out 205 (k:Int) (by omega) (by omega);rw[show(k:Int).toNat=k by omega] at hrd;have HC:=Lib.hid (zmt (some ⟨rb,ro,none⟩) na rs.length rc ns.length nc ns (by omega) HK.out 205 k 205 wr rfl (by omega) hlt4 (HNN.out.kept HW4.out (Nat.le_refl _)));generalize rdF ns 205 (k:Int)=y at HC hrd;clear hsub hbw4;by_cases hd:200<dpL ns k
        ·have hbad:zbp ns k=true:=decide_eq_true hd
         have HR:=Lib.hid (zxi HSM.out hr0 HR1.out HR2.out HOR.out (HF4.out.trans (zb3 hbad)));have k5:(200:Int)<(y:Int):=by omega
         clear hbad hrd
         go_wp2_with (go_at_call 102;(with_reducible refine HC.out.mono ?_);rintro e w5 ⟨rfl,hb⟩;replace HW4:=Lib.hid (HW4.out.trans (hb.mono HW4.out.size));clear hb)
         go_ret3
         exact RChkIs.mk (d:=.deep k) HR.out HW4.out
        ·have hbad:zbp ns k=false:=decide_eq_false hd
         have HR:=Lib.hid (HF4.out.trans (zdu hbad));have k5:¬(200:Int)<(y:Int):=by omega
         clear hbad hrd
         go_wp2_with (go_at_call 102;(with_reducible refine HC.out.mono ?_);rintro e w5 ⟨rfl,hb⟩;replace HW4:=Lib.hid (HW4.out.trans (hb.mono HW4.out.size));have q1:=(bcell hb).1 _ 0 hsw4;have q2:=(bcell hb).1 _ 1 hsw4;rw[b04] at q1;rw[b14] at q2;have hsw5:=Nat.lt_of_lt_of_le hsw4 hb.size;clear hb b04 b14 hsw4)
         go_roundw
         case rel=>exact⟨k+1,by omega,by go_num,HW4.out,hsw5,q1,q2,HR.out⟩
         case measure=>simp[intOf];omega
       ·obtain rfl:k=ns.length:=by omega
        have k4:¬(ns.length:Int)<(ns.length:Int):=by omega
        have HR4:Hid (fbad (zbp ns) ns.length 0=none):=Lib.hid (by rw[HF4.out,Nat.sub_self];rfl);have HR:=Lib.hid (zxj HSM.out hr0 HR1.out HR2.out HOR.out HR4.out);clear hbw4;go_wp2
        go_ret3
        exact RChkIs.mk (d:=.ok) HR.out HW4.out
theorem ztm (rv nv:Value)(rs:List PR)(ns:List PN)(w:World)(hR:RulesIn w rv rs)(hN:NodesAt w nv ns)(hnm:∀r,r ∈ rs->r.name.size<=2000000) :
  Calls Tryz.prog 60 #[.agg #[rv,nv]] w (RChkIs (chkL rs ns) w):=by
 by_cases hl:1000<rs.length∨10000<ns.length
 ·rw[ztj hl]
  obtain⟨hlr,ra,rc,rfl,-⟩:=hR;obtain⟨hln,na,nc,rfl,-⟩:=hN;unfold maxLen at hlr hln;exact zni ra na rs.length rc ns.length nc w (by omega) (by omega) hl
 ·by_cases h0:rs.length=0
  ·rw[zxh hl h0]
   obtain⟨-,ra,rc,rfl,-⟩:=hR;obtain⟨-,na,nc,rfl,-⟩:=hN;rw[h0];exact zpj ra na rc ns.length nc w (by omega)
  ·exact zpk rv nv rs ns w hR hN hnm hl h0
def okB (c:Chk):Bool:=match c with
 |.ok=>true
 |_=>false
theorem z1o (c:Chk):((chkT c).2.1 == 0)=okB c:=by cases c<;>rfl
theorem zxk (rv nv:Value)(rs:List PR)(ns:List PN)(w:World)(hR:RulesIn w rv rs)(hN:NodesAt w nv ns)(hnm:∀r,r ∈ rs->r.name.size<=2000000) :
  Calls Tryz.prog 30 #[.agg #[rv,nv]] w fun e w'=>e=.returned (.bool (okB (chkL rs ns)))/\Below w.heap.size w w':=by
 have HC:=Lib.hid (fun(o:Obj)=>ztm rv nv rs ns (w.alloc o) (hR.kept (zab w o) (Nat.le_refl _)) (hN.kept (zab w o) (Nat.le_refl _)) hnm);have hq:=z1o (chkL rs ns);obtain⟨-,ra,rc,rfl,-⟩:=hR;obtain⟨-,na,nc,rfl,-⟩:=hN;generalize chkL rs ns=c at *;unfold RChkIs at HC;generalize (chkT c).1=x1 at *;generalize (chkT c).2.1=x2 at *;generalize (chkT c).2.2=x3 at *;cases hb:okB c with
 |false=>
  rw[hb] at hq;clear hb;go_enter Tryz.func30,Tryz.ntmps30
  go_wp2_with (go_at_call 60;(with_reducible refine(HC.out _).mono ?_);rintro e w5 ⟨rfl,hb⟩;have HW:=Lib.hid ((zab w _).trans (hb.mono (zab w _).size));clear hb)
  go_ret;exact⟨rfl,HW.out⟩
 |true=>
  rw[hb] at hq;clear hb;go_enter Tryz.func30,Tryz.ntmps30
  go_wp2_with (go_at_call 60;(with_reducible refine(HC.out _).mono ?_);rintro e w5 ⟨rfl,hb⟩;have HW:=Lib.hid ((zab w _).trans (hb.mono (zab w _).size));clear hb)
  go_ret;exact⟨rfl,HW.out⟩
theorem zj3 (rv nv:Value)(rs:List PR)(ns:List PN)(w:World)(hR:RulesIn w rv rs)(hN:NodesAt w nv ns) :
  Calls Tryz.prog 9 #[.agg #[rv,nv]] w fun e w'=>e=.returned (.bool (fewB rs ns&&okB (chkL rs ns)))/\Below w.heap.size w w':=by
 have HF:=Lib.hid (fun(o:Obj)=>z45 rv nv rs ns (w.alloc o) (hR.kept (zab w o) (Nat.le_refl _)) (hN.kept (zab w o) (Nat.le_refl _)));cases hf:fewB rs ns with
 |false=>
  rw[hf] at HF;obtain⟨-,ra,rc,rfl,-⟩:=hR;obtain⟨-,na,nc,rfl,-⟩:=hN;clear hf;go_enter Tryz.func9,Tryz.ntmps9
  go_wp2_with (go_at_call 29;(with_reducible refine(HF.out _).mono ?_);rintro e w5 ⟨rfl,hb⟩;have HW:=Lib.hid ((zab w _).trans (hb.mono (zab w _).size));clear hb)
  go_ret;exact⟨rfl,HW.out⟩
 |true=>
  rw[hf] at HF;have hnm:∀r,r ∈ rs->r.name.size<=2000000:=fun r hr=>by have:=(zfy hf).1 r hr;omega
  have HV:=Lib.hid (fun(W:World) (hb:Below w.heap.size w W)=>zxk rv nv rs ns W (hR.kept hb (Nat.le_refl _)) (hN.kept hb (Nat.le_refl _)) hnm);obtain⟨-,ra,rc,rfl,-⟩:=hR;obtain⟨-,na,nc,rfl,-⟩:=hN;generalize okB (chkL rs ns)=c at *;clear hf hnm;go_enter Tryz.func9,Tryz.ntmps9
  go_wp2_with (first
   |(go_at_call 29;(with_reducible refine(HF.out _).mono ?_);rintro e w5 ⟨rfl,hb⟩;have HW:=Lib.hid ((zab w _).trans (hb.mono (zab w _).size));have hb2:=(zab w (.cells #[.slice ra rs.length rc,.slice na ns.length nc] 25));have b0:=(bcell hb).1 w.heap.size 0 (by simp);have b1:=(bcell hb).1 w.heap.size 1 (by simp);simp at b0 b1;clear hb hb2)
   |(go_at_call 30;(with_reducible refine(HV.out _ HW.out).mono ?_);rintro e w6 ⟨rfl,hb⟩;replace HW:=Lib.hid (HW.out.trans (hb.mono HW.out.size));clear hb))
  go_ret;exact⟨rfl,HW.out⟩
end Go.Proofs.YthhppmehhdlmnaaGreatDoor
