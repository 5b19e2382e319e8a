/- The reference's Of and Within. -/
import Derived.Test.YthhppmehhdlmnaaGreatDoorPzFR
set_option maxRecDepth 100000
set_option maxHeartbeats 4000000
namespace Go.Proofs.YthhppmehhdlmnaaGreatDoor
open Go.RowKit
theorem FactsAt.drewN {w:World}{v:Value}{l:List Fc}{q:Nat}(h:FactsAt w v l):FactsAt (w.drewN q) v l:=h.kept (zak (Below.refl _ _)) (Nat.le_refl _)
def ROfR (rs:List PR)(ns:List PN)(rv nv:Value)(w:World)(g:Nat)(u:Value)(W:World):Prop:=
 ∃(k:Nat) (a:Option Addr) (c:Nat),k+g=3*ns.length/\u=.slice a ns.length c/\FactsAt W (.slice a ns.length c) (itrF rs ns k)/\Bl W w.heap.size 25 #[rv,nv]/\Below w.heap.size w W
theorem zxl (rv nv:Value)(rs:List PR)(ns:List PN)(w:World)(hR:RulesIn w rv rs)(hN:NodesAt w nv ns)(hO:FlowOk rs ns) :
  Calls Tryz.prog 65 #[.agg #[rv,nv]] w (NewF (lfp rs ns) w):=by
 obtain⟨-,ra,rc,rfl,-⟩:=id hR;obtain⟨-,na,nc,rfl,-⟩:=id hN;have hs:=hO.nl;have hmk:=fun w=>zib .i64 .i64 ns.length (by omega) w
 have HS:=Lib.hid (fun(v:Value) (k:Nat) (W:World) (hb:Below w.heap.size w W) (hF:FactsAt W v (itrF rs ns k))=>zwd _ _ v rs ns (itrF rs ns k) W (hR.kept hb (Nat.le_refl _)) (hN.kept hb (Nat.le_refl _)) hF (zca rs ns k) hO);clear hR hN hO;go_enter Tryz.func65,Tryz.ntmps65;go_wp2
 go_loopg [3] (3*ns.length) (fun g u wr=>ROfR rs ns (.slice ra rs.length rc) (.slice na ns.length nc) w g u wr)
 case atStart=>
  have h1:=FBk.made (w.alloc (.cells #[.slice ra rs.length rc,.slice na ns.length nc] 25)) ns.length 100;rw[show(w.alloc (.cells #[.slice ra rs.length rc,.slice na ns.length nc] 25)).heap.size=w.heap.size+1 by simp] at h1;have h2:=h1.facts (c:=ns.length) (by rw[List.length_replicate];unfold maxLen;omega);rw[List.length_replicate] at h2;exact⟨0,_,_,by omega,rfl,h2,Bl.past (Bl.new w _ _),zat _ _ _⟩
 case round=>
  obtain⟨k,a,c,hk,rfl,hf,hg,hb⟩:=hrel;have g0:=hg.cell (o:=0) (u:=.slice ra rs.length rc) rfl;have g1:=hg.cell (o:=1) (u:=.slice na ns.length nc) rfl;have HC:=Lib.hid (HS.out _ k wr hb hf);rw[show stepF rs ns (itrF rs ns k)=itrF rs ns (k+1) from rfl] at HC;unfold NewF at HC;rw[zca] at HC;have HF:=Lib.hid hf;have HG:=Lib.hid hg;have HB:=Lib.hid hb;have hl1:=zca rs ns k;have HL:=Lib.hid (show(itrF rs ns k).length<=1000000 by omega);clear hf hg hb hl1;by_cases he:itrF rs ns k=itrF rs ns (k+1)
  ·have hfix:=z8a he.symm (by omega)
   have HX:=Lib.hid hfix;have HE:=Lib.hid he;have hll:=za7 rs ns;have HLL:=Lib.hid hll;clear hfix hll
   go_wp2_with (first
    |(go_at_call 106;(with_reducible refine HC.out.mono ?_);rintro e w4 ⟨a4,c4,rfl,hf4,hb⟩;have HB4:=Lib.hid (bl_on HB.out hb);have HF4:=Lib.hid hf4;have HF':=Lib.hid (HF.out.below hb);clear hb hf4)
    |(go_at_call 107;(with_reducible refine(zic _ _ _ _ _ HF'.out HF4.out HL.out).mono ?_);rintro e w5 ⟨hE,q,hw⟩;rw[decide_eq_true HE.out] at hE;obtain rfl:=hE;subst hw))
   go_ret;exact⟨a,c,by rw[HLL.out];rfl,by rw[HLL.out,<-HX.out];exact HF'.out.drewN,zak HB4.out⟩
  ·have hless:=zmr (rs:=rs) (ns:=ns) (k:=k) (Ne.symm he)
   have HE:=Lib.hid he
   go_wp2_with (first
    |(go_at_call 106;(with_reducible refine HC.out.mono ?_);rintro e w4 ⟨a4,c4,rfl,hf4,hb⟩;have HB4:=Lib.hid (bl_on HB.out hb);have HF4:=Lib.hid hf4;have HF':=Lib.hid (HF.out.below hb);have HG4:=Lib.hid (HG.out.below hb);clear hb hf4)
    |(go_at_call 107;(with_reducible refine(zic _ _ _ _ _ HF'.out HF4.out HL.out).mono ?_);rintro e w5 ⟨hE,q,hw⟩;rw[decide_eq_false HE.out] at hE;obtain rfl:=hE;subst hw))
   go_roundg (3*ns.length-(k+1))
   case measure=>omega
   case rel=>exact⟨k+1,a4,c4,by omega,rfl,HF4.out.drewN,HG4.out,zak HB4.out⟩
end Go.Proofs.YthhppmehhdlmnaaGreatDoor
