/- The state of the reference's Of while its rows grow. The reference's Of. Written by wip/gen/resrof.py. -/
import Derived.Deep.Cut
import Derived.Test.YtmopdlbpkiaoeaaGreatDoorPqRG
import Derived.Test.YtmopdlbpkiaoeaaGreatDoorPqRD
set_option maxRecDepth 100000
set_option maxHeartbeats 8000000
open Go.IntKind renaming i64->jd, u64->jg
open Go.Value renaming int->je, slice->jf, string->jh
namespace Go.Proofs.YtmopdlbpkiaoeaaGreatDoor
open Go.Lib renaming hid->qaa
open Go.Proofs.Tryz renaming underlying23->qdq
open Go.World renaming ownsRow_nil->qav
open Int renaming toNat_natCast->qa8
open List renaming getElem?_append_left->qb4, getElem?_append_right->qbg, getElem?_eq_getElem->qae, length_append->qad, take_length->qbz
open Nat renaming le_refl->qac, le_succ->qbh, not_lt_zero->qa3, sub_self->qb8
open Option.some renaming inj->qar
variable {f:MF}{w':World}
section
open Go.RowKit
def zRes:Array Value:=#[jf none 0 0,jf none 0 0,jh ⟨#[]⟩,je jd 0,je jd 0]
def RGst (w:World)(ins:Array Value)(rv:Value)(rn:Nat)(rs:List Value)(nv:Value)(ns:List PN)(qs:List Value)(wr:World):Prop:=
 Bl wr w.heap.size 133 ins/\Bl wr (w.heap.size+1) 137 zRes/\Bl wr (w.heap.size+2) 25 #[rv,nv]/\wr.ownsRow w.heap.size 32 2 rv rn rs /\
 (qs.length=ns.length/\wr.ownsRow w.heap.size 54 7 nv ns.length (zbs (ns.zip qs)))/\(∀(j:Nat) (n:PN) (q:Value),ns[j]?=some n->qs[j]?=some q->IntsAt w q n.kids)/\Below w.heap.size w wr
section
variable {w wr W w5:World} {ins:Array Value} {rv nv v':Value} {rn:Nat} {rs elem:List Value} {ns:List PN} {qs:List Value}
theorem RGst.bel (h:RGst w ins rv rn rs nv ns qs wr):Below w.heap.size w wr:=h.2.2.2.2.2.2
theorem RGst.nrow (h:RGst w ins rv rn rs nv ns qs wr):wr.ownsRow w.heap.size 54 7 nv ns.length (zbs (ns.zip qs)):=h.2.2.2.2.1.2
theorem RGst.below (h:RGst w ins rv rn rs nv ns qs wr)(hb:Below wr.heap.size wr W):RGst w ins rv rn rs nv ns qs W:=
 ⟨h.1.below hb,h.2.1.below hb,h.2.2.1.below hb,zab h.2.2.2.1 hb,⟨h.2.2.2.2.1.1,zab h.nrow hb⟩,h.2.2.2.2.2.1,h.bel.trans (hb.mono h.bel.size)⟩
theorem RGst.rule (h:RGst w ins rv rn rs nv ns qs W)(hg:W.grownBy w5 rv.ownBlock)(hown:w5.ownsRow w.heap.size 32 2 v' (rn+1) (rs++elem)) :
  RGst w ins v' (rn+1) (rs++elem) nv ns qs (w5.setCell ⟨w.heap.size+2,0,none⟩ v'):=by
 obtain⟨h1,h2,h3,h4,⟨hq,h5⟩,hk,h6⟩:=h;have z3:=zbc h3 h4 hg ja;have n1:=zcm h5 h4 hg ja;exact⟨(zbc h1 h4 hg ja).other U _,(zbc h2 h4 hg ja).other U _,z3.put v',ownsRow_setCell_other hown (a:=⟨w.heap.size+2,0,none⟩) (zaq hown z3 ja) _,⟨hq,ownsRow_setCell_other n1 (a:=⟨w.heap.size+2,0,none⟩) (zaq n1 z3 ja) _⟩,hk,(h6.grown hg h6.size (fun b hb=>(h4.lt b hb).1)).setCell (p:=⟨w.heap.size+2,0,none⟩) (by show w.heap.size<=w.heap.size+2;omega) _⟩
theorem RGst.mid (h:RGst w ins rv rn rs nv ns qs W)(hg:W.grownBy w5 rv.ownBlock):Bl w5 (w.heap.size+2) 25 #[rv,nv]:=zbc h.2.2.1 h.2.2.2.1 hg ja
theorem RGst.mid2 (h:RGst w ins rv rn rs nv ns qs W)(hg:W.grownBy w5 nv.ownBlock):Bl w5 (w.heap.size+2) 25 #[rv,nv]:=zbc h.2.2.1 h.nrow hg ja
theorem z1f {n:PN}{kv:Value}(hq:qs.length=ns.length):zbs ((ns++[n]).zip (qs++[kv]))=zbs (ns.zip qs)++nodeC (n,kv):=by
 rw[List.zip_append hq.symm];unfold zbs;rw[List.flatMap_append];simp
theorem RGst.node {n:PN}{kv:Value}(h:RGst w ins rv rn rs nv ns qs W)(hkv:IntsAt w kv n.kids)(hg:W.grownBy w5 nv.ownBlock)(hown:w5.ownsRow w.heap.size 54 7 v' (ns.length+1) (zbs (ns.zip qs)++nodeC (n,kv))) :
  RGst w ins rv rn rs v' (ns++[n]) (qs++[kv]) (w5.setCell ⟨w.heap.size+2,1,none⟩ v'):=by
 obtain⟨h1,h2,h3,h4,⟨hq,h5⟩,hk,h6⟩:=h;have z3:=zbc h3 h5 hg ja;have n0:=zcm h4 h5 hg ja;have hn:w5.ownsRow w.heap.size 54 7 v' (ns++[n]).length (zbs ((ns++[n]).zip (qs++[kv]))):=by
  rw[z1f hq,qad,List.length_singleton];exact hown
 refine⟨(zbc h1 h5 hg ja).other U _,(zbc h2 h5 hg ja).other U _,z3.put v',ownsRow_setCell_other n0 (a:=⟨w.heap.size+2,1,none⟩) (zaq n0 z3 ja) _,⟨by rw[qad,qad,hq];rfl,ownsRow_setCell_other hn (a:=⟨w.heap.size+2,1,none⟩) (zaq hn z3 ja) _⟩,fun j m q a b=>?_,(h6.grown hg h6.size (fun b hb=>(h5.lt b hb).1)).setCell (p:=⟨w.heap.size+2,1,none⟩) (by show w.heap.size<=w.heap.size+2;omega) _⟩;rcases Nat.lt_or_ge j ns.length with hj|hj
 ·rw[qb4 hj] at a
  rw[qb4 (by rw[hq];exact hj)] at b;exact hk j m q a b
 ·have hje:j=ns.length:=by
   have:=(List.getElem?_eq_some_iff.1 a).1;simp at this;omega
  subst hje;rw[qbg (qac _),qb8] at a;rw[qbg (by rw[hq];exact qac _),hq,qb8] at b;obtain rfl:=qar a;obtain rfl:=qar b;exact hkv
def ROfIs (rs:List (List Nat × Nat × Int))(f:MF)(w:World)(e:Ending)(w':World):Prop:=match dupO rs with
 |some x=>e=.returned (.agg #[jf none 0 0,jf none 0 0,jh (strOf x.1),je jd 2,je jd (x.2:Int)])/\Below w.heap.size w w'
 |none=>match undO (nmR rs) f with
  |some x=>e=.returned (.agg #[jf none 0 0,jf none 0 0,jh (strOf x.1),je jd 3,je jd (x.2:Int)])/\Below w.heap.size w w'
  |none=>∃rv nv,e=.returned (.agg #[rv,nv,jh ⟨#[]⟩,je jd 0,je jd 0])/\RulesIn w' rv (zam rs)/\NodesAt w' nv (zan (nmR rs) (nmC f) f.nodes)/\Below w.heap.size w w'
theorem ROfIs.dup {rs:List (List Nat × Nat × Int)}{x:List Nat × Nat}(hd:dupO rs=some x)(hb:Below w.heap.size w w'):ROfIs rs f w (.returned (.agg #[jf none 0 0,jf none 0 0,jh (strOf x.1),je jd 2,je jd (x.2:Int)])) w':=by
 unfold ROfIs;rw[hd];exact⟨rfl,hb⟩
theorem ROfIs.und {rs:List (List Nat × Nat × Int)}{x:List Nat × Nat}(hd:dupO rs=none)(hu:undO (nmR rs) f=some x)(hb:Below w.heap.size w w'):ROfIs rs f w (.returned (.agg #[jf none 0 0,jf none 0 0,jh (strOf x.1),je jd 3,je jd (x.2:Int)])) w':=by
 unfold ROfIs;rw[hd];dsimp only;rw[hu];exact⟨rfl,hb⟩
theorem ROfIs.ok {rs:List (List Nat × Nat × Int)}(hd:dupO rs=none)(hu:undO (nmR rs) f=none)(h1:RulesIn w' rv (zam rs))(h2:NodesAt w' nv (zan (nmR rs) (nmC f) f.nodes))(hb:Below w.heap.size w w'):ROfIs rs f w (.returned (.agg #[rv,nv,jh ⟨#[]⟩,je jd 0,je jd 0])) w':=by
 unfold ROfIs;rw[hd];dsimp only;rw[hu];exact⟨rv,nv,rfl,h1,h2,hb⟩
theorem RGst.fin {ts:List PR}(h:RGst w ins rv ts.length (zb5 ts) nv ns qs W)(hl:ts.length<=maxLen)(hn:ns.length<=maxLen)(hk:∀n,n ∈ ns->n.kids.length<=maxLen){W':World}(hb:∀b,b<W.heap.size->b≠w.heap.size+1->W'.heap[b]?=W.heap[b]?)(hB:Below w.heap.size w W'):RulesIn W' rv ts/\NodesAt W' nv ns:=by
 have key:∀ {e:TypeId} {size n:Nat} {v:Value} {xs:List Value},e≠137->W.ownsRow w.heap.size e size v n xs->W'.ownsRow w.heap.size e size v n xs:=fun he ho=>by
  obtain⟨h1,h2⟩:=ho;refine⟨h1,?_⟩;rcases h2 with h2|⟨g,cap,cur,hv,hg,hh,hr⟩
  ·exact .inl h2
  ·refine .inr ⟨g,cap,cur,hv,hg,?_,hr⟩
   rw[hb g (Array.getElem?_eq_some_iff.1 hh).1 (fun e0=>by
    subst e0;have:=h.2.1;unfold Bl at this;rw[this] at hh;injection hh with hh;injection hh with _ hh _;exact he hh.symm)]
   exact hh
 exact⟨RulesIn.of_own (key ja h.2.2.2.1) hl,NodesAt.of_own (key ja h.nrow) h.2.2.2.2.1.1 hn fun j n q a b=>⟨(h.2.2.2.2.2.1 j n q a b).kept hB (qac _),hk n (List.mem_of_getElem? a)⟩⟩
end
end
section
open Go.RowKit
theorem zhn {n B:Nat}{w W:World}(h:Below n w W)(hB:n<=B)(x0 x1 x2 x3 x4:Value):Below n w (((((W.setCell ⟨B,0,none⟩ x0).setCell ⟨B,1,none⟩ x1).setCell ⟨B,2,none⟩ x2).setCell ⟨B,3,none⟩ x3).setCell ⟨B,4,none⟩ x4):=
 ((((h.setCell (p:=⟨B,0,none⟩) hB x0).setCell (p:=⟨B,1,none⟩) hB x1).setCell (p:=⟨B,2,none⟩) hB x2).setCell (p:=⟨B,3,none⟩) hB x3).setCell (p:=⟨B,4,none⟩) hB x4
theorem zx3 {b B:Nat}(W:World)(hb:b≠B)(x0 x1 x2 x3 x4:Value):(((((W.setCell ⟨B,0,none⟩ x0).setCell ⟨B,1,none⟩ x1).setCell ⟨B,2,none⟩ x2).setCell ⟨B,3,none⟩ x3).setCell ⟨B,4,none⟩ x4).heap[b]?=W.heap[b]?:=by
 rw[heap_setCell_other _ _ _ _ hb,heap_setCell_other _ _ _ _ hb,heap_setCell_other _ _ _ _ hb,heap_setCell_other _ _ _ _ hb,heap_setCell_other _ _ _ _ hb]
theorem zeu (rv nv cv:Value)(rs:List (List Nat × Nat × Int))(f:MF)(w:World)(h:FileIn w rv nv cv rs f)(hK:FileOk rs f) :
  Calls Tryz.prog 78 #[.agg #[rv,nv,cv]] w (ROfIs rs f w):=by
 have HOK:=qaa hK;have HFI:=qaa (fun(x:ByteArray) (W:World) (hW:Below w.heap.size w W)=>zhm _ _ _ rs f x W (h.below hW) (by have:=hK.rl;omega));have hrl:=hK.rl;have hcl:=hK.cl;have hnl:=hK.nl;obtain⟨-,⟨a1,c1,rfl,-,ha1⟩,⟨-,a2,c2,rfl,ha2⟩,a3,c3,rfl,-,ha3⟩:=h;have HA1:=qaa ha1;have HA2:=qaa ha2;have HA3:=qaa ha3;clear ha1 ha2 ha3 hK;have H0:Hid (RGst w #[jf a1 rs.length c1,jf a2 f.nodes.length c2,jf a3 f.calls.length c3] (jf none 0 0) 0 (zb5 (zam (rs.take 0))) (jf none 0 0) [] [] (((w.alloc (.cells #[jf a1 rs.length c1,jf a2 f.nodes.length c2,jf a3 f.calls.length c3] 133)).alloc (.cells #[jf none 0 0,jf none 0 0,jh ⟨#[]⟩,je jd 0,je jd 0] 137)).alloc (.cells #[jf none 0 0,jf none 0 0] 25))):=qaa ⟨(Bl.new w _ _).past.past,(Bl.new' jc).past,Bl.new' jc,qav _ _ _ _,⟨rfl,qav _ _ _ _⟩,fun j n q a b=>by simp at a,((zaa w _).trans ((zaa _ _).mono jc)).trans ((zaa _ _).mono (by simp<;>omega))⟩;go_enter Tryz.func78,Tryz.ntmps78;go_wp2;obtain⟨W0,hW0⟩:∃W0,((w.alloc (.cells #[jf a1 rs.length c1,jf a2 f.nodes.length c2,jf a3 f.calls.length c3] 133)).alloc (.cells #[jf none 0 0,jf none 0 0,jh ⟨#[]⟩,je jd 0,je jd 0] 137)).alloc (.cells #[jf none 0 0,jf none 0 0] 25)=W0:=⟨_,rfl⟩;rw[hW0] at H0;rw[hW0];clear hW0
 go_loopw [4] (fun c wr=>∃(k:Nat) (ra:Option Addr) (rc:Nat),k<=rs.length/\c=je jd k/\fbad (dupB (nmR rs)) rs.length 0=fbad (dupB (nmR rs)) (rs.length-k) k/\RGst w #[jf a1 rs.length c1,jf a2 f.nodes.length c2,jf a3 f.calls.length c3] (jf ra k rc) k (zb5 (zam (rs.take k))) (jf none 0 0) [] [] wr) (fun c _=>rs.length-(intOf c).toNat)
 case atStart=>exact⟨0,none,0,Nat.zero_le _,rfl,rfl,H0.out⟩
 case round=>
  obtain⟨k,ra,rc,hk,rfl,hf,hG⟩:=hrel;have hbs:=hG.bel.size;have HB:=qaa hG.bel;have HG:=qaa hG;have HF:=qaa hf;have x0:=hG.1.cell (o:=0) (u:=jf a1 rs.length c1) rfl;have x1:=hG.1.cell (o:=1) (u:=jf a2 f.nodes.length c2) rfl;have x2:=hG.1.cell (o:=2) (u:=jf a3 f.calls.length c3) rfl;have xl:=hG.1.lt;clear hG hf;by_cases hlt:k<rs.length
  ·obtain⟨x,hx⟩:∃x,rs[k]?=some x:=⟨_,qae hlt⟩
   rcases HA1.out with hz|⟨ab,ao,rfl,hca⟩
   ·rw[hz] at hlt;exact absurd hlt (qa3 _)
   obtain⟨e0,e1,e2,e3⟩:=zdt hca hx HB.out;have k1:(k:Int)<(rs.length:Int):=U
   have HX:=qaa (zjq hx);have hsub:rs.length-k=(rs.length-(k+1))+1:=U
   rw[hsub] at HF;obtain⟨j,hj,hjk⟩:=zgu (zgw hx);have HD:=qaa (zmd (zgw hx) hj);have HXX:=qaa hx;obtain⟨ir,hir,hzr0,hzr1,hzr2⟩:=info_parts zrl;have hb1:=zaa wr (.cells #[jh (strOf x.1),je jd (x.2.1:Int),je jd x.2.2] 173);have HW:=qaa (Bl.new wr 173 #[jh (strOf x.1),je jd (x.2.1:Int),je jd x.2.2]);have HG1:=qaa (HG.out.below hb1);have HB1:=qaa (HB.out.trans (hb1.mono hbs));clear hca hsub hb1 hx
   go_upto_region 6 with fail
   obtain⟨W1,hW1⟩:∃W1,wr.alloc (.cells #[jh (strOf x.1),je jd (x.2.1:Int),je jd x.2.2] 173)=W1:=⟨_,rfl⟩;rw[hW1] at HW HG1 HB1;rw[hW1];obtain⟨R,hR⟩:∃R,wr.heap.size=R:=⟨_,rfl⟩;rw[hR] at HW;rw[hR];clear hW1 hR e0 e1 e2 e3 hbs x0 x1 x2 xl HB;have x0:=HG1.out.1.cell (o:=0) (u:=jf (some ⟨ab,ao,none⟩) rs.length c1) rfl;have x1:=HG1.out.1.cell (o:=1) (u:=jf a2 f.nodes.length c2) rfl;have x2:=HG1.out.1.cell (o:=2) (u:=jf a3 f.calls.length c3) rfl;have xl:=HG1.out.1.lt;have f0:=HW.out.cell (o:=0) (u:=jh (strOf x.1)) rfl;have fl:=HW.out.lt;have hru:=HFI.out (strOf x.1) W1 HB1.out;rw[hj] at hru;have HRU:Hid (Calls Tryz.prog 109 #[.agg #[jf (some ⟨ab,ao,none⟩) rs.length c1,jf a2 f.nodes.length c2,jf a3 f.calls.length c3],jh (strOf x.1)] W1 fun e w'=>e=.returned (je jd (j:Int))/\Below W1.heap.size W1 w'):=qaa hru;clear hj hru;by_cases hjl:j<k
   ·have HR:=qaa (zmg (HF.out.trans (zbn (HD.out.trans (decide_eq_true hjl)))) HXX.out)
    have k2:(j:Int)<(k:Int):=U
    clear HF HD
    go_upto_region 7 with(go_at_call 109;(with_reducible refine HRU.out.mono ?_);rintro e w2 ⟨rfl,hb⟩;have HW2:=qaa (HW.out.below hb);have HG2:=qaa (HG1.out.below hb);have HB2:=qaa (HB1.out.trans (hb.mono HB1.out.size));clear hb f0 fl x0 x1 x2 xl)
    have f0:=HW2.out.cell (o:=0) (u:=jh (strOf x.1)) rfl;have f1:=HW2.out.cell (o:=1) (u:=je jd (x.2.1:Int)) rfl;have fl:=HW2.out.lt;have r0:=HG2.out.2.1.cell (o:=0) (u:=jf none 0 0) rfl;have r1:=HG2.out.2.1.cell (o:=1) (u:=jf none 0 0) rfl;have r2:=HG2.out.2.1.cell (o:=2) (u:=jh ⟨#[]⟩) rfl;have r3:=HG2.out.2.1.cell (o:=3) (u:=je jd 0) rfl;have r4:=HG2.out.2.1.cell (o:=4) (u:=je jd 0) rfl;have rf:=HG2.out.2.1.free;have rl:=HG2.out.2.1.lt;go_wp2;refine bodyPost_ret (v:=.agg #[jf none 0 0,jf none 0 0,jh (strOf x.1),je jd 2,je jd (x.2.1:Int)]) (by simp[results,Tryz.results78,go_sem,r0,r1,r2,r3,r4]) rfl ?_;exact ROfIs.dup HR.out (zhn HB2.out (qbh _) _ _ _ _ _)
   ·have HR:=qaa (HF.out.trans (zbz (HD.out.trans (decide_eq_false hjl))))
    have k2:¬(j:Int)<(k:Int):=U
    clear HF HD
    go_upto_region 8 with(go_at_call 109;(with_reducible refine HRU.out.mono ?_);rintro e w2 ⟨rfl,hb⟩;have HW2:=qaa (HW.out.below hb);have HG2:=qaa (HG1.out.below hb);clear hb f0 fl x0 x1 x2 xl)
    have f0:=HW2.out.cell (o:=0) (u:=jh (strOf x.1)) rfl;have f2:=HW2.out.cell (o:=2) (u:=je jd x.2.2) rfl;have fl:=HW2.out.lt;have g0:=HG2.out.2.2.1.cell (o:=0) (u:=jf ra k rc) rfl;have gl:=HG2.out.2.2.1.lt;have hs2:=HG2.out.bel.size;have HCC:=qaa (zc7 w2 [jh (strOf x.1),je jd x.2.2] 32)
    go_wp2_with (at_builtin;(refine wpList_append_own _ rfl _ _ 22 rfl w.heap.size 32 ir _ 2 24 Tryz.underlying22 hir hzr0 hzr1 hzr2 rfl ja _ k _ rfl (zab HG2.out.2.2.2.1 (zaa w2 _)) ⟨_,0,none⟩ 1 1 [jh (strOf x.1),je jd x.2.2] rfl rfl HCC.out (by simp[Value.oneCell']) (by unfold maxLen;omega) U (by simp;omega) ?_);intro v5 w5 hown5 hgrow5 _;obtain⟨a5,c5,rfl⟩:=zag hown5;have HG5:=qaa (RGst.rule (HG2.out.below (zaa w2 _)) hgrow5 hown5);have hm5:=RGst.mid (HG2.out.below (zaa w2 _)) hgrow5;have z0:=hm5.cell (o:=0) (u:=jf ra k rc) rfl;have zf:=hm5.free 0;have zl:=hm5.lt;clear hown5 hgrow5 hm5)
    rw[<-HX.out] at HG5;go_roundw
    case rel=>exact⟨k+1,a5,c5,hlt,by go_num,HR.out,HG5.out⟩
    case measure=>simp[intOf];omega
  ·obtain rfl:k=rs.length:=U
   have k1:¬(rs.length:Int)<(rs.length:Int):=U
   have HDN:Hid (dupO rs=none):=qaa (zjp (by rw[HF.out,qb8];rfl));have HG2:Hid (RGst w #[jf a1 rs.length c1,jf a2 f.nodes.length c2,jf a3 f.calls.length c3] (jf ra rs.length rc) rs.length (zb5 (zam rs)) (jf none 0 0) (zan (nmR rs) (nmC f) (f.nodes.take 0)) [] wr):=qaa (by
    have:=HG.out;rw[qbz] at this;exact this)
   clear HG HB HF hbs hlt hk H0;go_wp2;clear x0 x1 x2 xl k1
   go_loopw [6] (fun c wq=>∃(i:Nat) (na:Option Addr) (nc:Nat) (qs:List Value),i<=f.nodes.length/\c=je jd i/\fbad (badN (nmR rs) (nmC f) f.nodes) f.nodes.length 0=fbad (badN (nmR rs) (nmC f) f.nodes) (f.nodes.length-i) i/\RGst w #[jf a1 rs.length c1,jf a2 f.nodes.length c2,jf a3 f.calls.length c3] (jf ra rs.length rc) rs.length (zb5 (zam rs)) (jf na i nc) (zan (nmR rs) (nmC f) (f.nodes.take i)) qs wq) (fun c _=>f.nodes.length-(intOf c).toNat)
   case atStart=>exact⟨0,none,0,[],Nat.zero_le _,rfl,rfl,HG2.out⟩
   case round=>
    clear HG2;obtain⟨i,na,nc,qs,hi,rfl,hf,hG⟩:=hrel;have hbs:=hG.bel.size;have HB:=qaa hG.bel;have HG:=qaa hG;have HF:=qaa hf;have x1:=hG.1.cell (o:=1) (u:=jf a2 f.nodes.length c2) rfl;have xl:=hG.1.lt;clear hf;by_cases hlt:i<f.nodes.length
    ·obtain⟨n,hn'⟩:∃n,f.nodes[i]?=some n:=⟨_,qae hlt⟩
     rcases HA2.out with hz|⟨ab,ao,rfl,hca⟩
     ·rw[hz] at hlt;exact absurd hlt (qa3 _)
     have HDI:=qaa (hca i n hn');obtain⟨kv,d0,d1,d2,d3,d4,d5,d6,di,dl⟩:=(hca i n hn').kept HB.out (qac _);have la:=zai d0;have k1:(i:Int)<(f.nodes.length:Int):=U
     have HX:=qaa (zjr (l:=nmR rs) (m:=nmC f) hn');have HNK:=qaa hn';have hsub:f.nodes.length-i=(f.nodes.length-(i+1))+1:=U
     rw[hsub] at HF;have HBN:=qaa (zmf (l:=nmR rs) (m:=nmC f) hn');have HKV:Hid (∀q,kv=q->IntsAt w q n.kids):=qaa (by
      rintro q rfl;obtain⟨kv',-,b1,-,-,-,-,-,bi,-⟩:=HDI.out;have:=(bcell HB.out).1 _ (ao+i*7+1) (zai b1);rw[d1,b1] at this;obtain rfl:=qar this;exact bi)
     obtain⟨ka,kc,rfl,-⟩:=di;have HLEN:Hid ((zan (nmR rs) (nmC f) (f.nodes.take i)).length=i):=qaa (by rw[zc1,List.length_take];omega);obtain⟨ie,hie,hze0,hze1,hze2⟩:=info_parts zik;have hb1:=zaa wr (.cells #[je jd n.op,jf ka n.kids.length kc,je jd n.rule,je jg n.s0,je jg n.s1,je jg n.s2,je jg n.s3] 54);have HN2:=qaa (Bl.new wr 54 #[je jd n.op,jf ka n.kids.length kc,je jd n.rule,je jg n.s0,je jg n.s1,je jg n.s2,je jg n.s3]);have HG2:=qaa (HG.out.below hb1);have HQ2:=qaa hb1;clear hca hn' dl hsub hb1 HDI hG
     go_upto_region 13 with fail
     obtain⟨W2,hW2⟩:∃W2,wr.alloc (.cells #[je jd n.op,jf ka n.kids.length kc,je jd n.rule,je jg n.s0,je jg n.s1,je jg n.s2,je jg n.s3] 54)=W2:=⟨_,rfl⟩;rw[hW2] at HN2 HG2 HQ2;rw[hW2];obtain⟨R,hR⟩:∃R,wr.heap.size=R:=⟨_,rfl⟩;rw[hR] at HN2 hbs;rw[hR];have HRE:=qaa hR;clear hW2 hR d0 d1 d2 d3 d4 d5 d6 la x1 xl HB;have x0:=HG2.out.1.cell (o:=0) (u:=jf a1 rs.length c1) rfl;have x1:=HG2.out.1.cell (o:=1) (u:=jf (some ⟨ab,ao,none⟩) f.nodes.length c2) rfl;have x2:=HG2.out.1.cell (o:=2) (u:=jf a3 f.calls.length c3) rfl;have xl:=HG2.out.1.lt;have y0:=HN2.out.cell (o:=0) (u:=je jd n.op) rfl;have yl:=HN2.out.lt;by_cases h2:n.op=2
     ·obtain⟨c,hcr,hcl'⟩:=HOK.out.ok.rule HNK.out h2
      obtain⟨x,hx⟩:∃x,f.calls[c]?=some x:=⟨_,qae hcl'⟩;rcases HA3.out with hz|⟨cb,co,rfl,hca⟩
      ·rw[hz] at hcl';exact absurd hcl' (qa3 _)
      obtain⟨e0,e1,e3⟩:=zcy hca hx HG2.out.bel;have y2:=HN2.out.cell (o:=2) (u:=je jd n.rule) rfl;rw[hcr] at y2;have q1:(n.op == 2)=true:=by rw[h2];rfl
      have q3:(c:Int)<(f.calls.length:Int):=U
      have hub:badN (nmR rs) (nmC f) f.nodes i=(fndL (nmR rs) (strOf x.1)).isNone:=by
       rw[HBN.out,decide_eq_true h2,Bool.true_and,hcr,qa8];exact zjm (zgx hx)
      have HUB:=qaa hub;have HNP:Hid (gNode (nmR rs) (nmC f) n=⟨n.op,n.kids,idxO (fndL (nmR rs) (strOf x.1)),n.s0,n.s1,n.s2,n.s3⟩):=qaa (by
       have e:(nmC f).getD n.rule.toNat ByteArray.empty=strOf x.1:=by
        rw[hcr,qa8,List.getD_eq_getElem?_getD,zgx hx];rfl
       unfold gNode;rw[if_pos h2,e])
      have HXC:=qaa hx;have HCR:=qaa hcr;have HH2:=qaa h2;have HW3:=qaa (Bl.new W2 176 #[jh (strOf x.1),je jd (x.2:Int)]);have hb3:=zaa W2 (.cells #[jh (strOf x.1),je jd (x.2:Int)] 176);have HN3:=qaa (HN2.out.below hb3);have HG3:=qaa (HG2.out.below hb3);have HQ3:=qaa (HQ2.out.trans (hb3.mono HQ2.out.size));have HRU:=qaa (fun(W:World) (hW:Below w.heap.size w W)=>HFI.out (strOf x.1) W hW);clear hca hx hcr h2 hub hb3
      go_upto_region 15 with fail
      obtain⟨W3,hW3⟩:∃W3,W2.alloc (.cells #[jh (strOf x.1),je jd (x.2:Int)] 176)=W3:=⟨_,rfl⟩;rw[hW3] at HW3 HN3 HG3 HQ3;rw[hW3];obtain⟨S,hS⟩:∃S,W2.heap.size=S:=⟨_,rfl⟩;rw[hS] at HW3;rw[hS];have hRS:R<S:=by rw[<-hS];exact yl
      clear hW3 hS e0 e1 e3 y0 y2 yl x0 x1 x2 xl HN2 HG2 q3;have x0:=HG3.out.1.cell (o:=0) (u:=jf a1 rs.length c1) rfl;have x1:=HG3.out.1.cell (o:=1) (u:=jf (some ⟨ab,ao,none⟩) f.nodes.length c2) rfl;have x2:=HG3.out.1.cell (o:=2) (u:=jf (some ⟨cb,co,none⟩) f.calls.length c3) rfl;have xl:=HG3.out.1.lt;have f0:=HW3.out.cell (o:=0) (u:=jh (strOf x.1)) rfl;have fl:=HW3.out.lt;obtain⟨z,hz⟩:∃z,idxO (fndL (nmR rs) (strOf x.1))=z:=⟨_,rfl⟩;rw[hz] at HRU HNP;have HZ:=qaa hz;clear hz
      go_upto_region 16 with(go_at_call 109;(with_reducible refine(HRU.out _ HG3.out.bel).mono ?_);rintro e w4 ⟨rfl,hb⟩;have HW4:=qaa (HW3.out.below hb);have HN4:=qaa (HN3.out.below hb);have HQ4:=qaa (HQ3.out.trans (hb.mono HQ3.out.size));have y2:=HN4.out.cell (o:=2) (u:=je jd n.rule) rfl;have yf:=HN4.out.free 2;have yl:=HN4.out.lt;clear hb f0 fl x0 x1 x2 xl)
      have HN5:Hid (Bl (w4.setCell ⟨R,2,none⟩ (je jd z)) R 54 #[je jd n.op,jf ka n.kids.length kc,je jd z,je jg n.s0,je jg n.s1,je jg n.s2,je jg n.s3]):=qaa (HN4.out.put _);have HW5:=qaa (HW4.out.other (c:=R) (o:=2) U (je jd z));have HG5:=qaa (HG.out.below (HQ4.out.setCell (p:=⟨R,2,none⟩) (by rw[HRE.out];exact qac R) (je jd z)));obtain⟨W5,hW5⟩:∃W5,w4.setCell ⟨R,2,none⟩ (je jd z)=W5:=⟨_,rfl⟩;rw[hW5] at HN5 HW5 HG5;rw[hW5];clear hW5 y2 yf yl HN4 HW4 HG3 HN3 HW3;have y0:=HN5.out.cell (o:=0) (u:=je jd n.op) rfl;have y1:=HN5.out.cell (o:=1) (u:=jf ka n.kids.length kc) rfl;have y2:=HN5.out.cell (o:=2) (u:=je jd z) rfl;have y3:=HN5.out.cell (o:=3) (u:=je jg n.s0) rfl;have y4:=HN5.out.cell (o:=4) (u:=je jg n.s1) rfl;have y5:=HN5.out.cell (o:=5) (u:=je jg n.s2) rfl;have y6:=HN5.out.cell (o:=6) (u:=je jg n.s3) rfl;have yl:=HN5.out.lt;have HB2:=qaa HG5.out.bel;cases hfd:fndL (nmR rs) (strOf x.1) with
      |none=>
       rw[hfd] at HUB HZ;have hz2:z=-1:=HZ.out.symm;have k2:z<0:=U
       have HU:Hid (undO (nmR rs) f=some x):=qaa (by
        refine zr5 (k:=c) ?_ HXC.out;have h3:=zn8 (l:=nmR rs) (zcv f) HOK.out.ok;rw[HF.out,zbn (by rw[HUB.out];rfl),zcv] at h3;rw[h3];dsimp only;have h4:=HOK.out.ok.2 i n HNK.out HH2.out;rw[HCR.out] at h4;congr 1;omega)
       clear hfd hz2;have f0:=HW5.out.cell (o:=0) (u:=jh (strOf x.1)) rfl;have f1:=HW5.out.cell (o:=1) (u:=je jd (x.2:Int)) rfl;have fl:=HW5.out.lt;have r0:=HG5.out.2.1.cell (o:=0) (u:=jf none 0 0) rfl;have r1:=HG5.out.2.1.cell (o:=1) (u:=jf none 0 0) rfl;have r2:=HG5.out.2.1.cell (o:=2) (u:=jh ⟨#[]⟩) rfl;have r3:=HG5.out.2.1.cell (o:=3) (u:=je jd 0) rfl;have r4:=HG5.out.2.1.cell (o:=4) (u:=je jd 0) rfl;have rf:=HG5.out.2.1.free;have rl:=HG5.out.2.1.lt;go_wp2;refine bodyPost_ret (v:=.agg #[jf none 0 0,jf none 0 0,jh (strOf x.1),je jd 3,je jd (x.2:Int)]) (by simp[results,Tryz.results78,go_sem,r0,r1,r2,r3,r4]) rfl ?_;exact ROfIs.und HDN.out HU.out (zhn HB2.out (qbh _) _ _ _ _ _)
      |some j=>
       rw[hfd] at HUB HZ;have hz2:z=(j:Int):=HZ.out.symm;have k2:¬z<0:=U
       have HR:Hid (fbad (badN (nmR rs) (nmC f) f.nodes) f.nodes.length 0=fbad (badN (nmR rs) (nmC f) f.nodes) (f.nodes.length-(i+1)) (i+1)):=qaa (HF.out.trans (zbz (by rw[HUB.out];rfl)));clear hfd hz2
       go_upto_region 18 with fail
       obtain⟨W3,rfl⟩:∃W3,W3=W5:=⟨_,rfl⟩;have HG3:=HG5;have g1:=HG3.out.2.2.1.cell (o:=1) (u:=jf na i nc) rfl;have gl:=HG3.out.2.2.1.lt;have hs3:=HG3.out.bel.size;have HCC:=qaa (zc7 W3 (nodeC ((⟨n.op,n.kids,z,n.s0,n.s1,n.s2,n.s3⟩:PN),jf ka n.kids.length kc)) 54)
       go_wp2_with (at_builtin;(refine wpList_append_own _ rfl _ _ 23 rfl w.heap.size 54 ie _ 7 72 qdq hie hze0 hze1 hze2 rfl ja _ (zan (nmR rs) (nmC f) (f.nodes.take i)).length _ rfl (zab HG3.out.nrow (zaa W3 _)) ⟨_,0,none⟩ 1 1 (nodeC ((⟨n.op,n.kids,z,n.s0,n.s1,n.s2,n.s3⟩:PN),jf ka n.kids.length kc)) rfl rfl HCC.out (by simp[nodeC,Value.oneCell']) (by rw[HLEN.out];unfold maxLen;omega) (by rw[HLEN.out];omega) (by simp;omega) ?_);intro v6 w6 hown6 hgrow6 _;obtain⟨a6,c6,rfl⟩:=zag hown6;have HG4:=qaa (RGst.node (n:=(⟨n.op,n.kids,z,n.s0,n.s1,n.s2,n.s3⟩:PN)) (HG3.out.below (zaa W3 _)) (HKV.out _ rfl) hgrow6 hown6);have hm5:=RGst.mid2 (HG3.out.below (zaa W3 _)) hgrow6;have z0:=hm5.cell (o:=1) (u:=jf na i nc) rfl;have zf:=hm5.free 1;have zl:=hm5.lt;rw[HLEN.out] at HG4 ⊢;clear hown6 hgrow6 hm5)
       go_roundw
       case rel=>exact⟨i+1,a6,c6,_,hlt,by go_num,HR.out,by
        have:=HG4.out;rw[HX.out,HNP.out];exact this⟩
       case measure=>simp[intOf];omega
     ·have HNP:Hid (gNode (nmR rs) (nmC f) n=n):=qaa (if_neg h2)
      have q1:(n.op == 2)=false:=zae h2;have HR:Hid (fbad (badN (nmR rs) (nmC f) f.nodes) f.nodes.length 0=fbad (badN (nmR rs) (nmC f) f.nodes) (f.nodes.length-(i+1)) (i+1)):=qaa (HF.out.trans (zbz (by rw[HBN.out,decide_eq_false h2];rfl)));clear h2;have y1:=HN2.out.cell (o:=1) (u:=jf ka n.kids.length kc) rfl;have y2:=HN2.out.cell (o:=2) (u:=je jd n.rule) rfl;have y3:=HN2.out.cell (o:=3) (u:=je jg n.s0) rfl;have y4:=HN2.out.cell (o:=4) (u:=je jg n.s1) rfl;have y5:=HN2.out.cell (o:=5) (u:=je jg n.s2) rfl;have y6:=HN2.out.cell (o:=6) (u:=je jg n.s3) rfl
      go_upto_region 18 with fail
      obtain⟨W3,rfl⟩:∃W3,W3=W2:=⟨_,rfl⟩;have HG3:=HG2;clear x0 x1 x2 xl;have g1:=HG3.out.2.2.1.cell (o:=1) (u:=jf na i nc) rfl;have gl:=HG3.out.2.2.1.lt;have hs3:=HG3.out.bel.size;have HCC:=qaa (zc7 W3 (nodeC (n,jf ka n.kids.length kc)) 54)
      go_wp2_with (at_builtin;(refine wpList_append_own _ rfl _ _ 23 rfl w.heap.size 54 ie _ 7 72 qdq hie hze0 hze1 hze2 rfl ja _ (zan (nmR rs) (nmC f) (f.nodes.take i)).length _ rfl (zab HG3.out.nrow (zaa W3 _)) ⟨_,0,none⟩ 1 1 (nodeC (n,jf ka n.kids.length kc)) rfl rfl HCC.out (by simp[nodeC,Value.oneCell']) (by rw[HLEN.out];unfold maxLen;omega) (by rw[HLEN.out];omega) (by simp;omega) ?_);intro v6 w6 hown6 hgrow6 _;obtain⟨a6,c6,rfl⟩:=zag hown6;have HG4:=qaa (RGst.node (n:=n) (HG3.out.below (zaa W3 _)) (HKV.out _ rfl) hgrow6 hown6);have hm5:=RGst.mid2 (HG3.out.below (zaa W3 _)) hgrow6;have z0:=hm5.cell (o:=1) (u:=jf na i nc) rfl;have zf:=hm5.free 1;have zl:=hm5.lt;rw[HLEN.out] at HG4 ⊢;clear hown6 hgrow6 hm5)
      go_roundw
      case rel=>exact⟨i+1,a6,c6,_,hlt,by go_num,HR.out,by
       have:=HG4.out;rw[HX.out,HNP.out];exact this⟩
      case measure=>simp[intOf];omega
    ·obtain rfl:i=f.nodes.length:=U
     have k1:¬(f.nodes.length:Int)<(f.nodes.length:Int):=U
     have HE:Hid (RGst w #[jf a1 rs.length c1,jf a2 f.nodes.length c2,jf a3 f.calls.length c3] (jf ra rs.length rc) rs.length (zb5 (zam rs)) (jf na f.nodes.length nc) (zan (nmR rs) (nmC f) f.nodes) qs wr):=qaa (by
      have:=HG.out;rw[qbz] at this;exact this)
     have HU:Hid (undO (nmR rs) f=none):=qaa (by
      refine zoc ?_;have h3:=zn8 (l:=nmR rs) (zcv f) HOK.out.ok;rw[HF.out,qb8,zcv] at h3;exact h3)
     have g0:=HE.out.2.2.1.cell (o:=0) (u:=jf ra rs.length rc) rfl;have g1:=HE.out.2.2.1.cell (o:=1) (u:=jf na f.nodes.length nc) rfl;have gl:=HE.out.2.2.1.lt;have r0:=HE.out.2.1.cell (o:=0) (u:=jf none 0 0) rfl;have r1:=HE.out.2.1.cell (o:=1) (u:=jf none 0 0) rfl;have r2:=HE.out.2.1.cell (o:=2) (u:=jh ⟨#[]⟩) rfl;have r3:=HE.out.2.1.cell (o:=3) (u:=je jd 0) rfl;have r4:=HE.out.2.1.cell (o:=4) (u:=je jd 0) rfl;have rf:=HE.out.2.1.free;have rl:=HE.out.2.1.lt;have HL:Hid ((zam rs).length=rs.length):=qaa (List.length_map _);have HB5:=qaa (zhn HE.out.bel (qbh _) (jf ra rs.length rc) (jf na f.nodes.length nc) (jh ⟨#[]⟩) (je jd 0) (je jd 0));have HFN:Hid (RulesIn _ _ (zam rs)/\NodesAt _ _ (zan (nmR rs) (nmC f) f.nodes)):=qaa (RGst.fin (by rw[HL.out];exact HE.out) (by rw[HL.out];unfold maxLen;omega) (by rw[zc1];unfold maxLen;omega) (fun q hq=>by
      obtain⟨p,hp,rfl⟩:=List.mem_map.1 hq;rw[zk8];have:=HOK.out.kl p hp;unfold maxLen;omega) (fun b _ hb=>zx3 wr hb (jf ra rs.length rc) (jf na f.nodes.length nc) (jh ⟨#[]⟩) (je jd 0) (je jd 0)) HB5.out)
     clear hG HG HB hbs;go_wp2;refine bodyPost_ret (v:=.agg #[jf ra rs.length rc,jf na f.nodes.length nc,jh ⟨#[]⟩,je jd 0,je jd 0]) (by simp[results,Tryz.results78,go_sem,r0,r1,r2,r3,r4]) rfl ?_;exact ROfIs.ok HDN.out HU.out HFN.out.1 HFN.out.2 HB5.out
end
