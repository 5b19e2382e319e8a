/- The program's Canonical, given what its Grammar answers. The fixed examples of the printer hold. What the laws of the printer ask of the fixed examples and of S -/
import Derived.Test.YtmopdlbpkiaoeaaGreatDoorPqPP
import Derived.Test.YtmopdlbpkiaoeaaGreatDoorPqPX
import Derived.Test.YtmopdlbpkiaoeaaGreatDoorPqGC
set_option maxRecDepth 100000
set_option maxHeartbeats 8000000
open Go.Value renaming slice->jf, string->jh, tuple->jk
namespace Go.Proofs.YtmopdlbpkiaoeaaGreatDoor
open Go.Lib renaming hid->qaa
open Go.Proofs.Tryz renaming prog->qab
open List renaming mem_append->qau, mem_singleton->qam
open Nat renaming le_refl->qac
variable {ns:List PN}{rs:List PR}
section
open Go.RowKit
theorem GramOk.flat {w w':World}{e:Ending}(h:GramOk rs ns w e w')(hk:chkL rs ns=.ok):∃ra rc na nc,e=.returned (jk #[.agg #[jf ra rs.length rc,jf na ns.length nc],.nilIface])/\RulesIn w' (jf ra rs.length rc) rs/\NodesAt w' (jf na ns.length nc) ns/\Below w.heap.size w w':=by
 obtain⟨rv,nv,qs,rfl,hr,hn,hb⟩:=h;obtain⟨h1,h2,-,-,-,h6,-⟩:=z3k hk;have hx:=zuh h6;obtain⟨ra,rc,rfl⟩:=zag hr;obtain⟨na,nc,rfl⟩:=zag hn.2.1;refine⟨ra,rc,na,nc,rfl,RulesIn.of_own hr (by unfold maxLen;omega),hn.nodes (by unfold maxLen;omega) (fun n hm=>?_),hb⟩;obtain⟨i,hi⟩:=List.getElem?_of_mem hm;have hil:=(List.getElem?_eq_some_iff.1 hi).1;have h0:=zj5 ns i (hx i U U);have hkd:=(kc_of hx hi).few h0.1;unfold maxLen;omega
theorem yad8 (s:ByteArray)(w:World){c:Int}(hG:Calls qab 15 #[jh s] w (GErrC c w)) :
  Calls qab 21 #[jh s] w fun e w'=>∃er:Err,e=.returned (jk #[jh ⟨#[]⟩,er.val])/\er.In w'/\er.codeOf=some c/\Below w.heap.size w w':=by
 have HG:=qaa hG;clear hG;go_enter Tryz.func21,Tryz.ntmps21
 go_wp2_with (go_at_call 15;(with_reducible refine HG.out.mono ?_);rintro e w1 ⟨er,⟨he,hE,hb⟩,hco⟩;obtain⟨ty,iv,hv⟩:=er.val_ne;rw[hv] at he;subst he;have hn:=zaa w1 (.cells #[jf none 0 0,jf none 0 0] 25);have HB:=qaa (hb.trans (hn.mono hb.size));have HE:=qaa (hE.kept hn (qac _));have HCO:=qaa hco;have HV:=qaa hv;clear hb hn hE hco hv)
 refine bodyPost_ret (v:=jk #[jh ⟨#[]⟩,.iface ty iv]) (by simp[results,Tryz.results21,go_sem]) rfl ?_;exact⟨er,by rw[HV.out],HE.out,HCO.out,HB.out⟩
theorem yabt (s:ByteArray)(w:World)(hS:SgnAt w)(hk:chkL rs ns=.ok)(hw:∀n,n ∈ ns->z87 n)(hl:(z88 rs ns).length<=1000000)(hG:Calls qab 15 #[jh s] w (GramOk rs ns w)) :
  Calls qab 21 #[jh s] w fun e w'=>e=.returned (jk #[jh (strOf (z88 rs ns)),.nilIface])/\Below w.heap.size w w':=by
 have HG:=qaa (hG.mono fun e w' h=>h.flat hk);have HP:=qaa fun ra na rc nc W hW hN hR=>z90 rs ns ra na rc nc W (hS.kept (n:=w.heap.size) hW (qac _)) hk hw hl hN hR
 clear hG hk hw hl hS;go_enter Tryz.func21,Tryz.ntmps21
 go_wp2_with (first
  |(go_at_call 15;(with_reducible refine HG.out.mono ?_);rintro e w1 ⟨ra,rc,na,nc,rfl,hR,hN,hb⟩;have hn:=zaa w1 (.cells #[jf ra rs.length rc,jf na ns.length nc] 25);have HB:=qaa (hb.trans (hn.mono hb.size));have HN1:=qaa (hN.kept hn (qac _));have HR1:=qaa (hR.kept hn (qac _));clear hb hn hR hN)
  |(go_at_call 10;(with_reducible refine(HP.out _ _ _ _ _ HB.out HN1.out HR1.out).mono ?_);rintro e w3 ⟨rfl,hb⟩;have HB3:=qaa (HB.out.trans (hb.mono HB.out.size));clear hb))
 refine bodyPost_ret (v:=jk #[jh (strOf (z88 rs ns)),.nilIface]) (by simp[results,Tryz.results21,go_sem]) rfl ?_;exact⟨rfl,HB3.out⟩
end
section
open Go.RowKit
def s10:ByteArray:=⟨#[65,32,60,45,32,40,39,97,39,32,39,98,39,41,42,32,47,32,33,40,66,32,47,32,39,39,41,63,10,66,32,60,45,32,91,97,45,99,120,93,10]⟩
theorem yak7:bts s10=x10S:=rfl
theorem yaet:strOf (z88 x10R x10N)=s10:=by rw[yach];rfl
theorem yaeu:(z88 x10R x10N).length<=1000000:=by rw[yach];decide
theorem yahw (W:World)(hl:SignsAt W):Calls qab 15 #[jh s10] W (GramOk x10R x10N W):=by
 obtain⟨rs',f,h1,h2,h3,h4,h5⟩:=yaji;have h:=zxz s10 W hl ja (by rw[yak7];exact h1) h2 h3 (by rw[h4,h5];exact z91);rw[h4,h5] at h;exact h
theorem yaf9 (W:World)(hl:SignsAt W)(hS:SgnAt W):Calls qab 21 #[jh ⟨#[65,32,60,45,32,40,39,97,39,32,39,98,39,41,42,32,47,32,33,40,66,32,47,32,39,39,41,63,10,66,32,60,45,32,91,97,45,99,120,93,10]⟩] W fun e w'=>e=.returned (jk #[jh ⟨#[65,32,60,45,32,40,39,97,39,32,39,98,39,41,42,32,47,32,33,40,66,32,47,32,39,39,41,63,10,66,32,60,45,32,91,97,45,99,120,93,10]⟩,.nilIface])/\Below W.heap.size W w':=by
 have h:=yabt s10 W hS z91 z9u yaeu (yahw W hl);rw[yaet] at h;exact h
theorem yaga (W:World)(hl:SignsAt W)(hS:SgnAt W):Calls qab 21 #[jh ⟨#[65,60,45,40,40,39,97,98,39,41,41,42,47,33,40,40,66,47,32,41,41,63,66,60,45,91,120,99,98,97,93]⟩] W fun e w'=>e=.returned (jk #[jh ⟨#[65,32,60,45,32,40,39,97,39,32,39,98,39,41,42,32,47,32,33,40,66,32,47,32,39,39,41,63,10,66,32,60,45,32,91,97,45,99,120,93,10]⟩,.nilIface])/\Below W.heap.size W w':=by
 have hG:=zxz (strOf x10T) W hl ja (by rw[zf7 x10T ja];exact yahu) yajj yajk (by rw[yac0,yac1];exact z91);rw[yac0,yac1] at hG;have h:=yabt (strOf x10T) W hS z91 z9u yaeu hG;rw[yaet] at h;exact h
theorem yajl (W:World)(hl:SignsAt W):Calls qab 21 #[jh ⟨#[65,32,60,45,45,32,66]⟩] W fun e w'=>∃ty iv,e=.returned (jk #[jh ⟨#[]⟩,.iface ty iv])/\Below W.heap.size W w':=by
 obtain⟨a,dp,hO⟩:=yahv;have hG:=z5j (strOf x10B) W hl ja (by rw[zf7 x10B ja];exact hO);refine(yad8 (c:=erC dp) (strOf x10B) W (hG.mono fun e w' h=>⟨_,h,rfl⟩)).mono fun e w' h=>?_
 obtain⟨er,he,-,-,hb⟩:=h;obtain⟨ty,iv,hv⟩:=er.val_ne;rw[hv] at he;exact⟨ty,iv,he,hb⟩
theorem yahx (W:World)(hl:SignsAt W):Calls qab 15 #[jh ⟨#[65,32,60,45,32,40,39,97,39,32,39,98,39,41,42,32,47,32,33,40,66,32,47,32,39,39,41,63,10,66,32,60,45,32,91,97,45,99,120,93,10]⟩] W fun e w'=>∃ra rc na nc,e=.returned (jk #[.agg #[jf ra 2 rc,jf na 11 nc],.nilIface])/\RulesIn w' (jf ra 2 rc) x10R/\NodesAt w' (jf na 11 nc) x10N/\Below W.heap.size W w':=
 (yahw W hl).mono fun _ _ h=>h.flat z91
theorem yagb (ra na:Option Addr)(rc nc:Nat)(W:World)(hS:SgnAt W)(hR:RulesIn W (jf ra 2 rc) x10R)(hN:NodesAt W (jf na 11 nc) x10N):Calls qab 10 #[.agg #[jf ra 2 rc,jf na 11 nc]] W fun e w'=>e=.returned (jh ⟨#[65,32,60,45,32,40,39,97,39,32,39,98,39,41,42,32,47,32,33,40,66,32,47,32,39,39,41,63,10,66,32,60,45,32,91,97,45,99,120,93,10]⟩)/\Below W.heap.size W w':=by
 have h:=z90 x10R x10N ra na rc nc W hS z91 z9u yaeu hN hR;rw[yaet] at h;exact h
theorem yahy (ra na:Option Addr)(rc nc:Nat)(W:World)(hS:SgnAt W)(hR:RulesIn W (jf ra 2 rc) x10R)(hN:NodesAt W (jf na 11 nc) x10N):Calls qab 12 #[.agg #[jf ra 2 rc,jf na 11 nc],.int .i64 2] W fun e w'=>e=.returned (jh ⟨#[39,97,39,32,39,98,39]⟩)/\Below W.heap.size W w':=by
 have h:=yabd x10R x10N ra na rc nc 2 W hS z91 z9u ja (by show(tx x10N (nmOf x10R) cxN 0 2).length<=_;rw[yafp];decide) hN hR;rw[show tx x10N (nmOf x10R) cxN 0 ((2:Nat):Int)=[39,97,39,32,39,98,39] from yafp] at h;exact h
theorem yahz (ra na:Option Addr)(rc nc:Nat)(W:World)(hS:SgnAt W)(hR:RulesIn W (jf ra 2 rc) x10R)(hN:NodesAt W (jf na 11 nc) x10N):Calls qab 14 #[.agg #[jf ra 2 rc,jf na 11 nc],.int .i64 1] W fun e w'=>e=.returned (jh ⟨#[66,32,60,45,32,91,97,45,99,120,93]⟩)/\Below W.heap.size W w':=by
 have h:=yacy x10R x10N ra na rc nc 1 ⟨⟨#[66]⟩,10⟩ W hS z91 z9u rfl (by show(tx x10N (nmOf x10R) cxN 0 10).length<=_;rw[yafq];decide) ja hN hR;rw[show tx x10N (nmOf x10R) cxN 0 (PR.mk ⟨#[66]⟩ 10).root=[91,97,45,99,120,93] from yafq] at h;exact h
theorem yagc (W:World):Calls qab 17 #[.agg #[.int .u64 0,.int .u64 0,.int .u64 0,.int .u64 0]] W fun e w'=>e=.returned (jh ⟨#[91,93]⟩)/\Below W.heap.size W w':=by
 have h:=yaau (fun _=>false) W;rw[yajh] at h;have e:∀k,k<4->setW (fun _=>false) k=0:=by decide +kernel
 rw[e 0 ja,e 1 ja,e 2 ja,e 3 ja] at h;exact h
theorem yaci (w:World)(hl:SignsAt w)(hS:SgnAt w):Calls qab 8 #[] w fun e w'=>e=.returned (.bool true)/\Below w.heap.size w w':=by
 have HL:=qaa fun(W:World) (hb:Below w.heap.size w W)=>hl.kept hb (qac _)
 have HS:=qaa fun(W:World) (hb:Below w.heap.size w W)=>hS.kept hb (qac _)
 have HB0:=qaa (Below.refl w.heap.size w);clear hl hS;go_enter Tryz.func8,Tryz.ntmps8
 go_upto_region 6 with(first
  |(go_at_call 21;(with_reducible refine(yaf9 _ (HL.out _ HB0.out) (HS.out _ HB0.out)).mono ?_);rintro e w1 ⟨rfl,hb⟩;have HB1:=qaa (HB0.out.trans (hb.mono HB0.out.size));clear hb)
  |(go_at_call 21;(with_reducible refine(yaga _ (HL.out _ HB1.out) (HS.out _ HB1.out)).mono ?_);rintro e w2 ⟨rfl,hb⟩;have HB2:=qaa (HB1.out.trans (hb.mono HB1.out.size));clear hb)
  |(go_at_call 21;(with_reducible refine(yajl _ (HL.out _ HB2.out)).mono ?_);rintro e w3 ⟨ty,iv,rfl,hb⟩;have HB3:=qaa (HB2.out.trans (hb.mono HB2.out.size));clear hb)
  |(go_at_call 15;(with_reducible refine(yahx _ (HL.out _ HB3.out)).mono ?_);rintro e w4 ⟨ra,rc,na,nc,rfl,hR,hN,hb⟩;have hn:=zaa w4 (.cells #[jf ra 2 rc,jf na 11 nc] 25);have hbn:=hb.trans (hn.mono hb.size);have HR:=qaa (hR.kept hn (qac _));have HN:=qaa (hN.kept hn (qac _));have HB4:=qaa (HB3.out.trans (hbn.mono HB3.out.size));have HG:=qaa (Bl.new w4 25 #[jf ra 2 rc,jf na 11 nc]);clear hb hn hbn hR hN))
 obtain⟨W4,hW4⟩:∃W4,w4.alloc (.cells #[jf ra 2 rc,jf na 11 nc] 25)=W4:=⟨_,rfl⟩;obtain⟨G,hG⟩:∃G,w4.heap.size=G:=⟨_,rfl⟩;rw[hW4] at HR HN HB4 HG;rw[hG] at HG;rw[hW4,hG];clear hW4 hG;have g0:=HG.out.cell (o:=0) (u:=jf ra 2 rc) rfl;have g1:=HG.out.cell (o:=1) (u:=jf na 11 nc) rfl;have gl:=HG.out.lt
 go_wp2_with (first
  |(go_at_call 10;(with_reducible refine(yagb _ _ _ _ _ (HS.out _ HB4.out) HR.out HN.out).mono ?_);rintro e w5 ⟨rfl,hb⟩;have HG5:=qaa (HG.out.below hb);have HR5:=qaa (HR.out.kept hb (qac _));have HN5:=qaa (HN.out.kept hb (qac _));have HB5:=qaa (HB4.out.trans (hb.mono HB4.out.size));clear hb g0 g1 gl;have g0:=HG5.out.cell (o:=0) (u:=jf ra 2 rc) rfl;have g1:=HG5.out.cell (o:=1) (u:=jf na 11 nc) rfl;have gl:=HG5.out.lt)
  |(go_at_call 12;(with_reducible refine(yahy _ _ _ _ _ (HS.out _ HB5.out) HR5.out HN5.out).mono ?_);rintro e w6 ⟨rfl,hb⟩;have HG6:=qaa (HG5.out.below hb);have HR6:=qaa (HR5.out.kept hb (qac _));have HN6:=qaa (HN5.out.kept hb (qac _));have HB6:=qaa (HB5.out.trans (hb.mono HB5.out.size));clear hb g0 g1 gl;have g0:=HG6.out.cell (o:=0) (u:=jf ra 2 rc) rfl;have g1:=HG6.out.cell (o:=1) (u:=jf na 11 nc) rfl;have gl:=HG6.out.lt)
  |(go_at_call 14;(with_reducible refine(yahz _ _ _ _ _ (HS.out _ HB6.out) HR6.out HN6.out).mono ?_);rintro e w7 ⟨rfl,hb⟩;have HB7:=qaa (HB6.out.trans (hb.mono HB6.out.size));clear hb g0 g1 gl)
  |(go_at_call 17;(with_reducible refine(yagc _).mono ?_);rintro e w8 ⟨rfl,hb⟩;have HB8:=qaa (HB7.out.trans (hb.mono HB7.out.size));clear hb))
 go_ret;exact⟨rfl,HB8.out⟩
end
section
open Go.RowKit
def Awk10 (w:World):Prop:=∀W,Below w.heap.size w W->Calls qab 8 #[] W fun e w'=>e=.returned (.bool true)/\Below W.heap.size W w'
end
open Go.RowKit
end Go.Proofs.YtmopdlbpkiaoeaaGreatDoor
namespace Go.Proofs.YtmopdlbpkiaoeaaGreatDoor
open Go.Lib renaming hid->qaa
open Go.Proofs.Tryz renaming prog->qab
open List renaming mem_append->qau, mem_singleton->qam
open Nat renaming le_refl->qac
variable {ns:List PN}{rs:List PR}
section
open Go.RowKit
theorem awk10 {w:World}(hl:SignsAt w)(hS:SgnAt w):Awk10 w:=fun W hb=>yaci W (hl.kept hb (qac _)) (hS.kept hb (qac _))
theorem yah1 {b:Bool}{l:List Nat}(h:∀x,x ∈ l->x<256):∀x,x ∈ parX b l->x<256:=fun x hx=>by
 cases b
 ·exact h x hx
 ·have hx:x ∈ 40::(l++[41]):=hx
  rcases List.mem_cons.1 hx with rfl|hx
  ·decide
  ·rcases qau.1 hx with hx|hx
   ·exact h x hx
   ·rw[qam.1 hx];decide
theorem yade {sep:List Nat}(hs:∀x,x ∈ sep->x<256):∀ {ls:List (List Nat)},(∀l,l ∈ ls->∀x,x ∈ l->x<256)->∀x,x ∈ joinT sep ls->x<256
 | [],_,x,hx=>by cases hx
 | [l],h,x,hx=>h l List.mem_cons_self x hx
 |l::m::r,h,x,hx=>by
  rw[z9g] at hx;rcases qau.1 hx with hx|hx
  ·exact h l List.mem_cons_self x hx
  ·rcases qau.1 hx with hx|hx
   ·exact hs x hx
   ·exact yade hs (fun k hk=>h k (List.mem_cons_of_mem _ hk)) x hx
theorem tx_lt {rs:List PR}{ns:List PN}(hk:zdo ns):∀(m i pl:Nat),i<m->i<ns.length->∀x,x ∈ tx ns (nmOf rs) cxN pl (i:Int)->x<256
 |0,_,_,h,_=>absurd h (Nat.not_lt_zero _)
 |m+1,i,pl,him,hi=>by
  obtain⟨n,hn⟩:∃n,ns[i]?=some n:=⟨_,List.getElem?_eq_getElem hi⟩;have ih:∀(q:Nat) (k:Int),k ∈ n.kids->∀x,x ∈ tx ns (nmOf rs) cxN q k->x<256:=fun q k hkm=>by
   have hb:=hk i n hn k hkm;have h:=tx_lt (rs:=rs) hk m k.toNat q U U;rwa [Int.toNat_of_nonneg hb.1] at h
  rw[tx_eq hk hn];refine yah1 fun x hx=>?_
  unfold inX at hx;split at hx
  ·revert x;decide
  split at hx
  ·exact yace _ x hx
  split at hx
  ·unfold nmOf at hx
   split at hx
   ·exact zt5 _ x hx
   ·cases hx
  split at hx
  ·refine yade ja (fun l hl=>?_) x hx
   obtain⟨k,hkm,rfl⟩:=List.mem_map.1 hl;exact ih 1 k hkm
  split at hx
  ·refine yade ja (fun l hl=>?_) x hx
   obtain⟨k,hkm,rfl⟩:=List.mem_map.1 hl;exact yah1 (ih 0 k hkm)
  split at hx
  ·rcases List.mem_cons.1 hx with rfl|hx
   ·unfold preX;split<;>decide
   ·obtain⟨k,hkm,hx⟩:=List.mem_flatMap.1 hx
    exact ih 2 k hkm x hx
  ·rcases qau.1 hx with hx|hx
   ·obtain⟨k,hkm,hx⟩:=List.mem_flatMap.1 hx
    exact ih 3 k hkm x hx
   ·rw[qam.1 hx]
    unfold sufX;split
    ·decide
    ·split<;>decide
theorem yah2 (hk:chkL rs ns=.ok):bts (strOf (z88 rs ns))=z88 rs ns:=by
 obtain⟨-,-,-,-,-,h6,-⟩:=z3k hk;refine zf7 _ fun x hx=>?_
 unfold z88 fileX at hx;obtain⟨r,hr,hx⟩:=List.mem_flatMap.1 hx;obtain⟨j,hj,hjl⟩:=z9t hk hr;rcases qau.1 hx with hx|hx
 ·exact zt5 _ x hx
 ·rcases qau.1 hx with hx|hx
  ·exact(show ∀x:Nat,x ∈ [32,60,45,32]->x<256 by decide) x hx
  ·rcases qau.1 hx with hx|hx
   ·rw[hj] at hx
    exact tx_lt (zuh h6).kids (j+1) j 0 (Nat.lt_succ_self _) hjl x hx
   ·rw[qam.1 hx];decide
theorem yaj5 (hk:chkL rs ns=.ok)(hw:∀n,n ∈ ns->z87 n)(hl:(z88 rs ns).length<=1000000)(W:World)(hs:SignsAt W):Calls qab 15 #[jh (strOf (z88 rs ns))] W (GramOk rs ns W):=by
 obtain⟨rs',f,h1,h2,h3,h4,h5⟩:=yab7 hk hw;have hb:=yah2 hk;have h:=zxz (strOf (z88 rs ns)) W hs (by rw[zb0];omega) (by rw[hb];exact h1) h2 h3 (by rw[h4,h5];exact hk);rw[h4,h5] at h;exact h
end
