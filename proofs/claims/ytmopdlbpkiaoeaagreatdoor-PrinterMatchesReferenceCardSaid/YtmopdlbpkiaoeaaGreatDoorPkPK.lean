/- The fixed examples of the printer hold. What the laws of the printer ask of the fixed examples and of Small. The reference's Small. The laws of the printer: wha -/
import Derived.Test.YtmopdlbpkiaoeaaGreatDoorPkD
import Derived.Test.YtmopdlbpkiaoeaaGreatDoorPkGA
import Derived.Test.YtmopdlbpkiaoeaaGreatDoorPkPrnK
import Derived.Test.YtmopdlbpkiaoeaaGreatDoorPkPX
import Derived.Test.YtmopdlbpkiaoeaaGreatDoorPkGC
set_option maxRecDepth 100000
set_option maxHeartbeats 8000000
namespace Go.Proofs.YtmopdlbpkiaoeaaGreatDoor
section
open Go.RowKit
def s10:ByteArray:=⟨#[65,32,60,45,32,40,39,97,39,32,39,98,39,41,42,32,47,32,33,40,66,32,47,32,39,39,41,63,10,66,32,60,45,32,91,97,45,99,120,93,10]⟩
theorem yak7:bts s10=x10S:=rfl
theorem yaet:strOf (z88 x10R x10N)=s10:=by rw[yach];rfl
theorem yaeu:(z88 x10R x10N).length<=1000000:=by rw[yach];decide
theorem yahw (W:World)(hl:SignsAt W):Calls Tryz.prog 15 #[.string s10] W (GramOk x10R x10N W):=by
 obtain⟨rs',f,h1,h2,h3,h4,h5⟩:=yaji;have h:=zxz s10 W hl (by decide) (by rw[yak7];exact h1) h2 h3 (by rw[h4,h5];exact z91);rw[h4,h5] at h;exact h
theorem yaf9 (W:World)(hl:SignsAt W)(hS:SgnAt W):Calls Tryz.prog 21 #[.string ⟨#[65,32,60,45,32,40,39,97,39,32,39,98,39,41,42,32,47,32,33,40,66,32,47,32,39,39,41,63,10,66,32,60,45,32,91,97,45,99,120,93,10]⟩] W fun e w'=>e=.returned (.tuple #[.string ⟨#[65,32,60,45,32,40,39,97,39,32,39,98,39,41,42,32,47,32,33,40,66,32,47,32,39,39,41,63,10,66,32,60,45,32,91,97,45,99,120,93,10]⟩,.nilIface])/\Below W.heap.size W w':=by
 have h:=yabt s10 W hS z91 z9u yaeu (yahw W hl);rw[yaet] at h;exact h
theorem yaga (W:World)(hl:SignsAt W)(hS:SgnAt W):Calls Tryz.prog 21 #[.string ⟨#[65,60,45,40,40,39,97,98,39,41,41,42,47,33,40,40,66,47,32,41,41,63,66,60,45,91,120,99,98,97,93]⟩] W fun e w'=>e=.returned (.tuple #[.string ⟨#[65,32,60,45,32,40,39,97,39,32,39,98,39,41,42,32,47,32,33,40,66,32,47,32,39,39,41,63,10,66,32,60,45,32,91,97,45,99,120,93,10]⟩,.nilIface])/\Below W.heap.size W w':=by
 have hG:=zxz (strOf x10T) W hl (by decide) (by rw[zf7 x10T (by decide)];exact yahu) yajj yajk (by rw[yac0,yac1];exact z91);rw[yac0,yac1] at hG;have h:=yabt (strOf x10T) W hS z91 z9u yaeu hG;rw[yaet] at h;exact h
theorem yajl (W:World)(hl:SignsAt W):Calls Tryz.prog 21 #[.string ⟨#[65,32,60,45,45,32,66]⟩] W fun e w'=>∃ty iv,e=.returned (.tuple #[.string ⟨#[]⟩,.iface ty iv])/\Below W.heap.size W w':=by
 obtain⟨a,dp,hO⟩:=yahv;have hG:=z5j (strOf x10B) W hl (by decide) (by rw[zf7 x10B (by decide)];exact hO);refine(yad8 (c:=erC dp) (strOf x10B) W (hG.mono fun e w' h=>⟨_,h,rfl⟩)).mono fun e w' h=>?_
 obtain⟨er,he,-,-,hb⟩:=h;obtain⟨ty,iv,hv⟩:=er.val_ne;rw[hv] at he;exact⟨ty,iv,he,hb⟩
theorem yahx (W:World)(hl:SignsAt W):Calls Tryz.prog 15 #[.string ⟨#[65,32,60,45,32,40,39,97,39,32,39,98,39,41,42,32,47,32,33,40,66,32,47,32,39,39,41,63,10,66,32,60,45,32,91,97,45,99,120,93,10]⟩] W fun e w'=>∃ra rc na nc,e=.returned (.tuple #[.agg #[.slice ra 2 rc,.slice na 11 nc],.nilIface])/\RulesIn w' (.slice ra 2 rc) x10R/\NodesAt w' (.slice na 11 nc) x10N/\Below W.heap.size W w':=
 (yahw W hl).mono fun _ _ h=>h.flat z91
theorem yagb (ra na:Option Addr)(rc nc:Nat)(W:World)(hS:SgnAt W)(hR:RulesIn W (.slice ra 2 rc) x10R)(hN:NodesAt W (.slice na 11 nc) x10N):Calls Tryz.prog 10 #[.agg #[.slice ra 2 rc,.slice na 11 nc]] W fun e w'=>e=.returned (.string ⟨#[65,32,60,45,32,40,39,97,39,32,39,98,39,41,42,32,47,32,33,40,66,32,47,32,39,39,41,63,10,66,32,60,45,32,91,97,45,99,120,93,10]⟩)/\Below W.heap.size W w':=by
 have h:=z90 x10R x10N ra na rc nc W hS z91 z9u yaeu hN hR;rw[yaet] at h;exact h
theorem yahy (ra na:Option Addr)(rc nc:Nat)(W:World)(hS:SgnAt W)(hR:RulesIn W (.slice ra 2 rc) x10R)(hN:NodesAt W (.slice na 11 nc) x10N):Calls Tryz.prog 12 #[.agg #[.slice ra 2 rc,.slice na 11 nc],.int .i64 2] W fun e w'=>e=.returned (.string ⟨#[39,97,39,32,39,98,39]⟩)/\Below W.heap.size W w':=by
 have h:=yabd x10R x10N ra na rc nc 2 W hS z91 z9u (by decide) (by show(tx x10N (nmOf x10R) cxN 0 2).length<=_;rw[yafp];decide) hN hR;rw[show tx x10N (nmOf x10R) cxN 0 ((2:Nat):Int)=[39,97,39,32,39,98,39] from yafp] at h;exact h
theorem yahz (ra na:Option Addr)(rc nc:Nat)(W:World)(hS:SgnAt W)(hR:RulesIn W (.slice ra 2 rc) x10R)(hN:NodesAt W (.slice na 11 nc) x10N):Calls Tryz.prog 14 #[.agg #[.slice ra 2 rc,.slice na 11 nc],.int .i64 1] W fun e w'=>e=.returned (.string ⟨#[66,32,60,45,32,91,97,45,99,120,93]⟩)/\Below W.heap.size W w':=by
 have h:=yacy x10R x10N ra na rc nc 1 ⟨⟨#[66]⟩,10⟩ W hS z91 z9u rfl (by show(tx x10N (nmOf x10R) cxN 0 10).length<=_;rw[yafq];decide) (by decide) hN hR;rw[show tx x10N (nmOf x10R) cxN 0 (PR.mk ⟨#[66]⟩ 10).root=[91,97,45,99,120,93] from yafq] at h;exact h
theorem yagc (W:World):Calls Tryz.prog 17 #[.agg #[.int .u64 0,.int .u64 0,.int .u64 0,.int .u64 0]] W fun e w'=>e=.returned (.string ⟨#[91,93]⟩)/\Below W.heap.size W w':=by
 have h:=yaau (fun _=>false) W;rw[yajh] at h;have e:∀k,k<4->setW (fun _=>false) k=0:=by decide +kernel
 rw[e 0 (by decide),e 1 (by decide),e 2 (by decide),e 3 (by decide)] at h;exact h
theorem yaci (w:World)(hl:SignsAt w)(hS:SgnAt w):Calls Tryz.prog 8 #[] w fun e w'=>e=.returned (.bool true)/\Below w.heap.size w w':=by
 have HL:=Lib.hid fun(W:World) (hb:Below w.heap.size w W)=>hl.kept hb (Nat.le_refl _)
 have HS:=Lib.hid fun(W:World) (hb:Below w.heap.size w W)=>hS.kept hb (Nat.le_refl _)
 have HB0:=Lib.hid (Below.refl w.heap.size w);clear hl hS;go_enter Tryz.func8,Tryz.ntmps8
 go_upto_region 6 with(first
  |(go_at_call 21;(with_reducible refine(yaf9 _ (HL.out _ HB0.out) (HS.out _ HB0.out)).mono ?_);rintro e w1 ⟨rfl,hb⟩;have HB1:=Lib.hid (HB0.out.trans (hb.mono HB0.out.size));clear hb)
  |(go_at_call 21;(with_reducible refine(yaga _ (HL.out _ HB1.out) (HS.out _ HB1.out)).mono ?_);rintro e w2 ⟨rfl,hb⟩;have HB2:=Lib.hid (HB1.out.trans (hb.mono HB1.out.size));clear hb)
  |(go_at_call 21;(with_reducible refine(yajl _ (HL.out _ HB2.out)).mono ?_);rintro e w3 ⟨ty,iv,rfl,hb⟩;have HB3:=Lib.hid (HB2.out.trans (hb.mono HB2.out.size));clear hb)
  |(go_at_call 15;(with_reducible refine(yahx _ (HL.out _ HB3.out)).mono ?_);rintro e w4 ⟨ra,rc,na,nc,rfl,hR,hN,hb⟩;have hn:=zaa w4 (.cells #[.slice ra 2 rc,.slice na 11 nc] 25);have hbn:=hb.trans (hn.mono hb.size);have HR:=Lib.hid (hR.kept hn (Nat.le_refl _));have HN:=Lib.hid (hN.kept hn (Nat.le_refl _));have HB4:=Lib.hid (HB3.out.trans (hbn.mono HB3.out.size));have HG:=Lib.hid (Bl.new w4 25 #[.slice ra 2 rc,.slice na 11 nc]);clear hb hn hbn hR hN))
 obtain⟨W4,hW4⟩:∃W4,w4.alloc (.cells #[.slice ra 2 rc,.slice na 11 nc] 25)=W4:=⟨_,rfl⟩;obtain⟨G,hG⟩:∃G,w4.heap.size=G:=⟨_,rfl⟩;rw[hW4] at HR HN HB4 HG;rw[hG] at HG;rw[hW4,hG];clear hW4 hG;have g0:=HG.out.cell (o:=0) (u:=.slice ra 2 rc) rfl;have g1:=HG.out.cell (o:=1) (u:=.slice na 11 nc) rfl;have gl:=HG.out.lt
 go_wp2_with (first
  |(go_at_call 10;(with_reducible refine(yagb _ _ _ _ _ (HS.out _ HB4.out) HR.out HN.out).mono ?_);rintro e w5 ⟨rfl,hb⟩;have HG5:=Lib.hid (HG.out.below hb);have HR5:=Lib.hid (HR.out.kept hb (Nat.le_refl _));have HN5:=Lib.hid (HN.out.kept hb (Nat.le_refl _));have HB5:=Lib.hid (HB4.out.trans (hb.mono HB4.out.size));clear hb g0 g1 gl;have g0:=HG5.out.cell (o:=0) (u:=.slice ra 2 rc) rfl;have g1:=HG5.out.cell (o:=1) (u:=.slice na 11 nc) rfl;have gl:=HG5.out.lt)
  |(go_at_call 12;(with_reducible refine(yahy _ _ _ _ _ (HS.out _ HB5.out) HR5.out HN5.out).mono ?_);rintro e w6 ⟨rfl,hb⟩;have HG6:=Lib.hid (HG5.out.below hb);have HR6:=Lib.hid (HR5.out.kept hb (Nat.le_refl _));have HN6:=Lib.hid (HN5.out.kept hb (Nat.le_refl _));have HB6:=Lib.hid (HB5.out.trans (hb.mono HB5.out.size));clear hb g0 g1 gl;have g0:=HG6.out.cell (o:=0) (u:=.slice ra 2 rc) rfl;have g1:=HG6.out.cell (o:=1) (u:=.slice na 11 nc) rfl;have gl:=HG6.out.lt)
  |(go_at_call 14;(with_reducible refine(yahz _ _ _ _ _ (HS.out _ HB6.out) HR6.out HN6.out).mono ?_);rintro e w7 ⟨rfl,hb⟩;have HB7:=Lib.hid (HB6.out.trans (hb.mono HB6.out.size));clear hb g0 g1 gl)
  |(go_at_call 17;(with_reducible refine(yagc _).mono ?_);rintro e w8 ⟨rfl,hb⟩;have HB8:=Lib.hid (HB7.out.trans (hb.mono HB7.out.size));clear hb))
 go_ret;exact⟨rfl,HB8.out⟩
end
section
open Go.RowKit
def Awk10 (w:World):Prop:=∀W,Below w.heap.size w W->Calls Tryz.prog 8 #[] W fun e w'=>e=.returned (.bool true)/\Below W.heap.size W w'
def Sml10 (v:Value)(b:Bool)(w:World):Prop:=∀W,Below w.heap.size w W->Calls Tryz.prog 9 #[v] W fun e w'=>e=.returned (.bool b)/\Below W.heap.size W w'
end
open Go.RowKit
theorem yagd (rv nv:Value)(rs:List PR)(ns:List PN)(w:World)(hR:RulesIn w rv rs)(hN:NodesAt w nv ns) :
  Calls Tryz.prog 9 #[.agg #[rv,nv]] w fun e w'=>e=.returned (.bool (fewB rs ns&&okB (chkL rs ns)))/\Below w.heap.size w w':=by
 have HF:=Lib.hid (fun(o:Obj)=>yakj rv nv rs ns (w.alloc o) (hR.kept (zaa w o) (Nat.le_refl _)) (hN.kept (zaa w o) (Nat.le_refl _)));cases hf:fewB rs ns with
 |false=>
  rw[hf] at HF;obtain⟨-,ra,rc,rfl,-⟩:=hR;obtain⟨-,na,nc,rfl,-⟩:=hN;clear hf;go_enter Tryz.func9,Tryz.ntmps9
  go_wp2_with (go_at_call 25;(with_reducible refine(HF.out _).mono ?_);rintro e w5 ⟨rfl,hb⟩;have HW:=Lib.hid ((zaa w _).trans (hb.mono (zaa w _).size));clear hb)
  go_ret;exact⟨rfl,HW.out⟩
 |true=>
  rw[hf] at HF;have hnm:∀r,r ∈ rs->r.name.size<=2000000:=fun r hr=>by have:=(z9r hf).1 r hr;omega
  have HV:=Lib.hid (fun(W:World) (hb:Below w.heap.size w W)=>zx7 rv nv rs ns W (hR.kept hb (Nat.le_refl _)) (hN.kept hb (Nat.le_refl _)) hnm);obtain⟨-,ra,rc,rfl,-⟩:=hR;obtain⟨-,na,nc,rfl,-⟩:=hN;generalize okB (chkL rs ns)=c at *;clear hf hnm;go_enter Tryz.func9,Tryz.ntmps9
  go_wp2_with (first
   |(go_at_call 25;(with_reducible refine(HF.out _).mono ?_);rintro e w5 ⟨rfl,hb⟩;have HW:=Lib.hid ((zaa w _).trans (hb.mono (zaa w _).size));have hb2:=(zaa w (.cells #[.slice ra rs.length rc,.slice na ns.length nc] 25));have b0:=(bcell hb).1 w.heap.size 0 (by simp);have b1:=(bcell hb).1 w.heap.size 1 (by simp);simp at b0 b1;clear hb hb2)
   |(go_at_call 26;(with_reducible refine(HV.out _ HW.out).mono ?_);rintro e w6 ⟨rfl,hb⟩;replace HW:=Lib.hid (HW.out.trans (hb.mono HW.out.size));clear hb))
  go_ret;exact⟨rfl,HW.out⟩
end Go.Proofs.YtmopdlbpkiaoeaaGreatDoor
namespace Go.Proofs.YtmopdlbpkiaoeaaGreatDoor
section
open Go.RowKit
theorem yah0 {c:Chk}(h:okB c=true):c=.ok:=by cases c<;>first|rfl|cases h
theorem awk10 {w:World}(hl:SignsAt w)(hS:SgnAt w):Awk10 w:=fun W hb=>yaci W (hl.kept hb (Nat.le_refl _)) (hS.kept hb (Nat.le_refl _))
theorem sml10 {w:World}{rv nv:Value}{rs:List PR}{ns:List PN}{b:Bool}(hR:RulesIn w rv rs)(hN:NodesAt w nv ns)(h:(fewB rs ns&&okB (chkL rs ns))=b):Sml10 (.agg #[rv,nv]) b w:=fun W hb=>by
 have h2:=yagd rv nv rs ns W (hR.kept hb (Nat.le_refl _)) (hN.kept hb (Nat.le_refl _));rw[h] at h2;exact h2
theorem yah1 {b:Bool}{l:List Nat}(h:∀x,x ∈ l->x<256):∀x,x ∈ parX b l->x<256:=fun x hx=>by
 cases b
 ·exact h x hx
 ·have hx:x ∈ 40::(l++[41]):=hx
  rcases List.mem_cons.1 hx with rfl|hx
  ·decide
  ·rcases List.mem_append.1 hx with hx|hx
   ·exact h x hx
   ·rw[List.mem_singleton.1 hx];decide
theorem yade {sep:List Nat}(hs:∀x,x ∈ sep->x<256):∀ {ls:List (List Nat)},(∀l,l ∈ ls->∀x,x ∈ l->x<256)->∀x,x ∈ joinT sep ls->x<256
 | [],_,x,hx=>by cases hx
 | [l],h,x,hx=>h l List.mem_cons_self x hx
 |l::m::r,h,x,hx=>by
  rw[z9g] at hx;rcases List.mem_append.1 hx with hx|hx
  ·exact h l List.mem_cons_self x hx
  ·rcases List.mem_append.1 hx with hx|hx
   ·exact hs x hx
   ·exact yade hs (fun k hk=>h k (List.mem_cons_of_mem _ hk)) x hx
theorem tx_lt {rs:List PR}{ns:List PN}(hk:zdo ns):∀(m i pl:Nat),i<m->i<ns.length->∀x,x ∈ tx ns (nmOf rs) cxN pl (i:Int)->x<256
 |0,_,_,h,_=>absurd h (Nat.not_lt_zero _)
 |m+1,i,pl,him,hi=>by
  obtain⟨n,hn⟩:∃n,ns[i]?=some n:=⟨_,List.getElem?_eq_getElem hi⟩;have ih:∀(q:Nat) (k:Int),k ∈ n.kids->∀x,x ∈ tx ns (nmOf rs) cxN q k->x<256:=fun q k hkm=>by
   have hb:=hk i n hn k hkm;have h:=tx_lt (rs:=rs) hk m k.toNat q (by omega) (by omega);rwa [Int.toNat_of_nonneg hb.1] at h
  rw[tx_eq hk hn];refine yah1 fun x hx=>?_
  unfold inX at hx;split at hx
  ·revert x;decide
  split at hx
  ·exact yace _ x hx
  split at hx
  ·unfold nmOf at hx
   split at hx
   ·exact zt5 _ x hx
   ·cases hx
  split at hx
  ·refine yade (by decide) (fun l hl=>?_) x hx
   obtain⟨k,hkm,rfl⟩:=List.mem_map.1 hl;exact ih 1 k hkm
  split at hx
  ·refine yade (by decide) (fun l hl=>?_) x hx
   obtain⟨k,hkm,rfl⟩:=List.mem_map.1 hl;exact yah1 (ih 0 k hkm)
  split at hx
  ·rcases List.mem_cons.1 hx with rfl|hx
   ·unfold preX;split<;>decide
   ·obtain⟨k,hkm,hx⟩:=List.mem_flatMap.1 hx
    exact ih 2 k hkm x hx
  ·rcases List.mem_append.1 hx with hx|hx
   ·obtain⟨k,hkm,hx⟩:=List.mem_flatMap.1 hx
    exact ih 3 k hkm x hx
   ·rw[List.mem_singleton.1 hx]
    unfold sufX;split
    ·decide
    ·split<;>decide
theorem yajm {rs:List PR}{ns:List PN}(hk:chkL rs ns=.ok){i:Nat}(hi:i<ns.length):bts (strOf (tx ns (nmOf rs) cxN 0 (i:Int)))=tx ns (nmOf rs) cxN 0 (i:Int):=by
 obtain⟨-,-,-,-,-,h6,-⟩:=z3k hk;exact zf7 _ (tx_lt (zuh h6).kids (i+1) i 0 (Nat.lt_succ_self _) hi)
theorem yah2 {rs:List PR}{ns:List PN}(hk:chkL rs ns=.ok):bts (strOf (z88 rs ns))=z88 rs ns:=by
 obtain⟨-,-,-,-,-,h6,-⟩:=z3k hk;refine zf7 _ fun x hx=>?_
 unfold z88 fileX at hx;obtain⟨r,hr,hx⟩:=List.mem_flatMap.1 hx;obtain⟨j,hj,hjl⟩:=z9t hk hr;rcases List.mem_append.1 hx with hx|hx
 ·exact zt5 _ x hx
 ·rcases List.mem_append.1 hx with hx|hx
  ·exact(show ∀x:Nat,x ∈ [32,60,45,32]->x<256 by decide) x hx
  ·rcases List.mem_append.1 hx with hx|hx
   ·rw[hj] at hx
    exact tx_lt (zuh h6).kids (j+1) j 0 (Nat.lt_succ_self _) hjl x hx
   ·rw[List.mem_singleton.1 hx];decide
theorem yaj5 {rs:List PR}{ns:List PN}(hk:chkL rs ns=.ok)(hw:∀n,n ∈ ns->z87 n)(hl:(z88 rs ns).length<=1000000)(W:World)(hs:SignsAt W):Calls Tryz.prog 15 #[.string (strOf (z88 rs ns))] W (GramOk rs ns W):=by
 obtain⟨rs',f,h1,h2,h3,h4,h5⟩:=yab7 hk hw;have hb:=yah2 hk;have h:=zxz (strOf (z88 rs ns)) W hs (by rw[zb0];omega) (by rw[hb];exact h1) h2 h3 (by rw[h4,h5];exact hk);rw[h4,h5] at h;exact h
end
end Go.Proofs.YtmopdlbpkiaoeaaGreatDoor
