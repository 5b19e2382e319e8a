/- The program's name and bare: what stands within the parentheses of a node. Written by wip/gen/prnbare2.py. The program's Node, Rule and Print. -/
import Derived.Test.YtmopdlbpkiaoeaaGreatDoorPqPW
set_option maxRecDepth 100000
set_option maxHeartbeats 16000000
open Go.Value renaming int->je, slice->jf, string->jh, pointer->jj, tuple->jk
namespace Go.Proofs.YtmopdlbpkiaoeaaGreatDoor
open Go.Lib renaming hid->qaa
open Go.Proofs.Tryz renaming prog->qab
open Go.Proofs.YtmopdlbpkiaoeaaGreatDoor.Bl renaming new->qa0
open Go.Proofs.YtmopdlbpkiaoeaaGreatDoor.Kp renaming of_below->qbo
open Int renaming toNat_natCast->qa8
open List renaming append_assoc->qao, flatMap_append->qbp, getElem?_eq_getElem->qae, getElem?_eq_some_iff->qag, length_append->qad, length_cons->qah, length_eq_zero_iff->qbm, length_map->qaw, length_nil->qbq, length_singleton->qai, mem_of_getElem?->qan, nil_append->qbi
open Nat renaming le_refl->qac, le_trans->qal, lt_succ_self->qas
variable {ns:List PN}{rs:List PR}
section
open Go.RowKit
theorem yaho (rs:List PR)(ra:Option Addr)(rc:Nat)(nv:Value)(W:World)(m:Nat)(r:PR)(hr:rs[m]?=some r)(hR:RulesIn W (jf ra rs.length rc) rs)(w:World)(b k:Nat)(l:List Nat)(hb:Below W.heap.size W w)(h:Pw W.heap.size b (jf ra rs.length rc) nv k l w)(hl:l.length+r.name.size<=1000000) :
  Calls qab 86 #[jj (some ⟨b,0,none⟩),je .i64 (m:Int)] w fun e w'=>e=.returned (jk #[])/\Pw W.heap.size b (jf ra rs.length rc) nv k (l++bts r.name) w'/\KW W.heap.size b w w':=by
 obtain⟨rb,ro,rfl,r0,r1⟩:=yacf hR hr;have hml:=(qag.1 hr).1;have hlt:=zai r0;have d0:=((bcell hb).1 rb (ro+m*2) hlt).trans r0;have g0:=h.cell0;have gl:=h.lt;have hW:W.heap.size<=w.heap.size:=hb.size;obtain⟨nm,hnm⟩:∃nm,r.name=nm:=⟨_,rfl⟩;rw[hnm] at d0 hl ⊢;obtain⟨rn,hrn⟩:∃rn,rs.length=rn:=⟨_,rfl⟩;rw[hrn] at g0 h hml ⊢;have k1:(0:Int)<=(m:Int):=U
 have k2:(m:Int)<(rn:Int):=U
 have hl2:l.length+nm.size<=2000000:=U
 have HP:=qaa h;have hWd:W.heap.size<=w.drew.heap.size:=hW;have HL:=qaa hl2;clear r0 r1 hlt hr hR hb h hl hl2 hnm hrn hml hW;go_enter Tryz.func86,Tryz.ntmps86;go_wp2
 go_region_with (go_at_call 40;(with_reducible refine(yaai _ b _ nv _ _ nm _ HP.out.drew HL.out hWd).mono ?_);rintro e w1 ⟨rfl,hp1,hk1⟩;have HP1:=qaa hp1;have HK1:=qaa ((qbo (base:=W.heap.size) (xb:=b) (yb:=b) (t1:=5) (zpw _)).trans hk1);clear hp1 hk1)
 all_goals
  go_wp2
  go_end0
  exact⟨rfl,HP1.out,HK1.out⟩
theorem yami (rs:List PR)(ns:List PN)(ra na:Option Addr)(rc nc:Nat)(W:World)(i:Nat)(n:PN)(hn:ns[i]?=some n)(hx:AllEx ns)(hw:z87 n)(hR:RulesIn W (jf ra rs.length rc) rs)(hm:∀(i:Nat) (n:PN),ns[i]?=some n->∃R,madeB n R=true)(hkl:n.kids.length<=10000)(hrec:∀x,x ∈ n.kids->∀p,NodeC rs ns ra na rc nc W x p)(hS:SgnAt W) :
  (n.op=0->Hid (n.kids=[])->BareC rs ns ra na rc nc W i n) /\
  (n.op=1->Hid (n.kids=[])->BareC rs ns ra na rc nc W i n) /\
  (n.op=2->Hid (n.kids=[])->∀(r:PR) (m:Nat),Hid (n.rule=(m:Int))->Hid (rs[m]?=some r)->BareC rs ns ra na rc nc W i n) /\
  (n.op=3->BareC rs ns ra na rc nc W i n) /\
  (n.op=4->BareC rs ns ra na rc nc W i n) /\
  (n.op=5->BareC rs ns ra na rc nc W i n) /\
  (n.op=6->BareC rs ns ra na rc nc W i n) /\
  (n.op=7->BareC rs ns ra na rc nc W i n) /\
  (n.op=8->BareC rs ns ra na rc nc W i n) /\
  (n.op=9->BareC rs ns ra na rc nc W i n):=by
 have hex:-1<=exL ns i/\exL ns i<i:=by
  have hil:=(qag.1 hn).1;have:=zj5 ns i (hx i U U);exact⟨this.1,this.2.1⟩
 have hprog:=z9s (nm:=nmOf rs) (cx:=cxN) hx.kids hm hn;have hKC:=kc_of hx hn;have h0:n.kids=[]->(i:Int)-1-exL ns i=0:=fun hkd=>by
  have h:=hKC;rw[hkd] at h;have h:exL ns i=(i:Int)-1:=h;omega
 have HJ0:=fun(ka:Option Addr) (kc:Nat) (hI:IntsAt W (jf ka n.kids.length kc) n.kids) (S:ByteArray) (sep:List Nat) (hs:bts S=sep) (p:Int) (b k:Nat) (l:List Nat) (hk:(i:Int)-1-exL ns i<=(k:Int)) (hk2:k<=10000) (w:World) (l':List Nat) (hb:Below W.heap.size W w) h hl=>z9x rs ns ra na rc nc W p n.kids ka kc S sep hs hI hkl (fun x hxm=>hrec x hxm p) (exL ns i) ((i:Int)-1) hex.1 hKC w b k l' hb h hk hk2 hl
 have HSG:=qaa fun(V:World) (hV:Below W.heap.size W V)=>hS.kept hV (qac _)
 have HQ:=qaa (yaby hw);have HRR:=qaa hR;obtain⟨opv,hov⟩:∃v,n.op=v:=⟨_,rfl⟩;obtain⟨kn,hkn⟩:∃kn,n.kids.length=kn:=⟨_,rfl⟩;unfold BareC;rw[hkn] at HJ0 ⊢;rw[hov];clear hkn hn hx hw hR hm hkl hrec hS hex hKC;refine⟨?e0,?e1,?e2,?e3,?e4,?e5,?e6,?e7,?e8,?e9⟩
 case' e9=>
  intro hop ka kc w b k l hI hb h hk hk2 hl;rw[hprog.2.2.1 U,show preX n.op=33 from by rw[hov,hop];rfl] at hl ⊢;have HJ:=qaa fun w=>HJ0 ka kc hI ⟨#[]⟩ [] rfl 3 b k l hk hk2 w (l++[33])
  obtain⟨J,hJ⟩:∃J,joinT [] (n.kids.map (pX ns (nmOf rs) cxN 3))=J:=⟨_,rfl⟩;rw[hJ] at HJ hl ⊢;have hl1:(l++[33]).length+J.length<=1000000:=by rw[qah] at hl;rw[qad,qai];omega
  have hl2:l.length<=2000000:=by rw[qah] at hl;omega
  clear hI hk hk2 hJ hl
 case' e8=>
  intro hop ka kc w b k l hI hb h hk hk2 hl;rw[hprog.2.2.1 U,show preX n.op=38 from by rw[hov,hop];rfl] at hl ⊢;have HJ:=qaa fun w=>HJ0 ka kc hI ⟨#[]⟩ [] rfl 3 b k l hk hk2 w (l++[38])
  obtain⟨J,hJ⟩:∃J,joinT [] (n.kids.map (pX ns (nmOf rs) cxN 3))=J:=⟨_,rfl⟩;rw[hJ] at HJ hl ⊢;have hl1:(l++[38]).length+J.length<=1000000:=by rw[qah] at hl;rw[qad,qai];omega
  have hl2:l.length<=2000000:=by rw[qah] at hl;omega
  clear hI hk hk2 hJ hl
 case' e7=>
  intro hop ka kc w b k l hI hb h hk hk2 hl;rw[hprog.2.2.2 U,show sufX n.op=63 from by rw[hov,hop];rfl] at hl ⊢;have HJ:=qaa fun w=>HJ0 ka kc hI ⟨#[]⟩ [] rfl 4 b k l hk hk2 w l
  obtain⟨J,hJ⟩:∃J,joinT [] (n.kids.map (pX ns (nmOf rs) cxN 4))=J:=⟨_,rfl⟩;rw[hJ] at HJ hl ⊢;have hl1:l.length+J.length<=1000000:=by rw[qad] at hl;omega
  have hl2:(l++J).length<=2000000:=by rw[qad];omega
  clear hI hk hk2 hJ hl
 case' e6=>
  intro hop ka kc w b k l hI hb h hk hk2 hl;rw[hprog.2.2.2 U,show sufX n.op=43 from by rw[hov,hop];rfl] at hl ⊢;have HJ:=qaa fun w=>HJ0 ka kc hI ⟨#[]⟩ [] rfl 4 b k l hk hk2 w l
  obtain⟨J,hJ⟩:∃J,joinT [] (n.kids.map (pX ns (nmOf rs) cxN 4))=J:=⟨_,rfl⟩;rw[hJ] at HJ hl ⊢;have hl1:l.length+J.length<=1000000:=by rw[qad] at hl;omega
  have hl2:(l++J).length<=2000000:=by rw[qad];omega
  clear hI hk hk2 hJ hl
 case' e5=>
  intro hop ka kc w b k l hI hb h hk hk2 hl;rw[hprog.2.2.2 U,show sufX n.op=42 from by rw[hov,hop];rfl] at hl ⊢;have HJ:=qaa fun w=>HJ0 ka kc hI ⟨#[]⟩ [] rfl 4 b k l hk hk2 w l
  obtain⟨J,hJ⟩:∃J,joinT [] (n.kids.map (pX ns (nmOf rs) cxN 4))=J:=⟨_,rfl⟩;rw[hJ] at HJ hl ⊢;have hl1:l.length+J.length<=1000000:=by rw[qad] at hl;omega
  have hl2:(l++J).length<=2000000:=by rw[qad];omega
  clear hI hk hk2 hJ hl
 case' e4=>
  intro hop ka kc w b k l hI hb h hk hk2 hl;rw[hprog.2.1 (hov.trans hop)] at hl ⊢;have HJ:=qaa fun w=>HJ0 ka kc hI ⟨#[32,47,32]⟩ [32,47,32] rfl 1 b k l hk hk2 w l
  clear hI hk hk2
 case' e3=>
  intro hop ka kc w b k l hI hb h hk hk2 hl;rw[hprog.1 (hov.trans hop)] at hl ⊢;have HJ:=qaa fun w=>HJ0 ka kc hI ⟨#[32]⟩ [32] rfl 2 b k l hk hk2 w l
  clear hI hk hk2
 case' e2=>
  intro hop hkd r m hm hr ka kc w b k l hI hb h hk hk2 hl;have hnm:nmOf rs n.rule=bts r.name:=by unfold nmOf;rw[hm.out,qa8,hr.out]
  rw[yaaj.2.2 (hov.trans hop),hnm] at hl ⊢;rw[zaj] at hl;rw[h0 hkd.out];have HNA:=qaa fun w hb h=>yaho rs ra rc (jf na ns.length nc) W m r hr.out HRR.out w b k l hb h hl
  clear hl hk hk2 hI hnm
 case' e1=>
  intro hop hkd ka kc w b k l hI hb h hk hk2 hl;rw[yaaj.2.1 (hov.trans hop)] at hl ⊢;rw[h0 hkd.out];have hbt:bts (strOf (cxN n))=cxN n:=zf7 _ (yace (bitF n));obtain⟨SX,hSX⟩:∃SX,strOf (cxN n)=SX:=⟨_,rfl⟩;have hsl:l.length+SX.size<=2000000:=by rw[<-hSX,zb0];omega
  have HCL:=qaa fun(V:World)=>yaau (bitF n) V
  have e:strOf (clsX (bitF n))=SX:=hSX;rw[e] at HCL;rw[hSX] at hbt;have HBT:=qaa hbt;clear hl hk hk2 hI hbt hSX e
 case' e0=>
  intro hop hkd ka kc w b k l hI hb h hk hk2 hl;rw[yaaj.1 (hov.trans hop)] at hl ⊢;rw[h0 hkd.out];have hl2:l.length+(strOf (litL [])).size<=2000000:=by
   have hl1:l.length+2<=1000000:=hl;show l.length+2<=_;omega
  clear hl hk hk2 hI
 all_goals
  have HOP:=qaa hop;clear hop hov h0 hprog HJ0;have hW:W.heap.size<=w.heap.size:=hb.size;have hn2:=zaa w (.cells #[je .i64 opv,jf ka kn kc,je .i64 n.rule,je .u64 n.s0,je .u64 n.s1,je .u64 n.s2,je .u64 n.s3] 54);have HX:=qaa (qa0 w 54 #[je .i64 opv,jf ka kn kc,je .i64 n.rule,je .u64 n.s0,je .u64 n.s1,je .u64 n.s2,je .u64 n.s3]);have HP1:=qaa (h.grown hn2);have HK1:=qaa (qbo (base:=W.heap.size) (xb:=b) (yb:=b) (t1:=5) hn2);have HB1:=qaa (hb.trans (hn2.mono hW));have hz1:=hn2.size;have hbl:=h.lt;have HBb:=qaa h.le;go_enter Tryz.func54,Tryz.ntmps54
  go_upto_region 1 with fail
  obtain⟨W1,hW1⟩:∃W1,w.alloc (.cells #[je .i64 opv,jf ka kn kc,je .i64 n.rule,je .u64 n.s0,je .u64 n.s1,je .u64 n.s2,je .u64 n.s3] 54)=W1:=⟨_,rfl⟩;rw[hW1] at HX HP1 HK1 HB1 hz1 ⊢;obtain⟨X,hXq⟩:∃X,w.heap.size=X:=⟨_,rfl⟩;rw[hXq] at HX hz1 hbl hW ⊢;have hxb:X≠b:=U
  have hBW:W.heap.size<=W1.heap.size:=U
  clear hW1 hn2 hXq h hb;have hop:=HOP.out;subst hop;have x0:=HX.out.cell (o:=0) rfl;have x1:=HX.out.cell (o:=1) (u:=jf ka kn kc) rfl;have x2:=HX.out.cell (o:=2) (u:=je .i64 n.rule) rfl;have x3:=HX.out.cell (o:=3) (u:=je .u64 n.s0) rfl;have x4:=HX.out.cell (o:=4) (u:=je .u64 n.s1) rfl;have x5:=HX.out.cell (o:=5) (u:=je .u64 n.s2) rfl;have x6:=HX.out.cell (o:=6) (u:=je .u64 n.s3) rfl;have xl:=HX.out.lt
 ·have HLI:=qaa fun(V:World)=>yabg [] (jf none 0 0) V ⟨none,0,rfl,.inl rfl⟩ (fun x hx=>by cases hx) jc
  go_wp2
  go_region_with (first
   |(go_at_call 37;(with_reducible refine(HLI.out _).mono ?_);rintro e w2 ⟨rfl,hb2⟩;have hd:=(zpw W1).trans (hb2.mono (qac _));have HP2:=qaa (HP1.out.grown hd);have HK2:=qaa (HK1.out.trans (qbo (base:=W.heap.size) (xb:=b) (yb:=b) (t1:=5) hd));have hz2:=hd.size;clear hb2 hd)
   |(go_at_call 40;(with_reducible refine(yaai _ b _ _ _ _ (strOf (litL [])) _ HP2.out hl2 (qal hBW hz2)).mono ?_);rintro e w3 ⟨rfl,hp3,hk3⟩;have HP3:=qaa hp3;have HK3:=qaa (HK2.out.trans hk3);clear hp3 hk3))
  all_goals go_wp2;go_end0;exact⟨rfl,HP3.out,HK3.out⟩
 ·obtain⟨q0,q1,q2,q3⟩:=HQ.out
  rw[q0] at x3;rw[q1] at x4;rw[q2] at x5;rw[q3] at x6;clear q0 q1 q2 q3;go_wp2
  go_region_with (first
   |(go_at_call 17;(with_reducible refine(HCL.out _).mono ?_);rintro e w2 ⟨rfl,hb2⟩;have hd:=(zpw W1).trans (hb2.mono (qac _));have HP2:=qaa (HP1.out.grown hd);have HK2:=qaa (HK1.out.trans (qbo (base:=W.heap.size) (xb:=b) (yb:=b) (t1:=5) hd));have hz2:=hd.size;clear hb2 hd)
   |(go_at_call 40;(with_reducible refine(yaai _ b _ _ _ _ SX _ HP2.out hsl (qal hBW hz2)).mono ?_);rintro e w3 ⟨rfl,hp3,hk3⟩;rw[HBT.out] at hp3;have HP3:=qaa hp3;have HK3:=qaa (HK2.out.trans hk3);clear hp3 hk3))
  all_goals go_wp2;go_end0;exact⟨rfl,HP3.out,HK3.out⟩
 ·rw[hm.out] at x2
  go_wp2_with (go_at_call 86;(with_reducible refine(HNA.out _ HB1.out HP1.out).mono ?_);rintro e w2 ⟨rfl,hp2,hk2⟩;have HP2:=qaa hp2;have HK2:=qaa (HK1.out.trans hk2);clear hp2 hk2)
  go_end0
  exact⟨rfl,HP2.out,HK2.out⟩
 ·go_wp2_with (go_at_call 87;(with_reducible refine(HJ.out _ HB1.out HP1.out hl).mono ?_);rintro e w2 ⟨rfl,hp2,hk2⟩;have HP2:=qaa hp2;have HK2:=qaa (HK1.out.trans hk2);clear hp2 hk2)
  go_end0
  exact⟨rfl,HP2.out,HK2.out⟩
 ·go_wp2_with (go_at_call 87;(with_reducible refine(HJ.out _ HB1.out HP1.out hl).mono ?_);rintro e w2 ⟨rfl,hp2,hk2⟩;have HP2:=qaa hp2;have HK2:=qaa (HK1.out.trans hk2);clear hp2 hk2)
  go_end0
  exact⟨rfl,HP2.out,HK2.out⟩
 ·go_upto_region 16 with(go_at_call 87;(with_reducible refine(HJ.out _ HB1.out HP1.out hl1).mono ?_);rintro e w2 ⟨rfl,hp2,hk2⟩;have HX2:=hk2.bl HX.out hxb hxb ja;have HP2:=qaa hp2;have HK2:=qaa (HK1.out.trans hk2);have HB2:=qaa (HB1.out.trans (hk2.below HBb.out HBb.out hBW));have hz2:=hk2.size;clear hp2 hk2)
  clear x0 x1 x2 x3 x4 x5 x6 xl;have hzd:W.heap.size<=w2.drew.heap.size:=qal hBW hz2;have x0:=HX2.cell (o:=0) rfl;have sg:=(HSG.out _ HB2.out).1;have xl:=HX2.lt;clear HX2;go_wp2
  go_region_with (go_at_call 29;(with_reducible refine(z99 _ b _ _ _ _ 42 42 rfl _ HP2.out.drew ja hl2 hzd).mono ?_);rintro e w3 ⟨rfl,hp3,hk3⟩;have HP3:=qaa hp3;have HK3:=qaa (HK2.out.trans ((qbo (base:=W.heap.size) (xb:=b) (yb:=b) (t1:=5) (zpw _)).trans hk3));clear hp3 hk3)
  all_goals go_wp2;go_end0;exact⟨rfl,by rw[<-qao];exact HP3.out,HK3.out⟩
 ·go_upto_region 16 with(go_at_call 87;(with_reducible refine(HJ.out _ HB1.out HP1.out hl1).mono ?_);rintro e w2 ⟨rfl,hp2,hk2⟩;have HX2:=hk2.bl HX.out hxb hxb ja;have HP2:=qaa hp2;have HK2:=qaa (HK1.out.trans hk2);have HB2:=qaa (HB1.out.trans (hk2.below HBb.out HBb.out hBW));have hz2:=hk2.size;clear hp2 hk2)
  clear x0 x1 x2 x3 x4 x5 x6 xl;have hzd:W.heap.size<=w2.drew.heap.size:=qal hBW hz2;have x0:=HX2.cell (o:=0) rfl;have sg:=(HSG.out _ HB2.out).2.1;have xl:=HX2.lt;clear HX2;go_wp2
  go_region_with (go_at_call 29;(with_reducible refine(z99 _ b _ _ _ _ 43 43 rfl _ HP2.out.drew ja hl2 hzd).mono ?_);rintro e w3 ⟨rfl,hp3,hk3⟩;have HP3:=qaa hp3;have HK3:=qaa (HK2.out.trans ((qbo (base:=W.heap.size) (xb:=b) (yb:=b) (t1:=5) (zpw _)).trans hk3));clear hp3 hk3)
  all_goals go_wp2;go_end0;exact⟨rfl,by rw[<-qao];exact HP3.out,HK3.out⟩
 ·go_upto_region 16 with(go_at_call 87;(with_reducible refine(HJ.out _ HB1.out HP1.out hl1).mono ?_);rintro e w2 ⟨rfl,hp2,hk2⟩;have HX2:=hk2.bl HX.out hxb hxb ja;have HP2:=qaa hp2;have HK2:=qaa (HK1.out.trans hk2);have HB2:=qaa (HB1.out.trans (hk2.below HBb.out HBb.out hBW));have hz2:=hk2.size;clear hp2 hk2)
  clear x0 x1 x2 x3 x4 x5 x6 xl;have hzd:W.heap.size<=w2.drew.heap.size:=qal hBW hz2;have x0:=HX2.cell (o:=0) rfl;have sg:=(HSG.out _ HB2.out).2.2.1;have xl:=HX2.lt;clear HX2;go_wp2
  go_region_with (go_at_call 29;(with_reducible refine(z99 _ b _ _ _ _ 63 63 rfl _ HP2.out.drew ja hl2 hzd).mono ?_);rintro e w3 ⟨rfl,hp3,hk3⟩;have HP3:=qaa hp3;have HK3:=qaa (HK2.out.trans ((qbo (base:=W.heap.size) (xb:=b) (yb:=b) (t1:=5) (zpw _)).trans hk3));clear hp3 hk3)
  all_goals go_wp2;go_end0;exact⟨rfl,by rw[<-qao];exact HP3.out,HK3.out⟩
 ·have sg:=(HSG.out _ HB1.out).2.2.2.1
  have hzd:W.heap.size<=W1.drew.heap.size:=hBW;go_wp2
  go_region_with (go_at_call 29;(with_reducible refine(z99 _ b _ _ _ _ 38 38 rfl _ HP1.out.drew ja hl2 hzd).mono ?_);rintro e w2 ⟨rfl,hp2,hk2⟩;replace hk2:=(qbo (base:=W.heap.size) (xb:=b) (yb:=b) (t1:=5) (zpw _)).trans hk2;have HX2:=hk2.bl HX.out hxb hxb ja;have HP2:=qaa hp2;have HK2:=qaa (HK1.out.trans hk2);have HB2:=qaa (HB1.out.trans (hk2.below HBb.out HBb.out hBW));clear hp2 hk2)
  all_goals
   clear x0 x1 x2 x3 x4 x5 x6 xl sg;have x1:=HX2.cell (o:=1) (u:=jf ka kn kc) rfl;have xl:=HX2.lt
   go_wp2_with (go_at_call 87;(with_reducible refine(HJ.out _ HB2.out HP2.out hl1).mono ?_);rintro e w3 ⟨rfl,hp3,hk3⟩;have HP3:=qaa hp3;have HK3:=qaa (HK2.out.trans hk3);clear hp3 hk3)
   go_end0
   refine⟨rfl,?_,HK3.out⟩;have e:l++38::J=l++[38]++J:=jc
   rw[e];exact HP3.out
 ·have sg:=(HSG.out _ HB1.out).2.2.2.2
  have hzd:W.heap.size<=W1.drew.heap.size:=hBW;go_wp2
  go_region_with (go_at_call 29;(with_reducible refine(z99 _ b _ _ _ _ 33 33 rfl _ HP1.out.drew ja hl2 hzd).mono ?_);rintro e w2 ⟨rfl,hp2,hk2⟩;replace hk2:=(qbo (base:=W.heap.size) (xb:=b) (yb:=b) (t1:=5) (zpw _)).trans hk2;have HX2:=hk2.bl HX.out hxb hxb ja;have HP2:=qaa hp2;have HK2:=qaa (HK1.out.trans hk2);have HB2:=qaa (HB1.out.trans (hk2.below HBb.out HBb.out hBW));clear hp2 hk2)
  all_goals
   clear x0 x1 x2 x3 x4 x5 x6 xl sg;have x1:=HX2.cell (o:=1) (u:=jf ka kn kc) rfl;have xl:=HX2.lt
   go_wp2_with (go_at_call 87;(with_reducible refine(HJ.out _ HB2.out HP2.out hl1).mono ?_);rintro e w3 ⟨rfl,hp3,hk3⟩;have HP3:=qaa hp3;have HK3:=qaa (HK2.out.trans hk3);clear hp3 hk3)
   go_end0
   refine⟨rfl,?_,HK3.out⟩;have e:l++33::J=l++[33]++J:=jc
   rw[e];exact HP3.out
end
section
open Go.RowKit
theorem KC.few {ns:List PN}:∀ {ks:List Int} {a b:Int},-1<=a->KC ns a ks b->(ks.length:Int)<=b-a
 | [],a,b,_,h=>by obtain rfl:a=b:=h;simp
 |k::ks,a,b,ha,⟨h1,h2,h3,h4⟩=>by
  have:=zj5 ns k U;have:=KC.few U h4;rw[qah];omega
theorem yabs (rs:List PR)(ns:List PN)(ra na:Option Addr)(rc nc:Nat)(W:World)(hk:chkL rs ns=.ok)(hw:∀n,n ∈ ns->z87 n)(hN:NodesAt W (jf na ns.length nc) ns)(hR:RulesIn W (jf ra rs.length rc) rs)(hS:SgnAt W) :
  ∀(m i:Nat) (p:Int),i<m->i<ns.length->NodeC rs ns ra na rc nc W (i:Int) p
 |0,i,_,h,_=>U
 |m+1,i,p,him,hi=>by
  obtain⟨n,hn⟩:∃n,ns[i]?=some n:=⟨_,qae hi⟩;obtain⟨hr1,hn1,-,-,h5,h6,-⟩:=z3k hk;have hx:=zuh h6;have hkb:=hx.kids;have hmade:∀(i:Nat) (n:PN),ns[i]?=some n->∃R,madeB n R=true:=fun i n hn=>by
   have hi:=(qag.1 hn).1;have:=h5 i hi;unfold zbv at this;rw[hn] at this;exact⟨rs.length,by simpa using this⟩
  have hmn:madeB n rs.length=true:=by
   have:=h5 i hi;unfold zbv at this;rw[hn] at this;simpa using this
  have hrec:∀x,x ∈ n.kids->∀p,NodeC rs ns ra na rc nc W x p:=fun x hxm p=>by
   have:=hkb i n hn x hxm;have h:=yabs rs ns ra na rc nc W hk hw hN hR hS m x.toNat p U U;rwa [Int.toNat_of_nonneg this.1] at h
  have hkl:n.kids.length<=10000:=by
   have h0:=zj5 ns i (hx i U U);have hkd:=(kc_of hx hn).few h0.1;omega
  refine yad2 rs ns ra na rc nc W i p n hn (yaen hmn) hx hN ?_;obtain⟨A0,A1,A2,A3,A4,A5,A6,A7,A8,A9⟩:=yami rs ns ra na rc nc W i n hn hx (hw n (qan hn)) hR hmade hkl hrec hS;rcases z9h hmn with⟨h0,e⟩|⟨h1,hks,-⟩|⟨h2,hks,h0,hr,-⟩|⟨h34,-,-⟩|⟨h59,-⟩
  ·exact A0 h0 (qaa (by rw[e];rfl))
  ·exact A1 h1 (qaa hks)
  ·obtain⟨r,hr2⟩:∃r,rs[n.rule.toNat]?=some r:=⟨_,qae U⟩
   exact A2 h2 (qaa hks) r n.rule.toNat (qaa U) (qaa hr2)
  ·exact h34.elim A3 A4
  ·rcases(by omega:n.op=5∨n.op=6∨n.op=7∨n.op=8∨n.op=9) with h|h|h|h|h
   ·exact A5 h
   ·exact A6 h
   ·exact A7 h
   ·exact A8 h
   ·exact A9 h
theorem z9z (rv nv:Value)(ra na:Option Addr)(rn rc nn nc:Nat)(hrv:rv=jf ra rn rc)(hnv:nv=jf na nn nc)(w:World) :
  Calls qab 27 #[.agg #[rv,nv]] w fun e w'=>∃b,e=.returned (jj (some ⟨b,0,none⟩))/\Pw w.heap.size b rv nv 10000 [] w'/\Below w.heap.size w w':=by
 subst hrv hnv;go_enter Tryz.func27,Tryz.ntmps27;go_wp2;go_ret;have hb:Bl ((w.alloc (.cells #[jf ra rn rc,jf na nn nc] 25)).alloc (.cells #[jf ra rn rc,jf na nn nc,jj none,jf none 0 0,je .i64 10000] 75)) (w.heap.size+1) 75 #[jf ra rn rc,jf na nn nc,jj none,jf none 0 0,je .i64 ((10000:Nat):Int)]:=by
  have:=qa0 (w.alloc (.cells #[jf ra rn rc,jf na nn nc] 25)) 75 #[jf ra rn rc,jf na nn nc,jj none,jf none 0 0,je .i64 10000];rw[World.size_alloc] at this;exact this
 exact⟨w.heap.size+1,rfl,⟨fun x hx=>(List.not_mem_nil hx).elim,.inl ⟨U,jf none 0 0,hb,World.ownsRow_nil _ _ _ _⟩⟩,(zaa _ _).trans ((zaa _ _).mono jc)⟩
theorem yajg (b:Bool)(l:List Nat):l.length<=(parX b l).length:=by
 cases b
 ·exact qac _
 ·show l.length<=([40]++l++[41]).length
  rw[qad,qad];omega
theorem yaal (hk:chkL rs ns=.ok){i:Nat}(hi:i<ns.length):pX ns (nmOf rs) cxN 0 (i:Int)=tx ns (nmOf rs) cxN 0 (i:Int)/\tx ns (nmOf rs) cxN 0 (i:Int)≠[] /\ -1<=exL ns i/\exL ns i<i:=by
 obtain⟨-,-,-,h4,h5,h6,-⟩:=z3k hk;have hx:=zuh h6;obtain⟨n,hn⟩:∃n,ns[i]?=some n:=⟨_,qae hi⟩;have hmn:madeB n rs.length=true:=by
  have:=h5 i hi;unfold zbv at this;rw[hn] at this;simpa using this
 have hp:=(pX_tx (nm:=nmOf rs) (cx:=cxN) hx.kids (i:=(i:Int)) U (by rw[qa8];exact hn) (yaen hmn)).1;have hex:=zj5 ns i (hx i U U);refine⟨hp,?_,hex.1,hex.2.1⟩;intro e;have hl:=congrArg List.length e;rw[tx_eq hx.kids hn] at hl;have hge:=yajg (parB n.op 0) (inX ns (nmOf rs) cxN n (tx ns (nmOf rs) cxN));rw[hl,qbq] at hge;have h0:=qbm.1 (Nat.le_zero.1 hge);have hprog:=z9s (nm:=nmOf rs) (cx:=cxN) hx.kids (fun i n hn=>by
  have hi:=(qag.1 hn).1;have:=h5 i hi;unfold zbv at this;rw[hn] at this;exact⟨rs.length,by simpa using this⟩) hn
 have two:∀(sep:List Nat) (l:List (List Nat)),2<=l.length->sep≠[]->joinT sep l≠[]:=fun sep l h2 hs h=>by
  match l,h2 with
  |x::y::r,_=>
   rw[z9g] at h;have:=congrArg List.length h;rw[qad,qad,qbq] at this;exact hs (qbm.1 U)
 rcases z9h hmn with⟨h,-⟩|⟨h,-,-⟩|⟨h,hks,hr0,hr,-⟩|⟨h34,hk2,-⟩|⟨h59,-⟩
 ·rw[yaaj.1 h] at h0;cases h0
 ·rw[yaaj.2.1 h] at h0
  unfold cxN clsX at h0;split at h0
  ·cases h0
  ·split at h0<;>cases h0
 ·rw[yaaj.2.2 h] at h0
  have:=h4 n.rule.toNat U;obtain⟨r,hr2⟩:∃r,rs[n.rule.toNat]?=some r:=⟨_,qae U⟩;unfold nmOf at h0;rw[hr2] at h0;unfold zbp at this;rw[hr2] at this;have hnm:nameB (bts r.name)=true:=by
   simp at this;exact this.2
  rw[show bts r.name=[] from h0] at hnm;cases hnm
 ·rcases h34 with h|h
  ·rw[hprog.1 h] at h0
   exact two _ _ (by rw[qaw];exact hk2) ja h0
  ·rw[hprog.2.1 h] at h0
   exact two _ _ (by rw[qaw];exact hk2) ja h0
 ·by_cases h8:n.op=8∨n.op=9
  ·rw[hprog.2.2.1 h8] at h0;cases h0
  ·rw[hprog.2.2.2 U] at h0
   have:=congrArg List.length h0;rw[qad,qai] at this;cases this
theorem yabd (rs:List PR)(ns:List PN)(ra na:Option Addr)(rc nc i:Nat)(W:World)(hS:SgnAt W)(hk:chkL rs ns=.ok)(hw:∀n,n ∈ ns->z87 n)(hi:i<ns.length)(hl:(tx ns (nmOf rs) cxN 0 (i:Int)).length<=1000000)(hN:NodesAt W (jf na ns.length nc) ns)(hR:RulesIn W (jf ra rs.length rc) rs) :
  Calls qab 12 #[.agg #[jf ra rs.length rc,jf na ns.length nc],je .i64 (i:Int)] W fun e w'=>e=.returned (jh (strOf (tx ns (nmOf rs) cxN 0 (i:Int))))/\Below W.heap.size W w':=by
 obtain⟨hp0,hne,he1,he2⟩:=yaal hk hi;have hb0:=zaa W (.cells #[jf ra rs.length rc,jf na ns.length nc] 25);have hC:=yabs rs ns ra na rc nc _ hk hw (hN.kept hb0 (qac _)) (hR.kept hb0 (qac _)) (hS.kept hb0 (qac _)) (i+1) i 0 (qas _) hi;unfold NodeC at hC;rw[hp0] at hC;have hn1:ns.length<=10000:=(z3k hk).2.1;have hek:(i:Int)-exL ns i<=((10000:Nat):Int):=U
 have hll:([]:List Nat).length+(tx ns (nmOf rs) cxN 0 (i:Int)).length<=1000000:=by simpa using hl
 have HNW:=qaa fun V=>z9z _ _ ra na rs.length rc ns.length nc rfl rfl V
 have HB0:=qaa hb0;have HC:=qaa hC;have HF:=qaa (And.intro hek hll);obtain⟨T,hT⟩:∃T,tx ns (nmOf rs) cxN 0 (i:Int)=T:=⟨_,rfl⟩;rw[hT] at HC hne hl HF ⊢;have HT:=qaa (And.intro hne (show T.length<=2000000 by omega));clear hC hb0 hS hk hw hi hl hN hR hp0 hne he1 he2 hn1 hek hll hT;obtain⟨rn,hrn⟩:∃rn,rs.length=rn:=⟨_,rfl⟩;obtain⟨nn,hnn⟩:∃nn,ns.length=nn:=⟨_,rfl⟩;rw[hrn,hnn] at HNW HC HB0 ⊢;clear hrn hnn;go_enter Tryz.func12,Tryz.ntmps12
 go_upto_region 1 with fail
 obtain⟨W0,hW0⟩:∃W0,W.alloc (.cells #[jf ra rn rc,jf na nn nc] 25)=W0:=⟨_,rfl⟩;rw[hW0] at HC HB0 ⊢;have g0:W0.cell? ⟨W.heap.size,0,none⟩=some (jf ra rn rc):=by rw[<-hW0];exact(qa0 W 25 #[jf ra rn rc,jf na nn nc]).cell rfl
 have g1:W0.cell? ⟨W.heap.size,1,none⟩=some (jf na nn nc):=by rw[<-hW0];exact(qa0 W 25 #[jf ra rn rc,jf na nn nc]).cell rfl
 have gl:W.heap.size<W0.heap.size:=by rw[<-hW0];exact(qa0 W 25 #[jf ra rn rc,jf na nn nc]).lt
 clear hW0
 go_wp2_with (first
  |(go_at_call 27;(with_reducible refine(HNW.out _).mono ?_);rintro e w1 ⟨b,rfl,hp1,hb1⟩;have HP1:=qaa hp1;have HB1:=qaa hb1;clear hp1 hb1)
  |(go_at_call 31;(with_reducible refine(HC.out _ _ _ _ HB1.out HP1.out HF.out.1 (qac _) HF.out.2).mono ?_);rintro e w2 ⟨rfl,hp2,hk2⟩;rw[qbi] at hp2;have HP2:=qaa hp2;have HB2:=qaa (HB1.out.trans (hk2.below HP1.out.le HP1.out.le HB1.out.size));clear hp2 hk2)
  |(go_at_call 30;(with_reducible refine(yaat _ _ _ _ _ T _ HP2.out HT.out.1 HT.out.2).mono ?_);rintro e w3 ⟨rfl,hb3⟩;have HB3:=qaa (HB2.out.trans hb3);clear hb3))
 go_ret;exact⟨rfl,HB0.out.trans (HB3.out.mono HB0.out.size)⟩
theorem yad7 (rs:List PR)(ns:List PN)(ra na:Option Addr)(rc nc:Nat)(W:World)(m:Nat)(r:PR)(hr:rs[m]?=some r)(q:Nat)(hq:r.root=(q:Int))(hR:RulesIn W (jf ra rs.length rc) rs)(T:List Nat)(hC:∀(w:World) (b k:Nat) (l:List Nat),Below W.heap.size W w->Pw W.heap.size b (jf ra rs.length rc) (jf na ns.length nc) k l w->(q:Int)-exL ns q<=(k:Int)->k<=10000->l.length+T.length<=1000000 ->
   Calls qab 31 #[jj (some ⟨b,0,none⟩),je .i64 (q:Int),je .i64 0] w fun e w'=>e=.returned (jk #[])/\Pw W.heap.size b (jf ra rs.length rc) (jf na ns.length nc) (k-((q:Int)-exL ns q).toNat) (l++T) w'/\KW W.heap.size b w w')
  (w:World) (b k:Nat) (l:List Nat) (hb:Below W.heap.size W w) (h:Pw W.heap.size b (jf ra rs.length rc) (jf na ns.length nc) k l w) (hk:(q:Int)-exL ns q<=(k:Int)) (hk2:k<=10000) (hl:(l++(bts r.name++([32,60,45,32]++T))).length<=1000000) :
  Calls qab 28 #[jj (some ⟨b,0,none⟩),je .i64 (m:Int)] w fun e w'=>e=.returned (jk #[])/\Pw W.heap.size b (jf ra rs.length rc) (jf na ns.length nc) (k-((q:Int)-exL ns q).toNat) (l++(bts r.name++([32,60,45,32]++T))) w'/\KW W.heap.size b w w':=by
 obtain⟨rb,ro,rfl,r0,r1⟩:=yacf hR hr;have hml:=(qag.1 hr).1;rw[hq] at r1;have hlt0:=zai r0;have hlt1:=zai r1;have d0:=((bcell hb).1 rb (ro+m*2) hlt0).trans r0;have HD1:=qaa fun(V:World) (hV:Below W.heap.size W V)=>((bcell hV).1 rb (ro+m*2+1) hlt1).trans r1
 have g0:=h.cell0;have gl:=h.lt;have hW:W.heap.size<=w.heap.size:=hb.size;rw[qad,qad,qad,show([32,60,45,32]:List Nat).length=4 from rfl] at hl;obtain⟨nm,hnm⟩:∃nm,r.name=nm:=⟨_,rfl⟩;rw[hnm] at d0 hl ⊢;have hnl:(bts nm).length=nm.size:=zaj nm;obtain⟨rn,hrn⟩:∃rn,rs.length=rn:=⟨_,rfl⟩;rw[hrn] at g0 h hml hC ⊢;have k1:¬(m:Int)<(0:Int):=U
 have k3:(0:Int)<=(m:Int):=U
 have k2:¬(rn:Int)<=(m:Int):=U
 have k4:(m:Int)<(rn:Int):=U
 have hl2:l.length+nm.size<=2000000:=U
 have hWd:W.heap.size<=w.drew.heap.size:=hW;have hl3:(l++bts nm).length+(⟨#[32,60,45,32]⟩:ByteArray).size<=2000000:=by rw[qad];show _+4<=_;omega
 have hl4:(l++bts nm++[32,60,45,32]).length+T.length<=1000000:=by rw[qad,qad,show([32,60,45,32]:List Nat).length=4 from rfl];omega
 have hbt:bts ⟨#[32,60,45,32]⟩=[32,60,45,32]:=rfl;have HP:=qaa h;have HL:=qaa (And.intro hl2 (And.intro hl3 hl4));have HBT:=qaa hbt;have HB:=qaa hb;have HC:=qaa hC;have HK:=qaa (And.intro hk hk2);have HBb:=qaa h.le;clear r0 r1 hlt0 hlt1 hr hR hb h hl hl2 hl3 hl4 hbt hnm hnl hrn hml hC hk hk2 hq;go_enter Tryz.func28,Tryz.ntmps28;go_wp2
 go_region_with (go_at_call 40;(with_reducible refine(yaai _ b _ _ _ _ nm _ HP.out.drew HL.out.1 hWd).mono ?_);rintro e w1 ⟨rfl,hp1,hk1⟩;replace hk1:=(qbo (base:=W.heap.size) (xb:=b) (yb:=b) (t1:=5) (zpw _)).trans hk1;have HP1:=qaa hp1;have HK1:=qaa hk1;have HB1:=qaa (HB.out.trans (hk1.below HBb.out HBb.out hW));have hz1:=HB1.out.size;clear hp1 hk1)
 all_goals
  clear g0 gl d0
  go_upto_region 3 with(go_at_call 40;(with_reducible refine(yaai _ b _ _ _ _ ⟨#[32,60,45,32]⟩ _ HP1.out HL.out.2.1 hz1).mono ?_);rintro e w2 ⟨rfl,hp2,hk2⟩;rw[HBT.out] at hp2;have HP2:=qaa hp2;have HK2:=qaa (HK1.out.trans hk2);have HB2:=qaa (HB1.out.trans (hk2.below HBb.out HBb.out hz1));clear hp2 hk2)
  have g0:=HP2.out.cell0;have gl:=HP2.out.lt;have d1:=HD1.out _ HB2.out
  go_wp2_with (go_at_call 31;(with_reducible refine(HC.out _ _ _ _ HB2.out HP2.out HK.out.1 HK.out.2 HL.out.2.2).mono ?_);rintro e w3 ⟨rfl,hp3,hk3⟩;have HP3:=qaa hp3;have HK3:=qaa (HK2.out.trans hk3);clear hp3 hk3)
  go_end0
  refine⟨rfl,?_,HK3.out⟩;have hp:=HP3.out;have e:l++bts nm++[32,60,45,32]++T=l++(bts nm++32::60::45::32::T):=jc
  rw[e] at hp;exact hp
theorem z9t (hk:chkL rs ns=.ok){r:PR}(hr:r ∈ rs):∃j:Nat,r.root=(j:Int)/\j<ns.length:=by
 obtain⟨-,-,-,-,-,h6,-⟩:=z3k hk;have key:∀(l:List PR) (b:Int),ordR ns l b=true->∀r,r ∈ l->b<r.root/\r.root<ns.length:=by
  intro l
  induction l with
  |nil=>intro b _ r hr;cases hr
  |cons x t ih=>
   intro b h r hr;obtain⟨h1,h2,h3,h4⟩:=zuf h;rcases List.mem_cons.1 hr with rfl|hr
   ·exact⟨h1,h2⟩
   ·have:=ih _ h4 r hr
    exact⟨U,this.2⟩
 have:=key rs (-1) h6 r hr;exact⟨r.root.toNat,U,U⟩
theorem yacy (rs:List PR)(ns:List PN)(ra na:Option Addr)(rc nc m:Nat)(r:PR)(W:World)(hS:SgnAt W)(hk:chkL rs ns=.ok)(hw:∀n,n ∈ ns->z87 n)(hr:rs[m]?=some r)(hl:(tx ns (nmOf rs) cxN 0 r.root).length<=900000)(hnl:r.name.size<=1000)(hN:NodesAt W (jf na ns.length nc) ns)(hR:RulesIn W (jf ra rs.length rc) rs) :
  Calls qab 14 #[.agg #[jf ra rs.length rc,jf na ns.length nc],je .i64 (m:Int)] W fun e w'=>e=.returned (jh (strOf (bts r.name++([32,60,45,32]++tx ns (nmOf rs) cxN 0 r.root))))/\Below W.heap.size W w':=by
 obtain⟨q,hq,hqi⟩:=z9t hk (qan hr);rw[hq] at hl ⊢;obtain⟨hp0,-,he1,he2⟩:=yaal hk hqi;have hb0:=zaa W (.cells #[jf ra rs.length rc,jf na ns.length nc] 25);have hC:=yabs rs ns ra na rc nc _ hk hw (hN.kept hb0 (qac _)) (hR.kept hb0 (qac _)) (hS.kept hb0 (qac _)) (q+1) q 0 (qas _) hqi;unfold NodeC at hC;rw[hp0] at hC;have hn1:ns.length<=10000:=(z3k hk).2.1;have hek:(q:Int)-exL ns q<=((10000:Nat):Int):=U
 have hnb:(bts r.name).length<=1000:=by rw[zaj];exact hnl
 have hll:([]++(bts r.name++([32,60,45,32]++tx ns (nmOf rs) cxN 0 (q:Int)))).length<=1000000:=by
  rw[qbi,qad,qad,show([32,60,45,32]:List Nat).length=4 from rfl];omega
 have HWR:=qaa (yad7 rs ns ra na rc nc _ m r hr q hq (hR.kept hb0 (qac _)) _ hC);have HNW:=qaa fun V=>z9z _ _ ra na rs.length rc ns.length nc rfl rfl V
 have HB0:=qaa hb0;have HF:=qaa (And.intro hek hll);obtain⟨T,hT⟩:∃T,bts r.name++([32,60,45,32]++tx ns (nmOf rs) cxN 0 (q:Int))=T:=⟨_,rfl⟩;have hne:T≠[]:=by
  rw[<-hT];intro e;have:=congrArg List.length e;rw[qad,qad,show([32,60,45,32]:List Nat).length=4 from rfl,qbq] at this;omega
 rw[hT] at HWR HF ⊢;have HT:=qaa (And.intro hne (show T.length<=2000000 by have:=HF.out.2;rw[qbi] at this;omega));clear hC hb0 hS hk hw hr hl hN hR hp0 hne he1 he2 hn1 hek hll hT hnl hnb hq hqi;obtain⟨rn,hrn⟩:∃rn,rs.length=rn:=⟨_,rfl⟩;obtain⟨nn,hnn⟩:∃nn,ns.length=nn:=⟨_,rfl⟩;rw[hrn,hnn] at HNW HWR HB0 ⊢;clear hrn hnn;go_enter Tryz.func14,Tryz.ntmps14
 go_upto_region 1 with fail
 obtain⟨W0,hW0⟩:∃W0,W.alloc (.cells #[jf ra rn rc,jf na nn nc] 25)=W0:=⟨_,rfl⟩;rw[hW0] at HWR HB0 ⊢;have g0:W0.cell? ⟨W.heap.size,0,none⟩=some (jf ra rn rc):=by rw[<-hW0];exact(qa0 W 25 #[jf ra rn rc,jf na nn nc]).cell rfl
 have g1:W0.cell? ⟨W.heap.size,1,none⟩=some (jf na nn nc):=by rw[<-hW0];exact(qa0 W 25 #[jf ra rn rc,jf na nn nc]).cell rfl
 have gl:W.heap.size<W0.heap.size:=by rw[<-hW0];exact(qa0 W 25 #[jf ra rn rc,jf na nn nc]).lt
 clear hW0
 go_wp2_with (first
  |(go_at_call 27;(with_reducible refine(HNW.out _).mono ?_);rintro e w1 ⟨b,rfl,hp1,hb1⟩;have HP1:=qaa hp1;have HB1:=qaa hb1;clear hp1 hb1)
  |(go_at_call 28;(with_reducible refine(HWR.out _ _ _ _ HB1.out HP1.out HF.out.1 (qac _) HF.out.2).mono ?_);rintro e w2 ⟨rfl,hp2,hk2⟩;rw[qbi] at hp2;have HP2:=qaa hp2;have HB2:=qaa (HB1.out.trans (hk2.below HP1.out.le HP1.out.le HB1.out.size));clear hp2 hk2)
  |(go_at_call 30;(with_reducible refine(yaat _ _ _ _ _ T _ HP2.out HT.out.1 HT.out.2).mono ?_);rintro e w3 ⟨rfl,hb3⟩;have HB3:=qaa (HB2.out.trans hb3);clear hb3))
 go_ret;exact⟨rfl,HB0.out.trans (HB3.out.mono HB0.out.size)⟩
theorem yacz {nm:Int->List Nat}{cx:PN->List Nat}{k:Nat}{r:PR}(h:rs[k]?=some r):fileX ns nm cx (rs.take (k+1))=fileX ns nm cx (rs.take k)++(bts r.name++([32,60,45,32]++tx ns nm cx 0 r.root))++[10]:=by
 rw[za3 rs k r h];unfold fileX;rw[qbp,List.flatMap_cons,List.flatMap_nil,List.append_nil];simp
theorem yaf8 {nm:Int->List Nat}{cx:PN->List Nat}(rs:List PR)(k:Nat):(fileX ns nm cx (rs.take k)).length<=(fileX ns nm cx rs).length:=by
 conv=>rhs;rw[<-List.take_append_drop k rs]
 unfold fileX;rw[qbp,qad];omega
theorem z90 (rs:List PR)(ns:List PN)(ra na:Option Addr)(rc nc:Nat)(W:World)(hS:SgnAt W)(hk:chkL rs ns=.ok)(hw:∀n,n ∈ ns->z87 n)(hl:(z88 rs ns).length<=1000000)(hN:NodesAt W (jf na ns.length nc) ns)(hR:RulesIn W (jf ra rs.length rc) rs) :
  Calls qab 10 #[.agg #[jf ra rs.length rc,jf na ns.length nc]] W fun e w'=>e=.returned (jh (strOf (z88 rs ns)))/\Below W.heap.size W w':=by
 have hb0:=zaa W (.cells #[jf ra rs.length rc,jf na ns.length nc] 25);have HWR:=qaa fun(m:Nat) (r:PR) (hr:rs[m]?=some r) (q:Nat) (hq:r.root=(q:Int))=>yad7 rs ns ra na rc nc _ m r hr q hq (hR.kept hb0 (qac _)) (tx ns (nmOf rs) cxN 0 r.root) (by
  obtain⟨q',hq',hqi⟩:=z9t hk (qan hr);obtain rfl:q=q':=U
  have hC:=yabs rs ns ra na rc nc _ hk hw (hN.kept hb0 (qac _)) (hR.kept hb0 (qac _)) (hS.kept hb0 (qac _)) (q+1) q 0 (qas _) hqi;unfold NodeC at hC;rw[(yaal hk hqi).1] at hC;rw[hq];exact hC)
 have HNW:=qaa fun V=>z9z _ _ ra na rs.length rc ns.length nc rfl rfl V
 have HB0:=qaa hb0;have HRT:=qaa fun(r:PR) (hr:r ∈ rs)=>z9t hk hr
 have hord:=(z3k hk).2.2.2.2.2.1;have hn1:ns.length<=10000:=(z3k hk).2.1;have hr1:rs.length<=1000:=(z3k hk).1;have hr0:0<rs.length:=(z3k hk).2.2.1;have hx:=zuh hord;have HEX:=qaa hx;have HORD:=qaa hord;have hne:z88 rs ns≠[]:=by
  obtain⟨r,hr⟩:∃r,rs[rs.length-1]?=some r:=⟨_,qae U⟩;have h:=yacz (ns:=ns) (nm:=nmOf rs) (cx:=cxN) hr;rw[show rs.length-1+1=rs.length by omega,List.take_length] at h;intro e;unfold z88 at e;rw[e] at h;have:=congrArg List.length h;rw[qad,qbq,qai] at this;omega
 have HT:=qaa (And.intro hne (show(z88 rs ns).length<=2000000 by omega));unfold z88 at HT hl ⊢;obtain⟨F,hF⟩:∃F:List PR->List Nat,(fun l=>fileX ns (nmOf rs) cxN l)=F:=⟨_,rfl⟩;have hFa:∀l,fileX ns (nmOf rs) cxN l=F l:=fun l=>by rw[<-hF]
 have HNX:=qaa fun(k:Nat) (r:PR) (h:rs[k]?=some r)=>yacz (ns:=ns) (nm:=nmOf rs) (cx:=cxN) h
 have HTK:=qaa fun(k:Nat)=>yaf8 (ns:=ns) (nm:=nmOf rs) (cx:=cxN) rs k
 have hF0:F []=[]:=by rw[<-hFa];rfl
 simp only[hFa] at HNX HTK HT hl ⊢;have HL:=qaa hl;have HF0:=qaa hF0;clear hb0 hS hk hw hl hN hR hord hr0 hx hne hF hFa hF0;obtain⟨rn,hrn⟩:∃rn,rs.length=rn:=⟨_,rfl⟩;obtain⟨nn,hnn⟩:∃nn,ns.length=nn:=⟨_,rfl⟩;have HRN:=qaa hrn;have HNN:=qaa hnn;rw[hrn] at hr1 HNW HWR HB0 ⊢;rw[hnn] at hn1 HNW HWR HB0 ⊢;clear hrn hnn;go_enter Tryz.func10,Tryz.ntmps10
 go_upto_region 1 with fail
 obtain⟨W0,hW0⟩:∃W0,W.alloc (.cells #[jf ra rn rc,jf na nn nc] 25)=W0:=⟨_,rfl⟩;rw[hW0] at HWR HB0 ⊢;have HG:=qaa (qa0 W 25 #[jf ra rn rc,jf na nn nc]);rw[hW0] at HG;have g0:=HG.out.cell (o:=0) (u:=jf ra rn rc) rfl;have g1:=HG.out.cell (o:=1) (u:=jf na nn nc) rfl;have gl:=HG.out.lt;clear hW0
 go_upto_region 2 with(go_at_call 27;(with_reducible refine(HNW.out _).mono ?_);rintro e w1 ⟨b,rfl,hp1,hb1⟩;have HP1:=qaa hp1;have HB1:=qaa hb1;have HG1:=qaa (HG.out.below hb1);clear hp1 hb1)
 clear g0 g1 gl;have g0:=HG1.out.cell (o:=0) (u:=jf ra rn rc) rfl;have g1:=HG1.out.cell (o:=1) (u:=jf na nn nc) rfl;have gl:=HG1.out.lt;have HBb:=qaa HP1.out.le;have hz1:=HB1.out.size;obtain⟨B,hBq⟩:∃B,W0.heap.size=B:=⟨_,rfl⟩;rw[hBq] at HWR HP1 HB1 HBb hz1;go_wp2
 go_loopw [10] (fun s wr=>∃(k:Nat) (d:Int),k<=rn/\s=je .i64 k /\ -1<=d/\d<nn/\ordR ns (rs.drop k) d=true/\Pw B b (jf ra rn rc) (jf na nn nc) (10000-(d+1).toNat) (F (rs.take k)) wr/\KW B b w1 wr) (fun s _=>rn-(intOf s).toNat)
 case atStart=>exact⟨0,-1,Nat.zero_le _,rfl,U,U,HORD.out,by rw[List.take_zero,HF0.out];exact HP1.out,Kp.refl _⟩
 case round=>
  obtain⟨k,d,hk,rfl,hd1,hd2,hor,hpw,hkw⟩:=hrel;have hz2:=hkw.size;have HBW:=qaa (HB1.out.trans (hkw.below HBb.out HBb.out hz1));have HKW:=qaa hkw;by_cases hlt:k<rn
  ·obtain⟨r,hr⟩:∃r,rs[k]?=some r:=⟨_,qae (by rw[HRN.out];exact hlt)⟩
   obtain⟨q,hq,hqi⟩:=HRT.out r (qan hr);have hdr:rs.drop k=r::rs.drop (k+1):=by
    have:=List.drop_eq_getElem_cons (l:=rs) (i:=k) (by rw[HRN.out];exact hlt);rw[this];congr 1;exact(qag.1 hr).2
   rw[hdr] at hor;obtain⟨ho1,ho2,ho3,ho4⟩:=zuf hor;rw[hq] at ho1 ho2 ho3 ho4;have HO4:=qaa ho4;have HR2:=qaa (HWR.out k r hr q hq);have hnx:=HNX.out k r hr;have htk:=HTK.out (k+1);rw[hnx] at htk;have hl2:=HL.out;rw[qad,qai] at htk;have hq1:(q:Int)<(nn:Int):=by rw[<-HNN.out];exact ho2
   obtain⟨left,hleft⟩:∃left,10000-(d+1).toNat=left:=⟨_,rfl⟩;have e1:left-((q:Int)-exL ns q).toNat=10000-((q:Int)+1).toNat:=U
   have e2:(q:Int)-exL ns q<=(left:Int):=U
   have e3:left<=10000:=U
   rw[hleft] at hpw;have e4:(F (rs.take k)++(bts r.name++([32,60,45,32]++tx ns (nmOf rs) cxN 0 r.root))).length<=1000000:=U
   have e5:(F (rs.take k)++(bts r.name++([32,60,45,32]++tx ns (nmOf rs) cxN 0 r.root))).length<=2000000:=U
   have HE:=qaa (And.intro e1 (And.intro e2 (And.intro e3 (And.intro e4 e5))));have HQ1:=qaa hq1;have HP2:=qaa hpw;have HNX2:=qaa hnx;have k2:(k:Int)<(rn:Int):=U
   have hzz:B<=wr.heap.size:=U
   clear hr hq hqi hdr hor ho1 ho2 ho3 ho4 hnx htk hl2 hleft e1 e2 e3 e4 e5 hpw hkw hd1 hd2 g0 g1 gl hq1 hBq
   go_wp2_with (first
    |(go_at_call 28;(with_reducible refine(HR2.out _ _ _ _ HBW.out HP2.out HE.out.2.1 HE.out.2.2.1 HE.out.2.2.2.1).mono ?_);rintro e w3 ⟨rfl,hp3,hk3⟩;rw[HE.out.1] at hp3;have HP3:=qaa hp3;have HK3:=qaa (HKW.out.trans hk3);have hz3:=qal hzz hk3.size;clear hp3 hk3)
    |(go_at_call 29;(with_reducible refine(z99 _ _ _ _ _ _ 10 10 rfl _ HP3.out ja HE.out.2.2.2.2 hz3).mono ?_);rintro e w4 ⟨rfl,hp4,hk4⟩;have HP4:=qaa hp4;have HK4:=qaa (HK3.out.trans hk4);clear hp4 hk4))
   exact⟨⟨k+1,q,U,by go_num,U,HQ1.out,HO4.out,by rw[HNX2.out];exact HP4.out,HK4.out⟩,by simp[intOf];omega⟩
  ·obtain rfl:k=rn:=U
   have k2:¬(k:Int)<(k:Int):=U
   rw[List.take_of_length_le (by rw[HRN.out];exact qac _)] at hpw;have HP2:=qaa hpw;clear hpw hkw g0 g1 gl hor hd1 hd2
   go_wp2_with (go_at_call 30;(with_reducible refine(yaat _ _ _ _ _ _ _ HP2.out HT.out.1 HT.out.2).mono ?_);rintro e w3 ⟨rfl,hb3⟩;have HB3:=qaa (HBW.out.trans hb3);clear hb3)
   go_ret;exact⟨rfl,HB0.out.trans (HB3.out.mono (hBq ▸ HB0.out.size))⟩
end
