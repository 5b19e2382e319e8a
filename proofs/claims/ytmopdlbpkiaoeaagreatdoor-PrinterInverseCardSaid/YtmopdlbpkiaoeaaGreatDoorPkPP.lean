/- The program's name and bare: what stands within the parentheses of a node. Written by wip/gen/prnbare.py. The program's Node, Rule and Print. -/
import Derived.Test.YtmopdlbpkiaoeaaGreatDoorPkPW
set_option maxRecDepth 100000
set_option maxHeartbeats 8000000
namespace Go.Proofs.YtmopdlbpkiaoeaaGreatDoor
section
open Go.RowKit
theorem yaho (rs:List PR)(ra:Option Addr)(rc:Nat)(nv:Value)(W:World)(m:Nat)(r:PR)(hr:rs[m]?=some r)(hR:RulesIn W (.slice ra rs.length rc) rs)(w:World)(b k:Nat)(l:List Nat)(hb:Below W.heap.size W w)(h:Pw W.heap.size b (.slice ra rs.length rc) nv k l w)(hl:l.length+r.name.size<=1000000) :
  Calls Tryz.prog 86 #[.pointer (some ⟨b,0,none⟩),.int .i64 (m:Int)] w fun e w'=>e=.returned (.tuple #[])/\Pw W.heap.size b (.slice ra rs.length rc) nv k (l++bts r.name) w'/\KW W.heap.size b w w':=by
 obtain⟨rb,ro,rfl,r0,r1⟩:=yacf hR hr;have hml:=(List.getElem?_eq_some_iff.1 hr).1;have hlt:=zai r0;have d0:=((bcell hb).1 rb (ro+m*2) hlt).trans r0;have g0:=h.cell0;have gl:=h.lt;have hW:W.heap.size<=w.heap.size:=hb.size;obtain⟨nm,hnm⟩:∃nm,r.name=nm:=⟨_,rfl⟩;rw[hnm] at d0 hl ⊢;obtain⟨rn,hrn⟩:∃rn,rs.length=rn:=⟨_,rfl⟩;rw[hrn] at g0 h hml ⊢;have k1:(0:Int)<=(m:Int):=by omega
 have k2:(m:Int)<(rn:Int):=by omega
 have hl2:l.length+nm.size<=2000000:=by omega
 have HP:=Lib.hid h;have hWd:W.heap.size<=w.drew.heap.size:=hW;have HL:=Lib.hid hl2;clear r0 r1 hlt hr hR hb h hl hl2 hnm hrn hml hW;go_enter Tryz.func86,Tryz.ntmps86;go_wp2
 go_region_with (go_at_call 40;(with_reducible refine(yaai _ b _ nv _ _ nm _ HP.out.drew HL.out hWd).mono ?_);rintro e w1 ⟨rfl,hp1,hk1⟩;have HP1:=Lib.hid hp1;have HK1:=Lib.hid ((Kp.of_below (base:=W.heap.size) (xb:=b) (yb:=b) (t1:=5) (zpw _)).trans hk1);clear hp1 hk1)
 all_goals
  go_wp2
  go_end0
  exact⟨rfl,HP1.out,HK1.out⟩
theorem yaf6 (rs:List PR)(ns:List PN)(ra na:Option Addr)(rc nc:Nat)(W:World)(i:Nat)(n:PN)(hn:ns[i]?=some n)(hx:AllEx ns)(hop:n.op=0)(hkd:n.kids=[]):BareC rs ns ra na rc nc W i n:=by
 intro ka kc w b k l hI hb h hk hk2 hl;have hW:W.heap.size<=w.heap.size:=hb.size;have hex:-1<=exL ns i/\exL ns i<i:=by
  have hil:=(List.getElem?_eq_some_iff.1 hn).1;have:=zj5 ns i (hx i (by omega) (by omega));exact⟨this.1,this.2.1⟩
 have hkids:(i:Int)-1-exL ns i=0:=by
  have:=kc_of hx hn;rw[hkd] at this;have h:exL ns i=(i:Int)-1:=this;omega
 rw[hkids];rw[yaaj.1 hop] at hl ⊢;have hl1:l.length+2<=1000000:=hl;have hl2:l.length+(strOf (litL [])).size<=2000000:=by show l.length+2<=_;omega
 clear hl1;clear hkids hl hk hk2 hI;obtain⟨kn,hkn⟩:∃kn,n.kids.length=kn:=⟨_,rfl⟩;rw[hkn];clear hkn hkd;rw[hop];have HOP:=Lib.hid hop;clear hop;have hn2:=zaa w (.cells #[.int .i64 0,.slice ka kn kc,.int .i64 n.rule,.int .u64 n.s0,.int .u64 n.s1,.int .u64 n.s2,.int .u64 n.s3] 54);have HX:=Lib.hid (Bl.new w 54 #[.int .i64 0,.slice ka kn kc,.int .i64 n.rule,.int .u64 n.s0,.int .u64 n.s1,.int .u64 n.s2,.int .u64 n.s3]);have HP1:=Lib.hid (h.grown hn2);have HK1:=Lib.hid (Kp.of_below (base:=W.heap.size) (xb:=b) (yb:=b) (t1:=5) hn2);have HB1:=Lib.hid (hb.trans (hn2.mono hW));have hz1:=hn2.size;have hbl:=h.lt;have HBb:=Lib.hid h.le;go_enter Tryz.func54,Tryz.ntmps54
 go_upto_region 1 with fail
 obtain⟨W1,hW1⟩:∃W1,w.alloc (.cells #[.int .i64 0,.slice ka kn kc,.int .i64 n.rule,.int .u64 n.s0,.int .u64 n.s1,.int .u64 n.s2,.int .u64 n.s3] 54)=W1:=⟨_,rfl⟩;rw[hW1] at HX HP1 HK1 HB1 hz1 ⊢;obtain⟨X,hXq⟩:∃X,w.heap.size=X:=⟨_,rfl⟩;rw[hXq] at HX hz1 hbl hW ⊢;have hxb:X≠b:=by omega
 have hBW:W.heap.size<=W1.heap.size:=by omega
 clear hW1 hn2 hXq h hb;have x0:=HX.out.cell (o:=0) (u:=.int .i64 0) rfl;have x1:=HX.out.cell (o:=1) (u:=.slice ka kn kc) rfl;have x2:=HX.out.cell (o:=2) (u:=.int .i64 n.rule) rfl;have x3:=HX.out.cell (o:=3) (u:=.int .u64 n.s0) rfl;have x4:=HX.out.cell (o:=4) (u:=.int .u64 n.s1) rfl;have x5:=HX.out.cell (o:=5) (u:=.int .u64 n.s2) rfl;have x6:=HX.out.cell (o:=6) (u:=.int .u64 n.s3) rfl;have xl:=HX.out.lt;have HLI:=Lib.hid fun(V:World)=>yabg [] (.slice none 0 0) V ⟨none,0,rfl,.inl rfl⟩ (fun x hx=>by cases hx) (by simp)
 go_wp2
 go_region_with (first
  |(go_at_call 37;(with_reducible refine(HLI.out _).mono ?_);rintro e w2 ⟨rfl,hb2⟩;have hd:=(zpw W1).trans (hb2.mono (Nat.le_refl _));have HP2:=Lib.hid (HP1.out.grown hd);have HK2:=Lib.hid (HK1.out.trans (Kp.of_below (base:=W.heap.size) (xb:=b) (yb:=b) (t1:=5) hd));have hz2:=hd.size;clear hb2 hd)
  |(go_at_call 40;(with_reducible refine(yaai _ b _ _ _ _ (strOf (litL [])) _ HP2.out hl2 (Nat.le_trans hBW hz2)).mono ?_);rintro e w3 ⟨rfl,hp3,hk3⟩;have HP3:=Lib.hid hp3;have HK3:=Lib.hid (HK2.out.trans hk3);clear hp3 hk3))
 all_goals
  go_wp2
  go_end0
  exact⟨rfl,HP3.out,HK3.out⟩
theorem yaf7 (rs:List PR)(ns:List PN)(ra na:Option Addr)(rc nc:Nat)(W:World)(i:Nat)(n:PN)(hn:ns[i]?=some n)(hx:AllEx ns)(hop:n.op=1)(hkd:n.kids=[])(hw:z87 n):BareC rs ns ra na rc nc W i n:=by
 intro ka kc w b k l hI hb h hk hk2 hl;have hW:W.heap.size<=w.heap.size:=hb.size;have hex:-1<=exL ns i/\exL ns i<i:=by
  have hil:=(List.getElem?_eq_some_iff.1 hn).1;have:=zj5 ns i (hx i (by omega) (by omega));exact⟨this.1,this.2.1⟩
 have hkids:(i:Int)-1-exL ns i=0:=by
  have:=kc_of hx hn;rw[hkd] at this;have h:exL ns i=(i:Int)-1:=this;omega
 rw[hkids];rw[yaaj.2.1 hop] at hl ⊢;have HQ:=Lib.hid (yaby hw);have hbt:bts (strOf (cxN n))=cxN n:=zf7 _ (yace (bitF n));obtain⟨SX,hSX⟩:∃SX,strOf (cxN n)=SX:=⟨_,rfl⟩;have hsl:l.length+SX.size<=2000000:=by rw[<-hSX,zb0];omega
 have HCL:=Lib.hid fun(V:World)=>yaau (bitF n) V
 have e:strOf (clsX (bitF n))=SX:=hSX;rw[e] at HCL;rw[hSX] at hbt;have HBT:=Lib.hid hbt;clear hkids hl hk hk2 hI hbt hSX e;obtain⟨kn,hkn⟩:∃kn,n.kids.length=kn:=⟨_,rfl⟩;rw[hkn];clear hkn hkd;rw[hop];have HOP:=Lib.hid hop;clear hop;have hn2:=zaa w (.cells #[.int .i64 1,.slice ka kn kc,.int .i64 n.rule,.int .u64 n.s0,.int .u64 n.s1,.int .u64 n.s2,.int .u64 n.s3] 54);have HX:=Lib.hid (Bl.new w 54 #[.int .i64 1,.slice ka kn kc,.int .i64 n.rule,.int .u64 n.s0,.int .u64 n.s1,.int .u64 n.s2,.int .u64 n.s3]);have HP1:=Lib.hid (h.grown hn2);have HK1:=Lib.hid (Kp.of_below (base:=W.heap.size) (xb:=b) (yb:=b) (t1:=5) hn2);have HB1:=Lib.hid (hb.trans (hn2.mono hW));have hz1:=hn2.size;have hbl:=h.lt;have HBb:=Lib.hid h.le;go_enter Tryz.func54,Tryz.ntmps54
 go_upto_region 1 with fail
 obtain⟨W1,hW1⟩:∃W1,w.alloc (.cells #[.int .i64 1,.slice ka kn kc,.int .i64 n.rule,.int .u64 n.s0,.int .u64 n.s1,.int .u64 n.s2,.int .u64 n.s3] 54)=W1:=⟨_,rfl⟩;rw[hW1] at HX HP1 HK1 HB1 hz1 ⊢;obtain⟨X,hXq⟩:∃X,w.heap.size=X:=⟨_,rfl⟩;rw[hXq] at HX hz1 hbl hW ⊢;have hxb:X≠b:=by omega
 have hBW:W.heap.size<=W1.heap.size:=by omega
 clear hW1 hn2 hXq h hb;have x0:=HX.out.cell (o:=0) (u:=.int .i64 1) rfl;have x1:=HX.out.cell (o:=1) (u:=.slice ka kn kc) rfl;have x2:=HX.out.cell (o:=2) (u:=.int .i64 n.rule) rfl;have x3:=HX.out.cell (o:=3) (u:=.int .u64 n.s0) rfl;have x4:=HX.out.cell (o:=4) (u:=.int .u64 n.s1) rfl;have x5:=HX.out.cell (o:=5) (u:=.int .u64 n.s2) rfl;have x6:=HX.out.cell (o:=6) (u:=.int .u64 n.s3) rfl;have xl:=HX.out.lt;obtain⟨q0,q1,q2,q3⟩:=HQ.out;rw[q0] at x3;rw[q1] at x4;rw[q2] at x5;rw[q3] at x6;clear q0 q1 q2 q3;go_wp2
 go_region_with (first
  |(go_at_call 17;(with_reducible refine(HCL.out _).mono ?_);rintro e w2 ⟨rfl,hb2⟩;have hd:=(zpw W1).trans (hb2.mono (Nat.le_refl _));have HP2:=Lib.hid (HP1.out.grown hd);have HK2:=Lib.hid (HK1.out.trans (Kp.of_below (base:=W.heap.size) (xb:=b) (yb:=b) (t1:=5) hd));have hz2:=hd.size;clear hb2 hd)
  |(go_at_call 40;(with_reducible refine(yaai _ b _ _ _ _ SX _ HP2.out hsl (Nat.le_trans hBW hz2)).mono ?_);rintro e w3 ⟨rfl,hp3,hk3⟩;rw[HBT.out] at hp3;have HP3:=Lib.hid hp3;have HK3:=Lib.hid (HK2.out.trans hk3);clear hp3 hk3))
 all_goals
  go_wp2
  go_end0
  exact⟨rfl,HP3.out,HK3.out⟩
theorem yahp (rs:List PR)(ns:List PN)(ra na:Option Addr)(rc nc:Nat)(W:World)(i:Nat)(n:PN)(hn:ns[i]?=some n)(hx:AllEx ns)(hop:n.op=2)(hkd:n.kids=[])(r:PR)(m:Nat)(hm:n.rule=(m:Int))(hr:rs[m]?=some r)(hR:RulesIn W (.slice ra rs.length rc) rs):BareC rs ns ra na rc nc W i n:=by
 intro ka kc w b k l hI hb h hk hk2 hl;have hW:W.heap.size<=w.heap.size:=hb.size;have hex:-1<=exL ns i/\exL ns i<i:=by
  have hil:=(List.getElem?_eq_some_iff.1 hn).1;have:=zj5 ns i (hx i (by omega) (by omega));exact⟨this.1,this.2.1⟩
 have hkids:(i:Int)-1-exL ns i=0:=by
  have:=kc_of hx hn;rw[hkd] at this;have h:exL ns i=(i:Int)-1:=this;omega
 rw[hkids];have hnm:nmOf rs n.rule=bts r.name:=by unfold nmOf;rw[hm,Int.toNat_natCast,hr]
 rw[yaaj.2.2 hop,hnm] at hl ⊢;rw[zaj] at hl;have HNA:=Lib.hid fun w hb h=>yaho rs ra rc (.slice na ns.length nc) W m r hr hR w b k l hb h hl
 rw[hm];clear hkids hl hk hk2 hI hr hR hnm;obtain⟨kn,hkn⟩:∃kn,n.kids.length=kn:=⟨_,rfl⟩;rw[hkn];clear hkn hkd;rw[hop];have HOP:=Lib.hid hop;clear hop;have hn2:=zaa w (.cells #[.int .i64 2,.slice ka kn kc,.int .i64 (m:Int),.int .u64 n.s0,.int .u64 n.s1,.int .u64 n.s2,.int .u64 n.s3] 54);have HX:=Lib.hid (Bl.new w 54 #[.int .i64 2,.slice ka kn kc,.int .i64 (m:Int),.int .u64 n.s0,.int .u64 n.s1,.int .u64 n.s2,.int .u64 n.s3]);have HP1:=Lib.hid (h.grown hn2);have HK1:=Lib.hid (Kp.of_below (base:=W.heap.size) (xb:=b) (yb:=b) (t1:=5) hn2);have HB1:=Lib.hid (hb.trans (hn2.mono hW));have hz1:=hn2.size;have hbl:=h.lt;have HBb:=Lib.hid h.le;go_enter Tryz.func54,Tryz.ntmps54
 go_upto_region 1 with fail
 obtain⟨W1,hW1⟩:∃W1,w.alloc (.cells #[.int .i64 2,.slice ka kn kc,.int .i64 (m:Int),.int .u64 n.s0,.int .u64 n.s1,.int .u64 n.s2,.int .u64 n.s3] 54)=W1:=⟨_,rfl⟩;rw[hW1] at HX HP1 HK1 HB1 hz1 ⊢;obtain⟨X,hXq⟩:∃X,w.heap.size=X:=⟨_,rfl⟩;rw[hXq] at HX hz1 hbl hW ⊢;have hxb:X≠b:=by omega
 have hBW:W.heap.size<=W1.heap.size:=by omega
 clear hW1 hn2 hXq h hb;have x0:=HX.out.cell (o:=0) (u:=.int .i64 2) rfl;have x1:=HX.out.cell (o:=1) (u:=.slice ka kn kc) rfl;have x2:=HX.out.cell (o:=2) (u:=.int .i64 (m:Int)) rfl;have x3:=HX.out.cell (o:=3) (u:=.int .u64 n.s0) rfl;have x4:=HX.out.cell (o:=4) (u:=.int .u64 n.s1) rfl;have x5:=HX.out.cell (o:=5) (u:=.int .u64 n.s2) rfl;have x6:=HX.out.cell (o:=6) (u:=.int .u64 n.s3) rfl;have xl:=HX.out.lt
 go_wp2_with (go_at_call 86;(with_reducible refine(HNA.out _ HB1.out HP1.out).mono ?_);rintro e w2 ⟨rfl,hp2,hk2⟩;have HP2:=Lib.hid hp2;have HK2:=Lib.hid (HK1.out.trans hk2);clear hp2 hk2)
 go_end0
 exact⟨rfl,HP2.out,HK2.out⟩
theorem yajc (rs:List PR)(ns:List PN)(ra na:Option Addr)(rc nc:Nat)(W:World)(i:Nat)(n:PN)(hn:ns[i]?=some n)(hx:AllEx ns)(hop:n.op=3)(hm:∀(i:Nat) (n:PN),ns[i]?=some n->∃R,madeB n R=true)(hkl:n.kids.length<=10000)(hrec:∀x,x ∈ n.kids->∀p,NodeC rs ns ra na rc nc W x p):BareC rs ns ra na rc nc W i n:=by
 intro ka kc w b k l hI hb h hk hk2 hl;have hW:W.heap.size<=w.heap.size:=hb.size;have hex:-1<=exL ns i/\exL ns i<i:=by
  have hil:=(List.getElem?_eq_some_iff.1 hn).1;have:=zj5 ns i (hx i (by omega) (by omega));exact⟨this.1,this.2.1⟩
 have hprog:=z9s (nm:=nmOf rs) (cx:=cxN) hx.kids hm hn;rw[hprog.1 hop] at hl ⊢;have hKC:=kc_of hx hn;have HJ:=Lib.hid fun w l hb h hl=>z9x rs ns ra na rc nc W 2 n.kids ka kc ⟨#[32]⟩ [32] rfl hI (by omega) (fun x hxm=>hrec x hxm 2) (exL ns i) ((i:Int)-1) hex.1 hKC w b k l hb h hk hk2 hl
 obtain⟨kn,hkn⟩:∃kn,n.kids.length=kn:=⟨_,rfl⟩;obtain⟨J,hJ⟩:∃J,joinT [32] (n.kids.map (pX ns (nmOf rs) cxN 2))=J:=⟨_,rfl⟩;rw[hJ] at HJ hl ⊢;rw[hkn] at HJ ⊢;clear hprog hKC hI hkl hrec hm hJ hk hk2;rw[hop];have HOP:=Lib.hid hop;clear hop;have hn2:=zaa w (.cells #[.int .i64 3,.slice ka kn kc,.int .i64 n.rule,.int .u64 n.s0,.int .u64 n.s1,.int .u64 n.s2,.int .u64 n.s3] 54);have HX:=Lib.hid (Bl.new w 54 #[.int .i64 3,.slice ka kn kc,.int .i64 n.rule,.int .u64 n.s0,.int .u64 n.s1,.int .u64 n.s2,.int .u64 n.s3]);have HP1:=Lib.hid (h.grown hn2);have HK1:=Lib.hid (Kp.of_below (base:=W.heap.size) (xb:=b) (yb:=b) (t1:=5) hn2);have HB1:=Lib.hid (hb.trans (hn2.mono hW));have hz1:=hn2.size;have hbl:=h.lt;have HBb:=Lib.hid h.le;go_enter Tryz.func54,Tryz.ntmps54
 go_upto_region 1 with fail
 obtain⟨W1,hW1⟩:∃W1,w.alloc (.cells #[.int .i64 3,.slice ka kn kc,.int .i64 n.rule,.int .u64 n.s0,.int .u64 n.s1,.int .u64 n.s2,.int .u64 n.s3] 54)=W1:=⟨_,rfl⟩;rw[hW1] at HX HP1 HK1 HB1 hz1 ⊢;obtain⟨X,hXq⟩:∃X,w.heap.size=X:=⟨_,rfl⟩;rw[hXq] at HX hz1 hbl hW ⊢;have hxb:X≠b:=by omega
 have hBW:W.heap.size<=W1.heap.size:=by omega
 clear hW1 hn2 hXq h hb;have x0:=HX.out.cell (o:=0) (u:=.int .i64 3) rfl;have x1:=HX.out.cell (o:=1) (u:=.slice ka kn kc) rfl;have x2:=HX.out.cell (o:=2) (u:=.int .i64 n.rule) rfl;have x3:=HX.out.cell (o:=3) (u:=.int .u64 n.s0) rfl;have x4:=HX.out.cell (o:=4) (u:=.int .u64 n.s1) rfl;have x5:=HX.out.cell (o:=5) (u:=.int .u64 n.s2) rfl;have x6:=HX.out.cell (o:=6) (u:=.int .u64 n.s3) rfl;have xl:=HX.out.lt
 go_wp2_with (go_at_call 87;(with_reducible refine(HJ.out _ _ HB1.out HP1.out hl).mono ?_);rintro e w2 ⟨rfl,hp2,hk2⟩;have HP2:=Lib.hid hp2;have HK2:=Lib.hid (HK1.out.trans hk2);clear hp2 hk2)
 go_end0
 exact⟨rfl,HP2.out,HK2.out⟩
theorem yaes (rs:List PR)(ns:List PN)(ra na:Option Addr)(rc nc:Nat)(W:World)(i:Nat)(n:PN)(hn:ns[i]?=some n)(hx:AllEx ns)(hop:n.op=4)(hm:∀(i:Nat) (n:PN),ns[i]?=some n->∃R,madeB n R=true)(hkl:n.kids.length<=10000)(hrec:∀x,x ∈ n.kids->∀p,NodeC rs ns ra na rc nc W x p):BareC rs ns ra na rc nc W i n:=by
 intro ka kc w b k l hI hb h hk hk2 hl;have hW:W.heap.size<=w.heap.size:=hb.size;have hex:-1<=exL ns i/\exL ns i<i:=by
  have hil:=(List.getElem?_eq_some_iff.1 hn).1;have:=zj5 ns i (hx i (by omega) (by omega));exact⟨this.1,this.2.1⟩
 have hprog:=z9s (nm:=nmOf rs) (cx:=cxN) hx.kids hm hn;rw[hprog.2.1 hop] at hl ⊢;have hKC:=kc_of hx hn;have HJ:=Lib.hid fun w l hb h hl=>z9x rs ns ra na rc nc W 1 n.kids ka kc ⟨#[32,47,32]⟩ [32,47,32] rfl hI (by omega) (fun x hxm=>hrec x hxm 1) (exL ns i) ((i:Int)-1) hex.1 hKC w b k l hb h hk hk2 hl
 obtain⟨kn,hkn⟩:∃kn,n.kids.length=kn:=⟨_,rfl⟩;obtain⟨J,hJ⟩:∃J,joinT [32,47,32] (n.kids.map (pX ns (nmOf rs) cxN 1))=J:=⟨_,rfl⟩;rw[hJ] at HJ hl ⊢;rw[hkn] at HJ ⊢;clear hprog hKC hI hkl hrec hm hJ hk hk2;rw[hop];have HOP:=Lib.hid hop;clear hop;have hn2:=zaa w (.cells #[.int .i64 4,.slice ka kn kc,.int .i64 n.rule,.int .u64 n.s0,.int .u64 n.s1,.int .u64 n.s2,.int .u64 n.s3] 54);have HX:=Lib.hid (Bl.new w 54 #[.int .i64 4,.slice ka kn kc,.int .i64 n.rule,.int .u64 n.s0,.int .u64 n.s1,.int .u64 n.s2,.int .u64 n.s3]);have HP1:=Lib.hid (h.grown hn2);have HK1:=Lib.hid (Kp.of_below (base:=W.heap.size) (xb:=b) (yb:=b) (t1:=5) hn2);have HB1:=Lib.hid (hb.trans (hn2.mono hW));have hz1:=hn2.size;have hbl:=h.lt;have HBb:=Lib.hid h.le;go_enter Tryz.func54,Tryz.ntmps54
 go_upto_region 1 with fail
 obtain⟨W1,hW1⟩:∃W1,w.alloc (.cells #[.int .i64 4,.slice ka kn kc,.int .i64 n.rule,.int .u64 n.s0,.int .u64 n.s1,.int .u64 n.s2,.int .u64 n.s3] 54)=W1:=⟨_,rfl⟩;rw[hW1] at HX HP1 HK1 HB1 hz1 ⊢;obtain⟨X,hXq⟩:∃X,w.heap.size=X:=⟨_,rfl⟩;rw[hXq] at HX hz1 hbl hW ⊢;have hxb:X≠b:=by omega
 have hBW:W.heap.size<=W1.heap.size:=by omega
 clear hW1 hn2 hXq h hb;have x0:=HX.out.cell (o:=0) (u:=.int .i64 4) rfl;have x1:=HX.out.cell (o:=1) (u:=.slice ka kn kc) rfl;have x2:=HX.out.cell (o:=2) (u:=.int .i64 n.rule) rfl;have x3:=HX.out.cell (o:=3) (u:=.int .u64 n.s0) rfl;have x4:=HX.out.cell (o:=4) (u:=.int .u64 n.s1) rfl;have x5:=HX.out.cell (o:=5) (u:=.int .u64 n.s2) rfl;have x6:=HX.out.cell (o:=6) (u:=.int .u64 n.s3) rfl;have xl:=HX.out.lt
 go_wp2_with (go_at_call 87;(with_reducible refine(HJ.out _ _ HB1.out HP1.out hl).mono ?_);rintro e w2 ⟨rfl,hp2,hk2⟩;have HP2:=Lib.hid hp2;have HK2:=Lib.hid (HK1.out.trans hk2);clear hp2 hk2)
 go_end0
 exact⟨rfl,HP2.out,HK2.out⟩
theorem yahq (rs:List PR)(ns:List PN)(ra na:Option Addr)(rc nc:Nat)(W:World)(i:Nat)(n:PN)(hn:ns[i]?=some n)(hx:AllEx ns)(hop:n.op=5)(hm:∀(i:Nat) (n:PN),ns[i]?=some n->∃R,madeB n R=true)(hkl:n.kids.length<=10000)(hrec:∀x,x ∈ n.kids->∀p,NodeC rs ns ra na rc nc W x p)(hS:SgnAt W):BareC rs ns ra na rc nc W i n:=by
 intro ka kc w b k l hI hb h hk hk2 hl;have hW:W.heap.size<=w.heap.size:=hb.size;have hex:-1<=exL ns i/\exL ns i<i:=by
  have hil:=(List.getElem?_eq_some_iff.1 hn).1;have:=zj5 ns i (hx i (by omega) (by omega));exact⟨this.1,this.2.1⟩
 have hprog:=z9s (nm:=nmOf rs) (cx:=cxN) hx.kids hm hn;rw[hprog.2.2.2 (by omega)] at hl ⊢;have hKC:=kc_of hx hn;have HJ:=Lib.hid fun w l hb h hl=>z9x rs ns ra na rc nc W 4 n.kids ka kc ⟨#[]⟩ [] rfl hI (by omega) (fun x hxm=>hrec x hxm 4) (exL ns i) ((i:Int)-1) hex.1 hKC w b k l hb h hk hk2 hl
 obtain⟨kn,hkn⟩:∃kn,n.kids.length=kn:=⟨_,rfl⟩;obtain⟨J,hJ⟩:∃J,joinT [] (n.kids.map (pX ns (nmOf rs) cxN 4))=J:=⟨_,rfl⟩;rw[hJ] at HJ hl ⊢;rw[hkn] at HJ ⊢;have hsx:sufX n.op=42:=by rw[hop];rfl
 rw[hsx] at hl ⊢;have hl1:l.length+J.length<=1000000:=by rw[List.length_append] at hl;omega
 have hl2:(l++J).length<=2000000:=by rw[List.length_append];omega
 have HSG:=Lib.hid fun(V:World) (hV:Below W.heap.size W V)=>hS.kept hV (Nat.le_refl _)
 clear hprog hKC hI hkl hrec hm hJ hk hk2 hl hS hsx;rw[hop];have HOP:=Lib.hid hop;clear hop;have hn2:=zaa w (.cells #[.int .i64 5,.slice ka kn kc,.int .i64 n.rule,.int .u64 n.s0,.int .u64 n.s1,.int .u64 n.s2,.int .u64 n.s3] 54);have HX:=Lib.hid (Bl.new w 54 #[.int .i64 5,.slice ka kn kc,.int .i64 n.rule,.int .u64 n.s0,.int .u64 n.s1,.int .u64 n.s2,.int .u64 n.s3]);have HP1:=Lib.hid (h.grown hn2);have HK1:=Lib.hid (Kp.of_below (base:=W.heap.size) (xb:=b) (yb:=b) (t1:=5) hn2);have HB1:=Lib.hid (hb.trans (hn2.mono hW));have hz1:=hn2.size;have hbl:=h.lt;have HBb:=Lib.hid h.le;go_enter Tryz.func54,Tryz.ntmps54
 go_upto_region 1 with fail
 obtain⟨W1,hW1⟩:∃W1,w.alloc (.cells #[.int .i64 5,.slice ka kn kc,.int .i64 n.rule,.int .u64 n.s0,.int .u64 n.s1,.int .u64 n.s2,.int .u64 n.s3] 54)=W1:=⟨_,rfl⟩;rw[hW1] at HX HP1 HK1 HB1 hz1 ⊢;obtain⟨X,hXq⟩:∃X,w.heap.size=X:=⟨_,rfl⟩;rw[hXq] at HX hz1 hbl hW ⊢;have hxb:X≠b:=by omega
 have hBW:W.heap.size<=W1.heap.size:=by omega
 clear hW1 hn2 hXq h hb;have x0:=HX.out.cell (o:=0) (u:=.int .i64 5) rfl;have x1:=HX.out.cell (o:=1) (u:=.slice ka kn kc) rfl;have x2:=HX.out.cell (o:=2) (u:=.int .i64 n.rule) rfl;have x3:=HX.out.cell (o:=3) (u:=.int .u64 n.s0) rfl;have x4:=HX.out.cell (o:=4) (u:=.int .u64 n.s1) rfl;have x5:=HX.out.cell (o:=5) (u:=.int .u64 n.s2) rfl;have x6:=HX.out.cell (o:=6) (u:=.int .u64 n.s3) rfl;have xl:=HX.out.lt
 go_upto_region 16 with(go_at_call 87;(with_reducible refine(HJ.out _ _ HB1.out HP1.out hl1).mono ?_);rintro e w2 ⟨rfl,hp2,hk2⟩;have HX2:=hk2.bl HX.out hxb hxb (by decide);have HP2:=Lib.hid hp2;have HK2:=Lib.hid (HK1.out.trans hk2);have HB2:=Lib.hid (HB1.out.trans (hk2.below HBb.out HBb.out hBW));have hz2:=hk2.size;clear hp2 hk2)
 clear x0 x1 x2 x3 x4 x5 x6 xl;have hzd:W.heap.size<=w2.drew.heap.size:=Nat.le_trans hBW hz2;have x0:=HX2.cell (o:=0) (u:=.int .i64 5) rfl;have sg:=(HSG.out _ HB2.out).1;have xl:=HX2.lt;clear HX2;go_wp2
 go_region_with (go_at_call 29;(with_reducible refine(z99 _ b _ _ _ _ 42 42 rfl _ HP2.out.drew (by decide) hl2 hzd).mono ?_);rintro e w3 ⟨rfl,hp3,hk3⟩;have HP3:=Lib.hid hp3;have HK3:=Lib.hid (HK2.out.trans ((Kp.of_below (base:=W.heap.size) (xb:=b) (yb:=b) (t1:=5) (zpw _)).trans hk3));clear hp3 hk3)
 all_goals
  go_wp2
  go_end0
  exact⟨rfl,by rw[<-List.append_assoc];exact HP3.out,HK3.out⟩
theorem yahr (rs:List PR)(ns:List PN)(ra na:Option Addr)(rc nc:Nat)(W:World)(i:Nat)(n:PN)(hn:ns[i]?=some n)(hx:AllEx ns)(hop:n.op=6)(hm:∀(i:Nat) (n:PN),ns[i]?=some n->∃R,madeB n R=true)(hkl:n.kids.length<=10000)(hrec:∀x,x ∈ n.kids->∀p,NodeC rs ns ra na rc nc W x p)(hS:SgnAt W):BareC rs ns ra na rc nc W i n:=by
 intro ka kc w b k l hI hb h hk hk2 hl;have hW:W.heap.size<=w.heap.size:=hb.size;have hex:-1<=exL ns i/\exL ns i<i:=by
  have hil:=(List.getElem?_eq_some_iff.1 hn).1;have:=zj5 ns i (hx i (by omega) (by omega));exact⟨this.1,this.2.1⟩
 have hprog:=z9s (nm:=nmOf rs) (cx:=cxN) hx.kids hm hn;rw[hprog.2.2.2 (by omega)] at hl ⊢;have hKC:=kc_of hx hn;have HJ:=Lib.hid fun w l hb h hl=>z9x rs ns ra na rc nc W 4 n.kids ka kc ⟨#[]⟩ [] rfl hI (by omega) (fun x hxm=>hrec x hxm 4) (exL ns i) ((i:Int)-1) hex.1 hKC w b k l hb h hk hk2 hl
 obtain⟨kn,hkn⟩:∃kn,n.kids.length=kn:=⟨_,rfl⟩;obtain⟨J,hJ⟩:∃J,joinT [] (n.kids.map (pX ns (nmOf rs) cxN 4))=J:=⟨_,rfl⟩;rw[hJ] at HJ hl ⊢;rw[hkn] at HJ ⊢;have hsx:sufX n.op=43:=by rw[hop];rfl
 rw[hsx] at hl ⊢;have hl1:l.length+J.length<=1000000:=by rw[List.length_append] at hl;omega
 have hl2:(l++J).length<=2000000:=by rw[List.length_append];omega
 have HSG:=Lib.hid fun(V:World) (hV:Below W.heap.size W V)=>hS.kept hV (Nat.le_refl _)
 clear hprog hKC hI hkl hrec hm hJ hk hk2 hl hS hsx;rw[hop];have HOP:=Lib.hid hop;clear hop;have hn2:=zaa w (.cells #[.int .i64 6,.slice ka kn kc,.int .i64 n.rule,.int .u64 n.s0,.int .u64 n.s1,.int .u64 n.s2,.int .u64 n.s3] 54);have HX:=Lib.hid (Bl.new w 54 #[.int .i64 6,.slice ka kn kc,.int .i64 n.rule,.int .u64 n.s0,.int .u64 n.s1,.int .u64 n.s2,.int .u64 n.s3]);have HP1:=Lib.hid (h.grown hn2);have HK1:=Lib.hid (Kp.of_below (base:=W.heap.size) (xb:=b) (yb:=b) (t1:=5) hn2);have HB1:=Lib.hid (hb.trans (hn2.mono hW));have hz1:=hn2.size;have hbl:=h.lt;have HBb:=Lib.hid h.le;go_enter Tryz.func54,Tryz.ntmps54
 go_upto_region 1 with fail
 obtain⟨W1,hW1⟩:∃W1,w.alloc (.cells #[.int .i64 6,.slice ka kn kc,.int .i64 n.rule,.int .u64 n.s0,.int .u64 n.s1,.int .u64 n.s2,.int .u64 n.s3] 54)=W1:=⟨_,rfl⟩;rw[hW1] at HX HP1 HK1 HB1 hz1 ⊢;obtain⟨X,hXq⟩:∃X,w.heap.size=X:=⟨_,rfl⟩;rw[hXq] at HX hz1 hbl hW ⊢;have hxb:X≠b:=by omega
 have hBW:W.heap.size<=W1.heap.size:=by omega
 clear hW1 hn2 hXq h hb;have x0:=HX.out.cell (o:=0) (u:=.int .i64 6) rfl;have x1:=HX.out.cell (o:=1) (u:=.slice ka kn kc) rfl;have x2:=HX.out.cell (o:=2) (u:=.int .i64 n.rule) rfl;have x3:=HX.out.cell (o:=3) (u:=.int .u64 n.s0) rfl;have x4:=HX.out.cell (o:=4) (u:=.int .u64 n.s1) rfl;have x5:=HX.out.cell (o:=5) (u:=.int .u64 n.s2) rfl;have x6:=HX.out.cell (o:=6) (u:=.int .u64 n.s3) rfl;have xl:=HX.out.lt
 go_upto_region 16 with(go_at_call 87;(with_reducible refine(HJ.out _ _ HB1.out HP1.out hl1).mono ?_);rintro e w2 ⟨rfl,hp2,hk2⟩;have HX2:=hk2.bl HX.out hxb hxb (by decide);have HP2:=Lib.hid hp2;have HK2:=Lib.hid (HK1.out.trans hk2);have HB2:=Lib.hid (HB1.out.trans (hk2.below HBb.out HBb.out hBW));have hz2:=hk2.size;clear hp2 hk2)
 clear x0 x1 x2 x3 x4 x5 x6 xl;have hzd:W.heap.size<=w2.drew.heap.size:=Nat.le_trans hBW hz2;have x0:=HX2.cell (o:=0) (u:=.int .i64 6) rfl;have sg:=(HSG.out _ HB2.out).2.1;have xl:=HX2.lt;clear HX2;go_wp2
 go_region_with (go_at_call 29;(with_reducible refine(z99 _ b _ _ _ _ 43 43 rfl _ HP2.out.drew (by decide) hl2 hzd).mono ?_);rintro e w3 ⟨rfl,hp3,hk3⟩;have HP3:=Lib.hid hp3;have HK3:=Lib.hid (HK2.out.trans ((Kp.of_below (base:=W.heap.size) (xb:=b) (yb:=b) (t1:=5) (zpw _)).trans hk3));clear hp3 hk3)
 all_goals
  go_wp2
  go_end0
  exact⟨rfl,by rw[<-List.append_assoc];exact HP3.out,HK3.out⟩
theorem yajd (rs:List PR)(ns:List PN)(ra na:Option Addr)(rc nc:Nat)(W:World)(i:Nat)(n:PN)(hn:ns[i]?=some n)(hx:AllEx ns)(hop:n.op=7)(hm:∀(i:Nat) (n:PN),ns[i]?=some n->∃R,madeB n R=true)(hkl:n.kids.length<=10000)(hrec:∀x,x ∈ n.kids->∀p,NodeC rs ns ra na rc nc W x p)(hS:SgnAt W):BareC rs ns ra na rc nc W i n:=by
 intro ka kc w b k l hI hb h hk hk2 hl;have hW:W.heap.size<=w.heap.size:=hb.size;have hex:-1<=exL ns i/\exL ns i<i:=by
  have hil:=(List.getElem?_eq_some_iff.1 hn).1;have:=zj5 ns i (hx i (by omega) (by omega));exact⟨this.1,this.2.1⟩
 have hprog:=z9s (nm:=nmOf rs) (cx:=cxN) hx.kids hm hn;rw[hprog.2.2.2 (by omega)] at hl ⊢;have hKC:=kc_of hx hn;have HJ:=Lib.hid fun w l hb h hl=>z9x rs ns ra na rc nc W 4 n.kids ka kc ⟨#[]⟩ [] rfl hI (by omega) (fun x hxm=>hrec x hxm 4) (exL ns i) ((i:Int)-1) hex.1 hKC w b k l hb h hk hk2 hl
 obtain⟨kn,hkn⟩:∃kn,n.kids.length=kn:=⟨_,rfl⟩;obtain⟨J,hJ⟩:∃J,joinT [] (n.kids.map (pX ns (nmOf rs) cxN 4))=J:=⟨_,rfl⟩;rw[hJ] at HJ hl ⊢;rw[hkn] at HJ ⊢;have hsx:sufX n.op=63:=by rw[hop];rfl
 rw[hsx] at hl ⊢;have hl1:l.length+J.length<=1000000:=by rw[List.length_append] at hl;omega
 have hl2:(l++J).length<=2000000:=by rw[List.length_append];omega
 have HSG:=Lib.hid fun(V:World) (hV:Below W.heap.size W V)=>hS.kept hV (Nat.le_refl _)
 clear hprog hKC hI hkl hrec hm hJ hk hk2 hl hS hsx;rw[hop];have HOP:=Lib.hid hop;clear hop;have hn2:=zaa w (.cells #[.int .i64 7,.slice ka kn kc,.int .i64 n.rule,.int .u64 n.s0,.int .u64 n.s1,.int .u64 n.s2,.int .u64 n.s3] 54);have HX:=Lib.hid (Bl.new w 54 #[.int .i64 7,.slice ka kn kc,.int .i64 n.rule,.int .u64 n.s0,.int .u64 n.s1,.int .u64 n.s2,.int .u64 n.s3]);have HP1:=Lib.hid (h.grown hn2);have HK1:=Lib.hid (Kp.of_below (base:=W.heap.size) (xb:=b) (yb:=b) (t1:=5) hn2);have HB1:=Lib.hid (hb.trans (hn2.mono hW));have hz1:=hn2.size;have hbl:=h.lt;have HBb:=Lib.hid h.le;go_enter Tryz.func54,Tryz.ntmps54
 go_upto_region 1 with fail
 obtain⟨W1,hW1⟩:∃W1,w.alloc (.cells #[.int .i64 7,.slice ka kn kc,.int .i64 n.rule,.int .u64 n.s0,.int .u64 n.s1,.int .u64 n.s2,.int .u64 n.s3] 54)=W1:=⟨_,rfl⟩;rw[hW1] at HX HP1 HK1 HB1 hz1 ⊢;obtain⟨X,hXq⟩:∃X,w.heap.size=X:=⟨_,rfl⟩;rw[hXq] at HX hz1 hbl hW ⊢;have hxb:X≠b:=by omega
 have hBW:W.heap.size<=W1.heap.size:=by omega
 clear hW1 hn2 hXq h hb;have x0:=HX.out.cell (o:=0) (u:=.int .i64 7) rfl;have x1:=HX.out.cell (o:=1) (u:=.slice ka kn kc) rfl;have x2:=HX.out.cell (o:=2) (u:=.int .i64 n.rule) rfl;have x3:=HX.out.cell (o:=3) (u:=.int .u64 n.s0) rfl;have x4:=HX.out.cell (o:=4) (u:=.int .u64 n.s1) rfl;have x5:=HX.out.cell (o:=5) (u:=.int .u64 n.s2) rfl;have x6:=HX.out.cell (o:=6) (u:=.int .u64 n.s3) rfl;have xl:=HX.out.lt
 go_upto_region 16 with(go_at_call 87;(with_reducible refine(HJ.out _ _ HB1.out HP1.out hl1).mono ?_);rintro e w2 ⟨rfl,hp2,hk2⟩;have HX2:=hk2.bl HX.out hxb hxb (by decide);have HP2:=Lib.hid hp2;have HK2:=Lib.hid (HK1.out.trans hk2);have HB2:=Lib.hid (HB1.out.trans (hk2.below HBb.out HBb.out hBW));have hz2:=hk2.size;clear hp2 hk2)
 clear x0 x1 x2 x3 x4 x5 x6 xl;have hzd:W.heap.size<=w2.drew.heap.size:=Nat.le_trans hBW hz2;have x0:=HX2.cell (o:=0) (u:=.int .i64 7) rfl;have sg:=(HSG.out _ HB2.out).2.2.1;have xl:=HX2.lt;clear HX2;go_wp2
 go_region_with (go_at_call 29;(with_reducible refine(z99 _ b _ _ _ _ 63 63 rfl _ HP2.out.drew (by decide) hl2 hzd).mono ?_);rintro e w3 ⟨rfl,hp3,hk3⟩;have HP3:=Lib.hid hp3;have HK3:=Lib.hid (HK2.out.trans ((Kp.of_below (base:=W.heap.size) (xb:=b) (yb:=b) (t1:=5) (zpw _)).trans hk3));clear hp3 hk3)
 all_goals
  go_wp2
  go_end0
  exact⟨rfl,by rw[<-List.append_assoc];exact HP3.out,HK3.out⟩
theorem yaje (rs:List PR)(ns:List PN)(ra na:Option Addr)(rc nc:Nat)(W:World)(i:Nat)(n:PN)(hn:ns[i]?=some n)(hx:AllEx ns)(hop:n.op=8)(hm:∀(i:Nat) (n:PN),ns[i]?=some n->∃R,madeB n R=true)(hkl:n.kids.length<=10000)(hrec:∀x,x ∈ n.kids->∀p,NodeC rs ns ra na rc nc W x p)(hS:SgnAt W):BareC rs ns ra na rc nc W i n:=by
 intro ka kc w b k l hI hb h hk hk2 hl;have hW:W.heap.size<=w.heap.size:=hb.size;have hex:-1<=exL ns i/\exL ns i<i:=by
  have hil:=(List.getElem?_eq_some_iff.1 hn).1;have:=zj5 ns i (hx i (by omega) (by omega));exact⟨this.1,this.2.1⟩
 have hprog:=z9s (nm:=nmOf rs) (cx:=cxN) hx.kids hm hn;rw[hprog.2.2.1 (by omega)] at hl ⊢;have hKC:=kc_of hx hn;have HJ:=Lib.hid fun w l hb h hl=>z9x rs ns ra na rc nc W 3 n.kids ka kc ⟨#[]⟩ [] rfl hI (by omega) (fun x hxm=>hrec x hxm 3) (exL ns i) ((i:Int)-1) hex.1 hKC w b k l hb h hk hk2 hl
 obtain⟨kn,hkn⟩:∃kn,n.kids.length=kn:=⟨_,rfl⟩;obtain⟨J,hJ⟩:∃J,joinT [] (n.kids.map (pX ns (nmOf rs) cxN 3))=J:=⟨_,rfl⟩;rw[hJ] at HJ hl ⊢;rw[hkn] at HJ ⊢;have hsx:preX n.op=38:=by rw[hop];rfl
 rw[hsx] at hl ⊢;have hl1:(l++[38]).length+J.length<=1000000:=by rw[List.length_cons] at hl;rw[List.length_append,List.length_singleton];omega
 have hl2:l.length<=2000000:=by rw[List.length_cons] at hl;omega
 have HSG:=Lib.hid fun(V:World) (hV:Below W.heap.size W V)=>hS.kept hV (Nat.le_refl _)
 clear hprog hKC hI hkl hrec hm hJ hk hk2 hl hS hsx;rw[hop];have HOP:=Lib.hid hop;clear hop;have hn2:=zaa w (.cells #[.int .i64 8,.slice ka kn kc,.int .i64 n.rule,.int .u64 n.s0,.int .u64 n.s1,.int .u64 n.s2,.int .u64 n.s3] 54);have HX:=Lib.hid (Bl.new w 54 #[.int .i64 8,.slice ka kn kc,.int .i64 n.rule,.int .u64 n.s0,.int .u64 n.s1,.int .u64 n.s2,.int .u64 n.s3]);have HP1:=Lib.hid (h.grown hn2);have HK1:=Lib.hid (Kp.of_below (base:=W.heap.size) (xb:=b) (yb:=b) (t1:=5) hn2);have HB1:=Lib.hid (hb.trans (hn2.mono hW));have hz1:=hn2.size;have hbl:=h.lt;have HBb:=Lib.hid h.le;go_enter Tryz.func54,Tryz.ntmps54
 go_upto_region 1 with fail
 obtain⟨W1,hW1⟩:∃W1,w.alloc (.cells #[.int .i64 8,.slice ka kn kc,.int .i64 n.rule,.int .u64 n.s0,.int .u64 n.s1,.int .u64 n.s2,.int .u64 n.s3] 54)=W1:=⟨_,rfl⟩;rw[hW1] at HX HP1 HK1 HB1 hz1 ⊢;obtain⟨X,hXq⟩:∃X,w.heap.size=X:=⟨_,rfl⟩;rw[hXq] at HX hz1 hbl hW ⊢;have hxb:X≠b:=by omega
 have hBW:W.heap.size<=W1.heap.size:=by omega
 clear hW1 hn2 hXq h hb;have x0:=HX.out.cell (o:=0) (u:=.int .i64 8) rfl;have x1:=HX.out.cell (o:=1) (u:=.slice ka kn kc) rfl;have x2:=HX.out.cell (o:=2) (u:=.int .i64 n.rule) rfl;have x3:=HX.out.cell (o:=3) (u:=.int .u64 n.s0) rfl;have x4:=HX.out.cell (o:=4) (u:=.int .u64 n.s1) rfl;have x5:=HX.out.cell (o:=5) (u:=.int .u64 n.s2) rfl;have x6:=HX.out.cell (o:=6) (u:=.int .u64 n.s3) rfl;have xl:=HX.out.lt;have sg:=(HSG.out _ HB1.out).2.2.2.1;have hzd:W.heap.size<=W1.drew.heap.size:=hBW;go_wp2
 go_region_with (go_at_call 29;(with_reducible refine(z99 _ b _ _ _ _ 38 38 rfl _ HP1.out.drew (by decide) hl2 hzd).mono ?_);rintro e w2 ⟨rfl,hp2,hk2⟩;replace hk2:=(Kp.of_below (base:=W.heap.size) (xb:=b) (yb:=b) (t1:=5) (zpw _)).trans hk2;have HX2:=hk2.bl HX.out hxb hxb (by decide);have HP2:=Lib.hid hp2;have HK2:=Lib.hid (HK1.out.trans hk2);have HB2:=Lib.hid (HB1.out.trans (hk2.below HBb.out HBb.out hBW));clear hp2 hk2)
 all_goals
  clear x0 x1 x2 x3 x4 x5 x6 xl sg;have x1:=HX2.cell (o:=1) (u:=.slice ka kn kc) rfl;have xl:=HX2.lt
  go_wp2_with (go_at_call 87;(with_reducible refine(HJ.out _ _ HB2.out HP2.out hl1).mono ?_);rintro e w3 ⟨rfl,hp3,hk3⟩;have HP3:=Lib.hid hp3;have HK3:=Lib.hid (HK2.out.trans hk3);clear hp3 hk3)
  go_end0
  refine⟨rfl,?_,HK3.out⟩;have e:l++38::J=l++[38]++J:=by simp
  rw[e];exact HP3.out
theorem yajf (rs:List PR)(ns:List PN)(ra na:Option Addr)(rc nc:Nat)(W:World)(i:Nat)(n:PN)(hn:ns[i]?=some n)(hx:AllEx ns)(hop:n.op=9)(hm:∀(i:Nat) (n:PN),ns[i]?=some n->∃R,madeB n R=true)(hkl:n.kids.length<=10000)(hrec:∀x,x ∈ n.kids->∀p,NodeC rs ns ra na rc nc W x p)(hS:SgnAt W):BareC rs ns ra na rc nc W i n:=by
 intro ka kc w b k l hI hb h hk hk2 hl;have hW:W.heap.size<=w.heap.size:=hb.size;have hex:-1<=exL ns i/\exL ns i<i:=by
  have hil:=(List.getElem?_eq_some_iff.1 hn).1;have:=zj5 ns i (hx i (by omega) (by omega));exact⟨this.1,this.2.1⟩
 have hprog:=z9s (nm:=nmOf rs) (cx:=cxN) hx.kids hm hn;rw[hprog.2.2.1 (by omega)] at hl ⊢;have hKC:=kc_of hx hn;have HJ:=Lib.hid fun w l hb h hl=>z9x rs ns ra na rc nc W 3 n.kids ka kc ⟨#[]⟩ [] rfl hI (by omega) (fun x hxm=>hrec x hxm 3) (exL ns i) ((i:Int)-1) hex.1 hKC w b k l hb h hk hk2 hl
 obtain⟨kn,hkn⟩:∃kn,n.kids.length=kn:=⟨_,rfl⟩;obtain⟨J,hJ⟩:∃J,joinT [] (n.kids.map (pX ns (nmOf rs) cxN 3))=J:=⟨_,rfl⟩;rw[hJ] at HJ hl ⊢;rw[hkn] at HJ ⊢;have hsx:preX n.op=33:=by rw[hop];rfl
 rw[hsx] at hl ⊢;have hl1:(l++[33]).length+J.length<=1000000:=by rw[List.length_cons] at hl;rw[List.length_append,List.length_singleton];omega
 have hl2:l.length<=2000000:=by rw[List.length_cons] at hl;omega
 have HSG:=Lib.hid fun(V:World) (hV:Below W.heap.size W V)=>hS.kept hV (Nat.le_refl _)
 clear hprog hKC hI hkl hrec hm hJ hk hk2 hl hS hsx;rw[hop];have HOP:=Lib.hid hop;clear hop;have hn2:=zaa w (.cells #[.int .i64 9,.slice ka kn kc,.int .i64 n.rule,.int .u64 n.s0,.int .u64 n.s1,.int .u64 n.s2,.int .u64 n.s3] 54);have HX:=Lib.hid (Bl.new w 54 #[.int .i64 9,.slice ka kn kc,.int .i64 n.rule,.int .u64 n.s0,.int .u64 n.s1,.int .u64 n.s2,.int .u64 n.s3]);have HP1:=Lib.hid (h.grown hn2);have HK1:=Lib.hid (Kp.of_below (base:=W.heap.size) (xb:=b) (yb:=b) (t1:=5) hn2);have HB1:=Lib.hid (hb.trans (hn2.mono hW));have hz1:=hn2.size;have hbl:=h.lt;have HBb:=Lib.hid h.le;go_enter Tryz.func54,Tryz.ntmps54
 go_upto_region 1 with fail
 obtain⟨W1,hW1⟩:∃W1,w.alloc (.cells #[.int .i64 9,.slice ka kn kc,.int .i64 n.rule,.int .u64 n.s0,.int .u64 n.s1,.int .u64 n.s2,.int .u64 n.s3] 54)=W1:=⟨_,rfl⟩;rw[hW1] at HX HP1 HK1 HB1 hz1 ⊢;obtain⟨X,hXq⟩:∃X,w.heap.size=X:=⟨_,rfl⟩;rw[hXq] at HX hz1 hbl hW ⊢;have hxb:X≠b:=by omega
 have hBW:W.heap.size<=W1.heap.size:=by omega
 clear hW1 hn2 hXq h hb;have x0:=HX.out.cell (o:=0) (u:=.int .i64 9) rfl;have x1:=HX.out.cell (o:=1) (u:=.slice ka kn kc) rfl;have x2:=HX.out.cell (o:=2) (u:=.int .i64 n.rule) rfl;have x3:=HX.out.cell (o:=3) (u:=.int .u64 n.s0) rfl;have x4:=HX.out.cell (o:=4) (u:=.int .u64 n.s1) rfl;have x5:=HX.out.cell (o:=5) (u:=.int .u64 n.s2) rfl;have x6:=HX.out.cell (o:=6) (u:=.int .u64 n.s3) rfl;have xl:=HX.out.lt;have sg:=(HSG.out _ HB1.out).2.2.2.2;have hzd:W.heap.size<=W1.drew.heap.size:=hBW;go_wp2
 go_region_with (go_at_call 29;(with_reducible refine(z99 _ b _ _ _ _ 33 33 rfl _ HP1.out.drew (by decide) hl2 hzd).mono ?_);rintro e w2 ⟨rfl,hp2,hk2⟩;replace hk2:=(Kp.of_below (base:=W.heap.size) (xb:=b) (yb:=b) (t1:=5) (zpw _)).trans hk2;have HX2:=hk2.bl HX.out hxb hxb (by decide);have HP2:=Lib.hid hp2;have HK2:=Lib.hid (HK1.out.trans hk2);have HB2:=Lib.hid (HB1.out.trans (hk2.below HBb.out HBb.out hBW));clear hp2 hk2)
 all_goals
  clear x0 x1 x2 x3 x4 x5 x6 xl sg;have x1:=HX2.cell (o:=1) (u:=.slice ka kn kc) rfl;have xl:=HX2.lt
  go_wp2_with (go_at_call 87;(with_reducible refine(HJ.out _ _ HB2.out HP2.out hl1).mono ?_);rintro e w3 ⟨rfl,hp3,hk3⟩;have HP3:=Lib.hid hp3;have HK3:=Lib.hid (HK2.out.trans hk3);clear hp3 hk3)
  go_end0
  refine⟨rfl,?_,HK3.out⟩;have e:l++33::J=l++[33]++J:=by simp
  rw[e];exact HP3.out
end
section
open Go.RowKit
theorem KC.few {ns:List PN}:∀ {ks:List Int} {a b:Int},-1<=a->KC ns a ks b->(ks.length:Int)<=b-a
 | [],a,b,_,h=>by obtain rfl:a=b:=h;simp
 |k::ks,a,b,ha,⟨h1,h2,h3,h4⟩=>by
  have:=zj5 ns k (by omega);have:=KC.few (by omega) h4;rw[List.length_cons];omega
theorem yabs (rs:List PR)(ns:List PN)(ra na:Option Addr)(rc nc:Nat)(W:World)(hk:chkL rs ns=.ok)(hw:∀n,n ∈ ns->z87 n)(hN:NodesAt W (.slice na ns.length nc) ns)(hR:RulesIn W (.slice ra rs.length rc) rs)(hS:SgnAt W) :
  ∀(m i:Nat) (p:Int),i<m->i<ns.length->NodeC rs ns ra na rc nc W (i:Int) p
 |0,i,_,h,_=>by omega
 |m+1,i,p,him,hi=>by
  obtain⟨n,hn⟩:∃n,ns[i]?=some n:=⟨_,List.getElem?_eq_getElem hi⟩;obtain⟨hr1,hn1,-,-,h5,h6,-⟩:=z3k hk;have hx:=zuh h6;have hkb:=hx.kids;have hmade:∀(i:Nat) (n:PN),ns[i]?=some n->∃R,madeB n R=true:=fun i n hn=>by
   have hi:=(List.getElem?_eq_some_iff.1 hn).1;have:=h5 i hi;unfold zbv at this;rw[hn] at this;exact⟨rs.length,by simpa using this⟩
  have hmn:madeB n rs.length=true:=by
   have:=h5 i hi;unfold zbv at this;rw[hn] at this;simpa using this
  have hrec:∀x,x ∈ n.kids->∀p,NodeC rs ns ra na rc nc W x p:=fun x hxm p=>by
   have:=hkb i n hn x hxm;have h:=yabs rs ns ra na rc nc W hk hw hN hR hS m x.toNat p (by omega) (by omega);rwa [Int.toNat_of_nonneg this.1] at h
  have hkl:n.kids.length<=10000:=by
   have h0:=zj5 ns i (hx i (by omega) (by omega));have hkd:=(kc_of hx hn).few h0.1;omega
  refine yad2 rs ns ra na rc nc W i p n hn (yaen hmn) hx hN ?_;rcases z9h hmn with⟨h0,e⟩|⟨h1,hks,-⟩|⟨h2,hks,h0,hr,-⟩|⟨h34,-,-⟩|⟨h59,-⟩
  ·exact yaf6 rs ns ra na rc nc W i n hn hx h0 (by rw[e];rfl)
  ·exact yaf7 rs ns ra na rc nc W i n hn hx h1 hks (hw n (List.mem_of_getElem? hn))
  ·obtain⟨r,hr2⟩:∃r,rs[n.rule.toNat]?=some r:=⟨_,List.getElem?_eq_getElem (by omega)⟩
   exact yahp rs ns ra na rc nc W i n hn hx h2 hks r n.rule.toNat (by omega) hr2 hR
  ·rcases h34 with h|h
   ·exact yajc rs ns ra na rc nc W i n hn hx h hmade hkl hrec
   ·exact yaes rs ns ra na rc nc W i n hn hx h hmade hkl hrec
  ·rcases(by omega:n.op=5∨n.op=6∨n.op=7∨n.op=8∨n.op=9) with h|h|h|h|h
   ·exact yahq rs ns ra na rc nc W i n hn hx h hmade hkl hrec hS
   ·exact yahr rs ns ra na rc nc W i n hn hx h hmade hkl hrec hS
   ·exact yajd rs ns ra na rc nc W i n hn hx h hmade hkl hrec hS
   ·exact yaje rs ns ra na rc nc W i n hn hx h hmade hkl hrec hS
   ·exact yajf rs ns ra na rc nc W i n hn hx h hmade hkl hrec hS
theorem z9z (rv nv:Value)(ra na:Option Addr)(rn rc nn nc:Nat)(hrv:rv=.slice ra rn rc)(hnv:nv=.slice na nn nc)(w:World) :
  Calls Tryz.prog 27 #[.agg #[rv,nv]] w fun e w'=>∃b,e=.returned (.pointer (some ⟨b,0,none⟩))/\Pw w.heap.size b rv nv 10000 [] w'/\Below w.heap.size w w':=by
 subst hrv hnv;go_enter Tryz.func27,Tryz.ntmps27;go_wp2;go_ret;have hb:Bl ((w.alloc (.cells #[.slice ra rn rc,.slice na nn nc] 25)).alloc (.cells #[.slice ra rn rc,.slice na nn nc,.pointer none,.slice none 0 0,.int .i64 10000] 75)) (w.heap.size+1) 75 #[.slice ra rn rc,.slice na nn nc,.pointer none,.slice none 0 0,.int .i64 ((10000:Nat):Int)]:=by
  have:=Bl.new (w.alloc (.cells #[.slice ra rn rc,.slice na nn nc] 25)) 75 #[.slice ra rn rc,.slice na nn nc,.pointer none,.slice none 0 0,.int .i64 10000];rw[World.size_alloc] at this;exact this
 exact⟨w.heap.size+1,rfl,⟨fun x hx=>(List.not_mem_nil hx).elim,.inl ⟨by omega,.slice none 0 0,hb,World.ownsRow_nil _ _ _ _⟩⟩,(zaa _ _).trans ((zaa _ _).mono (by simp))⟩
theorem yajg (b:Bool)(l:List Nat):l.length<=(parX b l).length:=by
 cases b
 ·exact Nat.le_refl _
 ·show l.length<=([40]++l++[41]).length
  rw[List.length_append,List.length_append];omega
theorem yaal {rs:List PR}{ns:List PN}(hk:chkL rs ns=.ok){i:Nat}(hi:i<ns.length):pX ns (nmOf rs) cxN 0 (i:Int)=tx ns (nmOf rs) cxN 0 (i:Int)/\tx ns (nmOf rs) cxN 0 (i:Int)≠[] /\ -1<=exL ns i/\exL ns i<i:=by
 obtain⟨-,-,-,h4,h5,h6,-⟩:=z3k hk;have hx:=zuh h6;obtain⟨n,hn⟩:∃n,ns[i]?=some n:=⟨_,List.getElem?_eq_getElem hi⟩;have hmn:madeB n rs.length=true:=by
  have:=h5 i hi;unfold zbv at this;rw[hn] at this;simpa using this
 have hp:=(pX_tx (nm:=nmOf rs) (cx:=cxN) hx.kids (i:=(i:Int)) (by omega) (by rw[Int.toNat_natCast];exact hn) (yaen hmn)).1;have hex:=zj5 ns i (hx i (by omega) (by omega));refine⟨hp,?_,hex.1,hex.2.1⟩;intro e;have hl:=congrArg List.length e;rw[tx_eq hx.kids hn] at hl;have hge:=yajg (parB n.op 0) (inX ns (nmOf rs) cxN n (tx ns (nmOf rs) cxN));rw[hl,List.length_nil] at hge;have h0:=List.length_eq_zero_iff.1 (Nat.le_zero.1 hge);have hprog:=z9s (nm:=nmOf rs) (cx:=cxN) hx.kids (fun i n hn=>by
  have hi:=(List.getElem?_eq_some_iff.1 hn).1;have:=h5 i hi;unfold zbv at this;rw[hn] at this;exact⟨rs.length,by simpa using this⟩) hn
 have two:∀(sep:List Nat) (l:List (List Nat)),2<=l.length->sep≠[]->joinT sep l≠[]:=fun sep l h2 hs h=>by
  match l,h2 with
  |x::y::r,_=>
   rw[z9g] at h;have:=congrArg List.length h;rw[List.length_append,List.length_append,List.length_nil] at this;exact hs (List.length_eq_zero_iff.1 (by omega))
 rcases z9h hmn with⟨h,-⟩|⟨h,-,-⟩|⟨h,hks,hr0,hr,-⟩|⟨h34,hk2,-⟩|⟨h59,-⟩
 ·rw[yaaj.1 h] at h0;cases h0
 ·rw[yaaj.2.1 h] at h0
  unfold cxN clsX at h0;split at h0
  ·cases h0
  ·split at h0<;>cases h0
 ·rw[yaaj.2.2 h] at h0
  have:=h4 n.rule.toNat (by omega);obtain⟨r,hr2⟩:∃r,rs[n.rule.toNat]?=some r:=⟨_,List.getElem?_eq_getElem (by omega)⟩;unfold nmOf at h0;rw[hr2] at h0;unfold zbp at this;rw[hr2] at this;have hnm:nameB (bts r.name)=true:=by
   simp at this;exact this.2
  rw[show bts r.name=[] from h0] at hnm;cases hnm
 ·rcases h34 with h|h
  ·rw[hprog.1 h] at h0
   exact two _ _ (by rw[List.length_map];exact hk2) (by decide) h0
  ·rw[hprog.2.1 h] at h0
   exact two _ _ (by rw[List.length_map];exact hk2) (by decide) h0
 ·by_cases h8:n.op=8∨n.op=9
  ·rw[hprog.2.2.1 h8] at h0;cases h0
  ·rw[hprog.2.2.2 (by omega)] at h0
   have:=congrArg List.length h0;rw[List.length_append,List.length_singleton] at this;cases this
theorem yabd (rs:List PR)(ns:List PN)(ra na:Option Addr)(rc nc i:Nat)(W:World)(hS:SgnAt W)(hk:chkL rs ns=.ok)(hw:∀n,n ∈ ns->z87 n)(hi:i<ns.length)(hl:(tx ns (nmOf rs) cxN 0 (i:Int)).length<=1000000)(hN:NodesAt W (.slice na ns.length nc) ns)(hR:RulesIn W (.slice ra rs.length rc) rs) :
  Calls Tryz.prog 12 #[.agg #[.slice ra rs.length rc,.slice na ns.length nc],.int .i64 (i:Int)] W fun e w'=>e=.returned (.string (strOf (tx ns (nmOf rs) cxN 0 (i:Int))))/\Below W.heap.size W w':=by
 obtain⟨hp0,hne,he1,he2⟩:=yaal hk hi;have hb0:=zaa W (.cells #[.slice ra rs.length rc,.slice na ns.length nc] 25);have hC:=yabs rs ns ra na rc nc _ hk hw (hN.kept hb0 (Nat.le_refl _)) (hR.kept hb0 (Nat.le_refl _)) (hS.kept hb0 (Nat.le_refl _)) (i+1) i 0 (Nat.lt_succ_self _) hi;unfold NodeC at hC;rw[hp0] at hC;have hn1:ns.length<=10000:=(z3k hk).2.1;have hek:(i:Int)-exL ns i<=((10000:Nat):Int):=by omega
 have hll:([]:List Nat).length+(tx ns (nmOf rs) cxN 0 (i:Int)).length<=1000000:=by simpa using hl
 have HNW:=Lib.hid fun V=>z9z _ _ ra na rs.length rc ns.length nc rfl rfl V
 have HB0:=Lib.hid hb0;have HC:=Lib.hid hC;have HF:=Lib.hid (And.intro hek hll);obtain⟨T,hT⟩:∃T,tx ns (nmOf rs) cxN 0 (i:Int)=T:=⟨_,rfl⟩;rw[hT] at HC hne hl HF ⊢;have HT:=Lib.hid (And.intro hne (show T.length<=2000000 by omega));clear hC hb0 hS hk hw hi hl hN hR hp0 hne he1 he2 hn1 hek hll hT;obtain⟨rn,hrn⟩:∃rn,rs.length=rn:=⟨_,rfl⟩;obtain⟨nn,hnn⟩:∃nn,ns.length=nn:=⟨_,rfl⟩;rw[hrn,hnn] at HNW HC HB0 ⊢;clear hrn hnn;go_enter Tryz.func12,Tryz.ntmps12
 go_upto_region 1 with fail
 obtain⟨W0,hW0⟩:∃W0,W.alloc (.cells #[.slice ra rn rc,.slice na nn nc] 25)=W0:=⟨_,rfl⟩;rw[hW0] at HC HB0 ⊢;have g0:W0.cell? ⟨W.heap.size,0,none⟩=some (.slice ra rn rc):=by rw[<-hW0];exact(Bl.new W 25 #[.slice ra rn rc,.slice na nn nc]).cell rfl
 have g1:W0.cell? ⟨W.heap.size,1,none⟩=some (.slice na nn nc):=by rw[<-hW0];exact(Bl.new W 25 #[.slice ra rn rc,.slice na nn nc]).cell rfl
 have gl:W.heap.size<W0.heap.size:=by rw[<-hW0];exact(Bl.new W 25 #[.slice ra rn rc,.slice na nn nc]).lt
 clear hW0
 go_wp2_with (first
  |(go_at_call 27;(with_reducible refine(HNW.out _).mono ?_);rintro e w1 ⟨b,rfl,hp1,hb1⟩;have HP1:=Lib.hid hp1;have HB1:=Lib.hid hb1;clear hp1 hb1)
  |(go_at_call 31;(with_reducible refine(HC.out _ _ _ _ HB1.out HP1.out HF.out.1 (Nat.le_refl _) HF.out.2).mono ?_);rintro e w2 ⟨rfl,hp2,hk2⟩;rw[List.nil_append] at hp2;have HP2:=Lib.hid hp2;have HB2:=Lib.hid (HB1.out.trans (hk2.below HP1.out.le HP1.out.le HB1.out.size));clear hp2 hk2)
  |(go_at_call 30;(with_reducible refine(yaat _ _ _ _ _ T _ HP2.out HT.out.1 HT.out.2).mono ?_);rintro e w3 ⟨rfl,hb3⟩;have HB3:=Lib.hid (HB2.out.trans hb3);clear hb3))
 go_ret;exact⟨rfl,HB0.out.trans (HB3.out.mono HB0.out.size)⟩
theorem yad7 (rs:List PR)(ns:List PN)(ra na:Option Addr)(rc nc:Nat)(W:World)(m:Nat)(r:PR)(hr:rs[m]?=some r)(q:Nat)(hq:r.root=(q:Int))(hR:RulesIn W (.slice ra rs.length rc) rs)(T:List Nat)(hC:∀(w:World) (b k:Nat) (l:List Nat),Below W.heap.size W w->Pw W.heap.size b (.slice ra rs.length rc) (.slice na ns.length nc) k l w->(q:Int)-exL ns q<=(k:Int)->k<=10000->l.length+T.length<=1000000 ->
   Calls Tryz.prog 31 #[.pointer (some ⟨b,0,none⟩),.int .i64 (q:Int),.int .i64 0] w fun e w'=>e=.returned (.tuple #[])/\Pw W.heap.size b (.slice ra rs.length rc) (.slice na ns.length nc) (k-((q:Int)-exL ns q).toNat) (l++T) w'/\KW W.heap.size b w w')
  (w:World) (b k:Nat) (l:List Nat) (hb:Below W.heap.size W w) (h:Pw W.heap.size b (.slice ra rs.length rc) (.slice na ns.length nc) k l w) (hk:(q:Int)-exL ns q<=(k:Int)) (hk2:k<=10000) (hl:(l++(bts r.name++([32,60,45,32]++T))).length<=1000000) :
  Calls Tryz.prog 28 #[.pointer (some ⟨b,0,none⟩),.int .i64 (m:Int)] w fun e w'=>e=.returned (.tuple #[])/\Pw W.heap.size b (.slice ra rs.length rc) (.slice na ns.length nc) (k-((q:Int)-exL ns q).toNat) (l++(bts r.name++([32,60,45,32]++T))) w'/\KW W.heap.size b w w':=by
 obtain⟨rb,ro,rfl,r0,r1⟩:=yacf hR hr;have hml:=(List.getElem?_eq_some_iff.1 hr).1;rw[hq] at r1;have hlt0:=zai r0;have hlt1:=zai r1;have d0:=((bcell hb).1 rb (ro+m*2) hlt0).trans r0;have HD1:=Lib.hid fun(V:World) (hV:Below W.heap.size W V)=>((bcell hV).1 rb (ro+m*2+1) hlt1).trans r1
 have g0:=h.cell0;have gl:=h.lt;have hW:W.heap.size<=w.heap.size:=hb.size;rw[List.length_append,List.length_append,List.length_append,show([32,60,45,32]:List Nat).length=4 from rfl] at hl;obtain⟨nm,hnm⟩:∃nm,r.name=nm:=⟨_,rfl⟩;rw[hnm] at d0 hl ⊢;have hnl:(bts nm).length=nm.size:=zaj nm;obtain⟨rn,hrn⟩:∃rn,rs.length=rn:=⟨_,rfl⟩;rw[hrn] at g0 h hml hC ⊢;have k1:¬(m:Int)<(0:Int):=by omega
 have k3:(0:Int)<=(m:Int):=by omega
 have k2:¬(rn:Int)<=(m:Int):=by omega
 have k4:(m:Int)<(rn:Int):=by omega
 have hl2:l.length+nm.size<=2000000:=by omega
 have hWd:W.heap.size<=w.drew.heap.size:=hW;have hl3:(l++bts nm).length+(⟨#[32,60,45,32]⟩:ByteArray).size<=2000000:=by rw[List.length_append];show _+4<=_;omega
 have hl4:(l++bts nm++[32,60,45,32]).length+T.length<=1000000:=by rw[List.length_append,List.length_append,show([32,60,45,32]:List Nat).length=4 from rfl];omega
 have hbt:bts ⟨#[32,60,45,32]⟩=[32,60,45,32]:=rfl;have HP:=Lib.hid h;have HL:=Lib.hid (And.intro hl2 (And.intro hl3 hl4));have HBT:=Lib.hid hbt;have HB:=Lib.hid hb;have HC:=Lib.hid hC;have HK:=Lib.hid (And.intro hk hk2);have HBb:=Lib.hid h.le;clear r0 r1 hlt0 hlt1 hr hR hb h hl hl2 hl3 hl4 hbt hnm hnl hrn hml hC hk hk2 hq;go_enter Tryz.func28,Tryz.ntmps28;go_wp2
 go_region_with (go_at_call 40;(with_reducible refine(yaai _ b _ _ _ _ nm _ HP.out.drew HL.out.1 hWd).mono ?_);rintro e w1 ⟨rfl,hp1,hk1⟩;replace hk1:=(Kp.of_below (base:=W.heap.size) (xb:=b) (yb:=b) (t1:=5) (zpw _)).trans hk1;have HP1:=Lib.hid hp1;have HK1:=Lib.hid hk1;have HB1:=Lib.hid (HB.out.trans (hk1.below HBb.out HBb.out hW));have hz1:=HB1.out.size;clear hp1 hk1)
 all_goals
  clear g0 gl d0
  go_upto_region 3 with(go_at_call 40;(with_reducible refine(yaai _ b _ _ _ _ ⟨#[32,60,45,32]⟩ _ HP1.out HL.out.2.1 hz1).mono ?_);rintro e w2 ⟨rfl,hp2,hk2⟩;rw[HBT.out] at hp2;have HP2:=Lib.hid hp2;have HK2:=Lib.hid (HK1.out.trans hk2);have HB2:=Lib.hid (HB1.out.trans (hk2.below HBb.out HBb.out hz1));clear hp2 hk2)
  have g0:=HP2.out.cell0;have gl:=HP2.out.lt;have d1:=HD1.out _ HB2.out
  go_wp2_with (go_at_call 31;(with_reducible refine(HC.out _ _ _ _ HB2.out HP2.out HK.out.1 HK.out.2 HL.out.2.2).mono ?_);rintro e w3 ⟨rfl,hp3,hk3⟩;have HP3:=Lib.hid hp3;have HK3:=Lib.hid (HK2.out.trans hk3);clear hp3 hk3)
  go_end0
  refine⟨rfl,?_,HK3.out⟩;have hp:=HP3.out;have e:l++bts nm++[32,60,45,32]++T=l++(bts nm++32::60::45::32::T):=by simp
  rw[e] at hp;exact hp
theorem z9t {rs:List PR}{ns:List PN}(hk:chkL rs ns=.ok){r:PR}(hr:r ∈ rs):∃j:Nat,r.root=(j:Int)/\j<ns.length:=by
 obtain⟨-,-,-,-,-,h6,-⟩:=z3k hk;have key:∀(l:List PR) (b:Int),ordR ns l b=true->∀r,r ∈ l->b<r.root/\r.root<ns.length:=by
  intro l
  induction l with
  |nil=>intro b _ r hr;cases hr
  |cons x t ih=>
   intro b h r hr;obtain⟨h1,h2,h3,h4⟩:=zuf h;rcases List.mem_cons.1 hr with rfl|hr
   ·exact⟨h1,h2⟩
   ·have:=ih _ h4 r hr
    exact⟨by omega,this.2⟩
 have:=key rs (-1) h6 r hr;exact⟨r.root.toNat,by omega,by omega⟩
theorem yacy (rs:List PR)(ns:List PN)(ra na:Option Addr)(rc nc m:Nat)(r:PR)(W:World)(hS:SgnAt W)(hk:chkL rs ns=.ok)(hw:∀n,n ∈ ns->z87 n)(hr:rs[m]?=some r)(hl:(tx ns (nmOf rs) cxN 0 r.root).length<=900000)(hnl:r.name.size<=1000)(hN:NodesAt W (.slice na ns.length nc) ns)(hR:RulesIn W (.slice ra rs.length rc) rs) :
  Calls Tryz.prog 14 #[.agg #[.slice ra rs.length rc,.slice na ns.length nc],.int .i64 (m:Int)] W fun e w'=>e=.returned (.string (strOf (bts r.name++([32,60,45,32]++tx ns (nmOf rs) cxN 0 r.root))))/\Below W.heap.size W w':=by
 obtain⟨q,hq,hqi⟩:=z9t hk (List.mem_of_getElem? hr);rw[hq] at hl ⊢;obtain⟨hp0,-,he1,he2⟩:=yaal hk hqi;have hb0:=zaa W (.cells #[.slice ra rs.length rc,.slice na ns.length nc] 25);have hC:=yabs rs ns ra na rc nc _ hk hw (hN.kept hb0 (Nat.le_refl _)) (hR.kept hb0 (Nat.le_refl _)) (hS.kept hb0 (Nat.le_refl _)) (q+1) q 0 (Nat.lt_succ_self _) hqi;unfold NodeC at hC;rw[hp0] at hC;have hn1:ns.length<=10000:=(z3k hk).2.1;have hek:(q:Int)-exL ns q<=((10000:Nat):Int):=by omega
 have hnb:(bts r.name).length<=1000:=by rw[zaj];exact hnl
 have hll:([]++(bts r.name++([32,60,45,32]++tx ns (nmOf rs) cxN 0 (q:Int)))).length<=1000000:=by
  rw[List.nil_append,List.length_append,List.length_append,show([32,60,45,32]:List Nat).length=4 from rfl];omega
 have HWR:=Lib.hid (yad7 rs ns ra na rc nc _ m r hr q hq (hR.kept hb0 (Nat.le_refl _)) _ hC);have HNW:=Lib.hid fun V=>z9z _ _ ra na rs.length rc ns.length nc rfl rfl V
 have HB0:=Lib.hid hb0;have HF:=Lib.hid (And.intro hek hll);obtain⟨T,hT⟩:∃T,bts r.name++([32,60,45,32]++tx ns (nmOf rs) cxN 0 (q:Int))=T:=⟨_,rfl⟩;have hne:T≠[]:=by
  rw[<-hT];intro e;have:=congrArg List.length e;rw[List.length_append,List.length_append,show([32,60,45,32]:List Nat).length=4 from rfl,List.length_nil] at this;omega
 rw[hT] at HWR HF ⊢;have HT:=Lib.hid (And.intro hne (show T.length<=2000000 by have:=HF.out.2;rw[List.nil_append] at this;omega));clear hC hb0 hS hk hw hr hl hN hR hp0 hne he1 he2 hn1 hek hll hT hnl hnb hq hqi;obtain⟨rn,hrn⟩:∃rn,rs.length=rn:=⟨_,rfl⟩;obtain⟨nn,hnn⟩:∃nn,ns.length=nn:=⟨_,rfl⟩;rw[hrn,hnn] at HNW HWR HB0 ⊢;clear hrn hnn;go_enter Tryz.func14,Tryz.ntmps14
 go_upto_region 1 with fail
 obtain⟨W0,hW0⟩:∃W0,W.alloc (.cells #[.slice ra rn rc,.slice na nn nc] 25)=W0:=⟨_,rfl⟩;rw[hW0] at HWR HB0 ⊢;have g0:W0.cell? ⟨W.heap.size,0,none⟩=some (.slice ra rn rc):=by rw[<-hW0];exact(Bl.new W 25 #[.slice ra rn rc,.slice na nn nc]).cell rfl
 have g1:W0.cell? ⟨W.heap.size,1,none⟩=some (.slice na nn nc):=by rw[<-hW0];exact(Bl.new W 25 #[.slice ra rn rc,.slice na nn nc]).cell rfl
 have gl:W.heap.size<W0.heap.size:=by rw[<-hW0];exact(Bl.new W 25 #[.slice ra rn rc,.slice na nn nc]).lt
 clear hW0
 go_wp2_with (first
  |(go_at_call 27;(with_reducible refine(HNW.out _).mono ?_);rintro e w1 ⟨b,rfl,hp1,hb1⟩;have HP1:=Lib.hid hp1;have HB1:=Lib.hid hb1;clear hp1 hb1)
  |(go_at_call 28;(with_reducible refine(HWR.out _ _ _ _ HB1.out HP1.out HF.out.1 (Nat.le_refl _) HF.out.2).mono ?_);rintro e w2 ⟨rfl,hp2,hk2⟩;rw[List.nil_append] at hp2;have HP2:=Lib.hid hp2;have HB2:=Lib.hid (HB1.out.trans (hk2.below HP1.out.le HP1.out.le HB1.out.size));clear hp2 hk2)
  |(go_at_call 30;(with_reducible refine(yaat _ _ _ _ _ T _ HP2.out HT.out.1 HT.out.2).mono ?_);rintro e w3 ⟨rfl,hb3⟩;have HB3:=Lib.hid (HB2.out.trans hb3);clear hb3))
 go_ret;exact⟨rfl,HB0.out.trans (HB3.out.mono HB0.out.size)⟩
theorem yacz {ns:List PN}{nm:Int->List Nat}{cx:PN->List Nat}{rs:List PR}{k:Nat}{r:PR}(h:rs[k]?=some r):fileX ns nm cx (rs.take (k+1))=fileX ns nm cx (rs.take k)++(bts r.name++([32,60,45,32]++tx ns nm cx 0 r.root))++[10]:=by
 rw[za3 rs k r h];unfold fileX;rw[List.flatMap_append,List.flatMap_cons,List.flatMap_nil,List.append_nil];simp
theorem yaf8 {ns:List PN}{nm:Int->List Nat}{cx:PN->List Nat}(rs:List PR)(k:Nat):(fileX ns nm cx (rs.take k)).length<=(fileX ns nm cx rs).length:=by
 conv=>rhs;rw[<-List.take_append_drop k rs]
 unfold fileX;rw[List.flatMap_append,List.length_append];omega
theorem z90 (rs:List PR)(ns:List PN)(ra na:Option Addr)(rc nc:Nat)(W:World)(hS:SgnAt W)(hk:chkL rs ns=.ok)(hw:∀n,n ∈ ns->z87 n)(hl:(z88 rs ns).length<=1000000)(hN:NodesAt W (.slice na ns.length nc) ns)(hR:RulesIn W (.slice ra rs.length rc) rs) :
  Calls Tryz.prog 10 #[.agg #[.slice ra rs.length rc,.slice na ns.length nc]] W fun e w'=>e=.returned (.string (strOf (z88 rs ns)))/\Below W.heap.size W w':=by
 have hb0:=zaa W (.cells #[.slice ra rs.length rc,.slice na ns.length nc] 25);have HWR:=Lib.hid fun(m:Nat) (r:PR) (hr:rs[m]?=some r) (q:Nat) (hq:r.root=(q:Int))=>yad7 rs ns ra na rc nc _ m r hr q hq (hR.kept hb0 (Nat.le_refl _)) (tx ns (nmOf rs) cxN 0 r.root) (by
  obtain⟨q',hq',hqi⟩:=z9t hk (List.mem_of_getElem? hr);obtain rfl:q=q':=by omega
  have hC:=yabs rs ns ra na rc nc _ hk hw (hN.kept hb0 (Nat.le_refl _)) (hR.kept hb0 (Nat.le_refl _)) (hS.kept hb0 (Nat.le_refl _)) (q+1) q 0 (Nat.lt_succ_self _) hqi;unfold NodeC at hC;rw[(yaal hk hqi).1] at hC;rw[hq];exact hC)
 have HNW:=Lib.hid fun V=>z9z _ _ ra na rs.length rc ns.length nc rfl rfl V
 have HB0:=Lib.hid hb0;have HRT:=Lib.hid fun(r:PR) (hr:r ∈ rs)=>z9t hk hr
 have hord:=(z3k hk).2.2.2.2.2.1;have hn1:ns.length<=10000:=(z3k hk).2.1;have hr1:rs.length<=1000:=(z3k hk).1;have hr0:0<rs.length:=(z3k hk).2.2.1;have hx:=zuh hord;have HEX:=Lib.hid hx;have HORD:=Lib.hid hord;have hne:z88 rs ns≠[]:=by
  obtain⟨r,hr⟩:∃r,rs[rs.length-1]?=some r:=⟨_,List.getElem?_eq_getElem (by omega)⟩;have h:=yacz (ns:=ns) (nm:=nmOf rs) (cx:=cxN) hr;rw[show rs.length-1+1=rs.length by omega,List.take_length] at h;intro e;unfold z88 at e;rw[e] at h;have:=congrArg List.length h;rw[List.length_append,List.length_nil,List.length_singleton] at this;omega
 have HT:=Lib.hid (And.intro hne (show(z88 rs ns).length<=2000000 by omega));unfold z88 at HT hl ⊢;obtain⟨F,hF⟩:∃F:List PR->List Nat,(fun l=>fileX ns (nmOf rs) cxN l)=F:=⟨_,rfl⟩;have hFa:∀l,fileX ns (nmOf rs) cxN l=F l:=fun l=>by rw[<-hF]
 have HNX:=Lib.hid fun(k:Nat) (r:PR) (h:rs[k]?=some r)=>yacz (ns:=ns) (nm:=nmOf rs) (cx:=cxN) h
 have HTK:=Lib.hid fun(k:Nat)=>yaf8 (ns:=ns) (nm:=nmOf rs) (cx:=cxN) rs k
 have hF0:F []=[]:=by rw[<-hFa];rfl
 simp only[hFa] at HNX HTK HT hl ⊢;have HL:=Lib.hid hl;have HF0:=Lib.hid hF0;clear hb0 hS hk hw hl hN hR hord hr0 hx hne hF hFa hF0;obtain⟨rn,hrn⟩:∃rn,rs.length=rn:=⟨_,rfl⟩;obtain⟨nn,hnn⟩:∃nn,ns.length=nn:=⟨_,rfl⟩;have HRN:=Lib.hid hrn;have HNN:=Lib.hid hnn;rw[hrn] at hr1 HNW HWR HB0 ⊢;rw[hnn] at hn1 HNW HWR HB0 ⊢;clear hrn hnn;go_enter Tryz.func10,Tryz.ntmps10
 go_upto_region 1 with fail
 obtain⟨W0,hW0⟩:∃W0,W.alloc (.cells #[.slice ra rn rc,.slice na nn nc] 25)=W0:=⟨_,rfl⟩;rw[hW0] at HWR HB0 ⊢;have HG:=Lib.hid (Bl.new W 25 #[.slice ra rn rc,.slice na nn nc]);rw[hW0] at HG;have g0:=HG.out.cell (o:=0) (u:=.slice ra rn rc) rfl;have g1:=HG.out.cell (o:=1) (u:=.slice na nn nc) rfl;have gl:=HG.out.lt;clear hW0
 go_upto_region 2 with(go_at_call 27;(with_reducible refine(HNW.out _).mono ?_);rintro e w1 ⟨b,rfl,hp1,hb1⟩;have HP1:=Lib.hid hp1;have HB1:=Lib.hid hb1;have HG1:=Lib.hid (HG.out.below hb1);clear hp1 hb1)
 clear g0 g1 gl;have g0:=HG1.out.cell (o:=0) (u:=.slice ra rn rc) rfl;have g1:=HG1.out.cell (o:=1) (u:=.slice na nn nc) rfl;have gl:=HG1.out.lt;have HBb:=Lib.hid HP1.out.le;have hz1:=HB1.out.size;obtain⟨B,hBq⟩:∃B,W0.heap.size=B:=⟨_,rfl⟩;rw[hBq] at HWR HP1 HB1 HBb hz1;go_wp2
 go_loopw [10] (fun s wr=>∃(k:Nat) (d:Int),k<=rn/\s=.int .i64 k /\ -1<=d/\d<nn/\ordR ns (rs.drop k) d=true/\Pw B b (.slice ra rn rc) (.slice na nn nc) (10000-(d+1).toNat) (F (rs.take k)) wr/\KW B b w1 wr) (fun s _=>rn-(intOf s).toNat)
 case atStart=>exact⟨0,-1,Nat.zero_le _,rfl,by omega,by omega,HORD.out,by rw[List.take_zero,HF0.out];exact HP1.out,Kp.refl _⟩
 case round=>
  obtain⟨k,d,hk,rfl,hd1,hd2,hor,hpw,hkw⟩:=hrel;have hz2:=hkw.size;have HBW:=Lib.hid (HB1.out.trans (hkw.below HBb.out HBb.out hz1));have HKW:=Lib.hid hkw;by_cases hlt:k<rn
  ·obtain⟨r,hr⟩:∃r,rs[k]?=some r:=⟨_,List.getElem?_eq_getElem (by rw[HRN.out];exact hlt)⟩
   obtain⟨q,hq,hqi⟩:=HRT.out r (List.mem_of_getElem? hr);have hdr:rs.drop k=r::rs.drop (k+1):=by
    have:=List.drop_eq_getElem_cons (l:=rs) (i:=k) (by rw[HRN.out];exact hlt);rw[this];congr 1;exact(List.getElem?_eq_some_iff.1 hr).2
   rw[hdr] at hor;obtain⟨ho1,ho2,ho3,ho4⟩:=zuf hor;rw[hq] at ho1 ho2 ho3 ho4;have HO4:=Lib.hid ho4;have HR2:=Lib.hid (HWR.out k r hr q hq);have hnx:=HNX.out k r hr;have htk:=HTK.out (k+1);rw[hnx] at htk;have hl2:=HL.out;rw[List.length_append,List.length_singleton] at htk;have hq1:(q:Int)<(nn:Int):=by rw[<-HNN.out];exact ho2
   obtain⟨left,hleft⟩:∃left,10000-(d+1).toNat=left:=⟨_,rfl⟩;have e1:left-((q:Int)-exL ns q).toNat=10000-((q:Int)+1).toNat:=by omega
   have e2:(q:Int)-exL ns q<=(left:Int):=by omega
   have e3:left<=10000:=by omega
   rw[hleft] at hpw;have e4:(F (rs.take k)++(bts r.name++([32,60,45,32]++tx ns (nmOf rs) cxN 0 r.root))).length<=1000000:=by omega
   have e5:(F (rs.take k)++(bts r.name++([32,60,45,32]++tx ns (nmOf rs) cxN 0 r.root))).length<=2000000:=by omega
   have HE:=Lib.hid (And.intro e1 (And.intro e2 (And.intro e3 (And.intro e4 e5))));have HQ1:=Lib.hid hq1;have HP2:=Lib.hid hpw;have HNX2:=Lib.hid hnx;have k2:(k:Int)<(rn:Int):=by omega
   have hzz:B<=wr.heap.size:=by omega
   clear hr hq hqi hdr hor ho1 ho2 ho3 ho4 hnx htk hl2 hleft e1 e2 e3 e4 e5 hpw hkw hd1 hd2 g0 g1 gl hq1 hBq
   go_wp2_with (first
    |(go_at_call 28;(with_reducible refine(HR2.out _ _ _ _ HBW.out HP2.out HE.out.2.1 HE.out.2.2.1 HE.out.2.2.2.1).mono ?_);rintro e w3 ⟨rfl,hp3,hk3⟩;rw[HE.out.1] at hp3;have HP3:=Lib.hid hp3;have HK3:=Lib.hid (HKW.out.trans hk3);have hz3:=Nat.le_trans hzz hk3.size;clear hp3 hk3)
    |(go_at_call 29;(with_reducible refine(z99 _ _ _ _ _ _ 10 10 rfl _ HP3.out (by decide) HE.out.2.2.2.2 hz3).mono ?_);rintro e w4 ⟨rfl,hp4,hk4⟩;have HP4:=Lib.hid hp4;have HK4:=Lib.hid (HK3.out.trans hk4);clear hp4 hk4))
   exact⟨⟨k+1,q,by omega,by go_num,by omega,HQ1.out,HO4.out,by rw[HNX2.out];exact HP4.out,HK4.out⟩,by simp[intOf];omega⟩
  ·obtain rfl:k=rn:=by omega
   have k2:¬(k:Int)<(k:Int):=by omega
   rw[List.take_of_length_le (by rw[HRN.out];exact Nat.le_refl _)] at hpw;have HP2:=Lib.hid hpw;clear hpw hkw g0 g1 gl hor hd1 hd2
   go_wp2_with (go_at_call 30;(with_reducible refine(yaat _ _ _ _ _ _ _ HP2.out HT.out.1 HT.out.2).mono ?_);rintro e w3 ⟨rfl,hb3⟩;have HB3:=Lib.hid (HBW.out.trans hb3);clear hb3)
   go_ret;exact⟨rfl,HB0.out.trans (HB3.out.mono (hBq ▸ HB0.out.size))⟩
end
end Go.Proofs.YtmopdlbpkiaoeaaGreatDoor
