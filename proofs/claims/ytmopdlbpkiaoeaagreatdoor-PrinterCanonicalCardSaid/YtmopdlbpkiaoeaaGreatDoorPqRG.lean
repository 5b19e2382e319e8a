/- resolve.Of. Written by wip/gen/resof.py. What a file that is parsed has: bounds, and calls in the order of their nodes. No walk. -/
import Derived.Test.YtmopdlbpkiaoeaaGreatDoorPqRQ
set_option maxRecDepth 100000
set_option maxHeartbeats 8000000
open Go.Value renaming slice->jf, string->jh, pointer->jj, tuple->jk
namespace Go.Proofs.YtmopdlbpkiaoeaaGreatDoor
open Go.Lib renaming hid->qaa
open Go.Proofs.Tryz renaming prog->qab
open List renaming mem_append->qau, mem_singleton->qam
open Nat renaming le_refl->qac, le_succ->qbh, lt_of_lt_of_le->qaz, zero_le->qaj
variable {c:Int}{f:MF}{w:World}
section
open Go.RowKit
structure FileOk (rs:List (List Nat × Nat × Int)) (f:MF):Prop where
 ok:COk f
 rl:rs.length<=10000000
 cl:f.calls.length<=100000000
 nl:f.nodes.length<=100000000
 kl:∀n,n ∈ f.nodes->n.kids.length<=100000000
 rn:∀r,r ∈ rs->r.1.length<=2000000
 cn:∀r,r ∈ f.calls->r.1.length<=2000000
theorem FileOk.rs {rs:List (List Nat × Nat × Int)}(h:FileOk rs f):∀x,x ∈ nmR rs->x.size<=2000000:=fun x hx=>by
 obtain⟨r,hr,rfl⟩:=List.mem_map.1 hx;rw[zb0];exact h.rn r hr
def NameErr (c:Int)(x:List Nat × Nat)(w:World)(e:Ending)(w':World):Prop:=∃b,e=.returned (jk #[.agg #[jf none 0 0,jf none 0 0],.iface 149 (jj (some ⟨b,0,none⟩))])/\(Err.within b (strOf x.1) (.fault c (x.2:Int))).In w'/\Below w.heap.size w w'
def GramOk (rs:List PR)(ns:List PN)(w:World)(e:Ending)(w':World):Prop:=∃rv nv qs,e=.returned (jk #[.agg #[rv,nv],.nilIface])/\w'.ownsRow w.heap.size 32 2 rv rs.length (zb5 rs)/\NRow w.heap.size nv ns qs w'/\Below w.heap.size w w'
theorem WrongIs.some {x:List Nat × Nat}{w':World}{e:Ending}{o:Option (List Nat × Nat)}(ho:o=.some x)(h:WrongIs o c w e w'):e=.returned (jk #[jh (strOf x.1),.iface 160 (.agg #[.int .i64 c,.int .i64 (x.2:Int)])])/\Below w.heap.size w w':=by subst ho;exact h
theorem WrongIs.none {w':World}{e:Ending}{o:Option (List Nat × Nat)}(ho:o=.none)(h:WrongIs o c w e w'):e=.returned (jk #[jh ⟨#[]⟩,.nilIface])/\Below w.heap.size w w':=by subst ho;exact h
theorem zxh (r:ByteArray)(c p:Int)(W:World):Calls qab 58 #[jh r,.iface 160 (.agg #[.int .i64 c,.int .i64 p])] W fun e w'=>∃E,e=.returned (.iface 149 (jj (some ⟨E,0,none⟩)))/\Bl w' E 151 #[jh r,.iface 160 (.agg #[.int .i64 c,.int .i64 p])]/\W.heap.size<=E/\Below W.heap.size W w':=
 (zc0 r c p W).mono fun e w' h=>⟨W.heap.size,h.1,by rw[h.2];exact Bl.new W _ _,qac _,by rw[h.2];exact zaa W _⟩
theorem NameErr.mk {x:List Nat × Nat}{W:World}{B E:Nat}(hb:Below w.heap.size w W)(hE:Bl W E 151 #[jh (strOf x.1),.iface 160 (.agg #[.int .i64 c,.int .i64 (x.2:Int)])])(hB:w.heap.size<=B)(hl:B<E):NameErr c x w (.returned (jk #[.agg #[jf none 0 0,jf none 0 0],.iface 149 (jj (some ⟨E,0,none⟩))])) ((W.setCell ⟨B,0,none⟩ (jf none 0 0)).setCell ⟨B,1,none⟩ (jf none 0 0)):=by
 have h2:=(hE.other (c:=B) (o:=0) U (jf none 0 0)).other (c:=B) (o:=1) U (jf none 0 0);exact⟨E,rfl,⟨h2.cell (o:=0) rfl,h2.cell (o:=1) rfl,trivial⟩,(hb.setCell (p:=⟨B,0,none⟩) hB _).setCell (p:=⟨B,1,none⟩) hB _⟩
theorem zxi (rv nv cv:Value)(rs:List (List Nat × Nat × Int))(f:MF)(w:World)(h:FileIn w rv nv cv rs f)(hK:FileOk rs f)(x:List Nat × Nat)(hd:dupO rs=some x) :
  Calls qab 34 #[.agg #[rv,nv,cv]] w (NameErr 2 x w):=by
 have HOK:=qaa hK;have HD:=qaa hd;clear hd;obtain⟨hm,⟨a1,c1,rfl,hc1,ha1⟩,⟨hm2,a2,c2,rfl,ha2⟩,a3,c3,rfl,hc3,ha3⟩:=h;have hfi:FileIn w (jf a1 rs.length c1) (jf a2 f.nodes.length c2) (jf a3 f.calls.length c3) rs f:=⟨hm,⟨a1,c1,rfl,hc1,ha1⟩,⟨hm2,a2,c2,rfl,ha2⟩,a3,c3,rfl,hc3,ha3⟩;have HI:=qaa hfi;clear hm hc1 ha1 hm2 ha2 hc3 ha3 hfi hK;have HX0:Hid (Bl ((w.alloc (.cells #[jf a1 rs.length c1,jf a2 f.nodes.length c2,jf a3 f.calls.length c3] 46)).alloc (.cells #[jf none 0 0,jf none 0 0] 25)) w.heap.size 46 #[jf a1 rs.length c1,jf a2 f.nodes.length c2,jf a3 f.calls.length c3]):=qaa (Bl.new w _ _).past;have HG0:Hid (Bl ((w.alloc (.cells #[jf a1 rs.length c1,jf a2 f.nodes.length c2,jf a3 f.calls.length c3] 46)).alloc (.cells #[jf none 0 0,jf none 0 0] 25)) (w.heap.size+1) 25 #[jf none 0 0,jf none 0 0]):=qaa (Bl.new' jc);have HB0:=qaa (zbo w (.cells #[jf a1 rs.length c1,jf a2 f.nodes.length c2,jf a3 f.calls.length c3] 46) (.cells #[jf none 0 0,jf none 0 0] 25));have HI0:=qaa (HI.out.below HB0.out);go_enter Tryz.func34,Tryz.ntmps34
 go_upto_region 1 with fail
 obtain⟨W0,hW0⟩:∃W0,(w.alloc (.cells #[jf a1 rs.length c1,jf a2 f.nodes.length c2,jf a3 f.calls.length c3] 46)).alloc (.cells #[jf none 0 0,jf none 0 0] 25)=W0:=⟨_,rfl⟩;rw[hW0] at HX0 HG0 HB0 HI0;rw[hW0];clear hW0;have g0:=HG0.out.cell (o:=0) (u:=jf none 0 0) rfl;have gl:=HG0.out.lt;have c0:=HX0.out.cell (o:=0) (u:=jf a1 rs.length c1) rfl;have c1':=HX0.out.cell (o:=1) (u:=jf a2 f.nodes.length c2) rfl;have c2':=HX0.out.cell (o:=2) (u:=jf a3 f.calls.length c3) rfl;have cl:=HX0.out.lt;clear g0 gl
 go_upto_region 4 with(first
  |(go_at_call 57;(with_reducible refine(zdg _ _ _ _ _ _ HI0.out (by have:=HOK.out.rl;omega)).mono ?_);rintro e w1 ⟨v1,rfl,hown,hb⟩;have HS:=qaa (StrsAt.of_own hown);clear hown;have HX1:=qaa (HX0.out.below hb);have HG1:=qaa (HG0.out.below hb);have HI1:=qaa (HI0.out.below hb);have HB1:=qaa (HB0.out.trans (hb.mono HB0.out.size));  clear hb;clear c0 c1' c2' cl;have c0:=HX1.out.cell (o:=0) (u:=jf a1 rs.length c1) rfl;have c1':=HX1.out.cell (o:=1) (u:=jf a2 f.nodes.length c2) rfl;have c2':=HX1.out.cell (o:=2) (u:=jf a3 f.calls.length c3) rfl;have cl:=HX1.out.lt)
  |(go_at_call 56;(with_reducible refine(zdf _ _ _ HS.out (by rw[zdv];have:=HOK.out.rl;omega) HOK.out.rs).mono ?_);rintro e w2 ⟨b,rfl,hF,-,hb⟩;have HF2:=qaa hF;clear hF;have HX2:=qaa (HX1.out.below hb);have HG2:=qaa (HG1.out.below hb);have HI2:=qaa (HI1.out.below hb);have HB2:=qaa (HB1.out.trans (hb.mono HB1.out.size));  clear hb;clear c0 c1' c2' cl;have c0:=HX2.out.cell (o:=0) (u:=jf a1 rs.length c1) rfl;have c1':=HX2.out.cell (o:=1) (u:=jf a2 f.nodes.length c2) rfl;have c2':=HX2.out.cell (o:=2) (u:=jf a3 f.calls.length c3) rfl;have cl:=HX2.out.lt)
  |(go_at_call 59;(with_reducible refine(zqc _ _ _ _ _ _ _ HI2.out (by have:=HOK.out.rl;omega) HOK.out.rn HF2.out).mono ?_);intro e w3 hwr;obtain⟨he,hb⟩:=hwr.some HD.out;subst he;clear hwr;have HF3:=qaa (HF2.out.below hb);have HX3:=qaa (HX2.out.below hb);have HG3:=qaa (HG2.out.below hb);have HI3:=qaa (HI2.out.below hb);have HB3:=qaa (HB2.out.trans (hb.mono HB2.out.size));  clear hb;clear c0 c1' c2' cl;have c0:=HX3.out.cell (o:=0) (u:=jf a1 rs.length c1) rfl;have c1':=HX3.out.cell (o:=1) (u:=jf a2 f.nodes.length c2) rfl;have c2':=HX3.out.cell (o:=2) (u:=jf a3 f.calls.length c3) rfl;have cl:=HX3.out.lt)
  |(go_at_call 58;(with_reducible refine(zxh _ _ _ _).mono ?_);rintro e w9 ⟨E,rfl,hbl,hEl,hb⟩;have hgl:=qaz HG3.out.lt hEl;have HE9:=qaa hbl;have HG9:=qaa (HG3.out.below hb);have HB9:=qaa (HB3.out.trans (hb.mono HB3.out.size));clear hbl hb hEl c0 c1' c2' cl;have g0:=HG9.out.cell (o:=0) (u:=jf none 0 0) rfl;have g1:=HG9.out.cell (o:=1) (u:=jf none 0 0) rfl;have gf:=HG9.out.free;have gl:=HG9.out.lt))
 go_wp2;refine bodyPost_ret (v:=jk #[.agg #[jf none 0 0,jf none 0 0],.iface 149 (jj (some ⟨E,0,none⟩))]) (by simp[results,Tryz.results34,go_sem,g0,g1]) rfl ?_;exact NameErr.mk HB9.out HE9.out (qbh _) hgl
theorem zr8 (rv nv cv:Value)(rs:List (List Nat × Nat × Int))(f:MF)(w:World)(h:FileIn w rv nv cv rs f)(hK:FileOk rs f)(x:List Nat × Nat)(hd:dupO rs=none)(hu:undO (nmR rs) f=some x) :
  Calls qab 34 #[.agg #[rv,nv,cv]] w (NameErr 3 x w):=by
 have HOK:=qaa hK;have HD:=qaa hd;have HU:=qaa hu;clear hd hu;obtain⟨hm,⟨a1,c1,rfl,hc1,ha1⟩,⟨hm2,a2,c2,rfl,ha2⟩,a3,c3,rfl,hc3,ha3⟩:=h;have hfi:FileIn w (jf a1 rs.length c1) (jf a2 f.nodes.length c2) (jf a3 f.calls.length c3) rs f:=⟨hm,⟨a1,c1,rfl,hc1,ha1⟩,⟨hm2,a2,c2,rfl,ha2⟩,a3,c3,rfl,hc3,ha3⟩;have HI:=qaa hfi;clear hm hc1 ha1 hm2 ha2 hc3 ha3 hfi hK;have HX0:Hid (Bl ((w.alloc (.cells #[jf a1 rs.length c1,jf a2 f.nodes.length c2,jf a3 f.calls.length c3] 46)).alloc (.cells #[jf none 0 0,jf none 0 0] 25)) w.heap.size 46 #[jf a1 rs.length c1,jf a2 f.nodes.length c2,jf a3 f.calls.length c3]):=qaa (Bl.new w _ _).past;have HG0:Hid (Bl ((w.alloc (.cells #[jf a1 rs.length c1,jf a2 f.nodes.length c2,jf a3 f.calls.length c3] 46)).alloc (.cells #[jf none 0 0,jf none 0 0] 25)) (w.heap.size+1) 25 #[jf none 0 0,jf none 0 0]):=qaa (Bl.new' jc);have HB0:=qaa (zbo w (.cells #[jf a1 rs.length c1,jf a2 f.nodes.length c2,jf a3 f.calls.length c3] 46) (.cells #[jf none 0 0,jf none 0 0] 25));have HI0:=qaa (HI.out.below HB0.out);go_enter Tryz.func34,Tryz.ntmps34
 go_upto_region 1 with fail
 obtain⟨W0,hW0⟩:∃W0,(w.alloc (.cells #[jf a1 rs.length c1,jf a2 f.nodes.length c2,jf a3 f.calls.length c3] 46)).alloc (.cells #[jf none 0 0,jf none 0 0] 25)=W0:=⟨_,rfl⟩;rw[hW0] at HX0 HG0 HB0 HI0;rw[hW0];clear hW0;have g0:=HG0.out.cell (o:=0) (u:=jf none 0 0) rfl;have gl:=HG0.out.lt;have c0:=HX0.out.cell (o:=0) (u:=jf a1 rs.length c1) rfl;have c1':=HX0.out.cell (o:=1) (u:=jf a2 f.nodes.length c2) rfl;have c2':=HX0.out.cell (o:=2) (u:=jf a3 f.calls.length c3) rfl;have cl:=HX0.out.lt;clear g0 gl
 go_upto_region 7 with(first
  |(go_at_call 57;(with_reducible refine(zdg _ _ _ _ _ _ HI0.out (by have:=HOK.out.rl;omega)).mono ?_);rintro e w1 ⟨v1,rfl,hown,hb⟩;have HS:=qaa (StrsAt.of_own hown);clear hown;have HX1:=qaa (HX0.out.below hb);have HG1:=qaa (HG0.out.below hb);have HI1:=qaa (HI0.out.below hb);have HB1:=qaa (HB0.out.trans (hb.mono HB0.out.size));  clear hb;clear c0 c1' c2' cl;have c0:=HX1.out.cell (o:=0) (u:=jf a1 rs.length c1) rfl;have c1':=HX1.out.cell (o:=1) (u:=jf a2 f.nodes.length c2) rfl;have c2':=HX1.out.cell (o:=2) (u:=jf a3 f.calls.length c3) rfl;have cl:=HX1.out.lt)
  |(go_at_call 56;(with_reducible refine(zdf _ _ _ HS.out (by rw[zdv];have:=HOK.out.rl;omega) HOK.out.rs).mono ?_);rintro e w2 ⟨b,rfl,hF,-,hb⟩;have HF2:=qaa hF;clear hF;have HX2:=qaa (HX1.out.below hb);have HG2:=qaa (HG1.out.below hb);have HI2:=qaa (HI1.out.below hb);have HB2:=qaa (HB1.out.trans (hb.mono HB1.out.size));  clear hb;clear c0 c1' c2' cl;have c0:=HX2.out.cell (o:=0) (u:=jf a1 rs.length c1) rfl;have c1':=HX2.out.cell (o:=1) (u:=jf a2 f.nodes.length c2) rfl;have c2':=HX2.out.cell (o:=2) (u:=jf a3 f.calls.length c3) rfl;have cl:=HX2.out.lt)
  |(go_at_call 59;(with_reducible refine(zqc _ _ _ _ _ _ _ HI2.out (by have:=HOK.out.rl;omega) HOK.out.rn HF2.out).mono ?_);intro e w3 hwr;obtain⟨he,hb⟩:=hwr.none HD.out;subst he;clear hwr;have HF3:=qaa (HF2.out.below hb);have HX3:=qaa (HX2.out.below hb);have HG3:=qaa (HG2.out.below hb);have HI3:=qaa (HI2.out.below hb);have HB3:=qaa (HB2.out.trans (hb.mono HB2.out.size));  clear hb;clear c0 c1' c2' cl;have c0:=HX3.out.cell (o:=0) (u:=jf a1 rs.length c1) rfl;have c1':=HX3.out.cell (o:=1) (u:=jf a2 f.nodes.length c2) rfl;have c2':=HX3.out.cell (o:=2) (u:=jf a3 f.calls.length c3) rfl;have cl:=HX3.out.lt)
  |(go_at_call 58;(with_reducible refine(zki _ _).mono ?_);rintro e w5 ⟨rfl,hw5⟩;obtain rfl:=hw5.symm;clear hw5)
  |(go_at_call 60;(with_reducible refine(zxg _ _ _ _ _ _ _ _ HI3.out HOK.out.cl HOK.out.cn HF3.out).mono ?_);intro e w4 hwr;obtain⟨he,hb⟩:=hwr.some HU.out;subst he;clear hwr;have HF4:=qaa (HF3.out.below hb);have HX4:=qaa (HX3.out.below hb);have HG4:=qaa (HG3.out.below hb);have HI4:=qaa (HI3.out.below hb);have HB4:=qaa (HB3.out.trans (hb.mono HB3.out.size));  clear hb;clear c0 c1' c2' cl;have c0:=HX4.out.cell (o:=0) (u:=jf a1 rs.length c1) rfl;have c1':=HX4.out.cell (o:=1) (u:=jf a2 f.nodes.length c2) rfl;have c2':=HX4.out.cell (o:=2) (u:=jf a3 f.calls.length c3) rfl;have cl:=HX4.out.lt)
  |(go_at_call 58;(with_reducible refine(zxh _ _ _ _).mono ?_);rintro e w9 ⟨E,rfl,hbl,hEl,hb⟩;have hgl:=qaz HG4.out.lt hEl;have HE9:=qaa hbl;have HG9:=qaa (HG4.out.below hb);have HB9:=qaa (HB4.out.trans (hb.mono HB4.out.size));clear hbl hb hEl c0 c1' c2' cl;have g0:=HG9.out.cell (o:=0) (u:=jf none 0 0) rfl;have g1:=HG9.out.cell (o:=1) (u:=jf none 0 0) rfl;have gf:=HG9.out.free;have gl:=HG9.out.lt))
 go_wp2;refine bodyPost_ret (v:=jk #[.agg #[jf none 0 0,jf none 0 0],.iface 149 (jj (some ⟨E,0,none⟩))]) (by simp[results,Tryz.results34,go_sem,g0,g1]) rfl ?_;exact NameErr.mk HB9.out HE9.out (qbh _) hgl
theorem zfn {W:World}{base n B:Nat}{e t:TypeId}{size:Nat}{v u1 u2:Value}{xs:List Value}{cs:Array Value}(h:W.ownsRow base e size v n xs)(hB:Bl W B t cs)(he:e≠t):((W.setCell ⟨B,0,none⟩ u1).setCell ⟨B,1,none⟩ u2).ownsRow base e size v n xs:=
 ownsRow_setCell_other (ownsRow_setCell_other h (a:=⟨B,0,none⟩) (zaq h hB he) u1) (a:=⟨B,1,none⟩) (zaq h hB he) u2
theorem of_ok (rv nv cv:Value)(rs:List (List Nat × Nat × Int))(f:MF)(w:World)(h:FileIn w rv nv cv rs f)(hK:FileOk rs f)(hd:dupO rs=none)(hu:undO (nmR rs) f=none) :
  Calls qab 34 #[.agg #[rv,nv,cv]] w (GramOk (zam rs) (zan (nmR rs) (nmC f) f.nodes) w):=by
 have HOK:=qaa hK;have HD:=qaa hd;have HU:=qaa hu;clear hd hu;obtain⟨hm,⟨a1,c1,rfl,hc1,ha1⟩,⟨hm2,a2,c2,rfl,ha2⟩,a3,c3,rfl,hc3,ha3⟩:=h;have hfi:FileIn w (jf a1 rs.length c1) (jf a2 f.nodes.length c2) (jf a3 f.calls.length c3) rs f:=⟨hm,⟨a1,c1,rfl,hc1,ha1⟩,⟨hm2,a2,c2,rfl,ha2⟩,a3,c3,rfl,hc3,ha3⟩;have HI:=qaa hfi;clear hm hc1 ha1 hm2 ha2 hc3 ha3 hfi hK;have HX0:Hid (Bl ((w.alloc (.cells #[jf a1 rs.length c1,jf a2 f.nodes.length c2,jf a3 f.calls.length c3] 46)).alloc (.cells #[jf none 0 0,jf none 0 0] 25)) w.heap.size 46 #[jf a1 rs.length c1,jf a2 f.nodes.length c2,jf a3 f.calls.length c3]):=qaa (Bl.new w _ _).past;have HG0:Hid (Bl ((w.alloc (.cells #[jf a1 rs.length c1,jf a2 f.nodes.length c2,jf a3 f.calls.length c3] 46)).alloc (.cells #[jf none 0 0,jf none 0 0] 25)) (w.heap.size+1) 25 #[jf none 0 0,jf none 0 0]):=qaa (Bl.new' jc);have HB0:=qaa (zbo w (.cells #[jf a1 rs.length c1,jf a2 f.nodes.length c2,jf a3 f.calls.length c3] 46) (.cells #[jf none 0 0,jf none 0 0] 25));have HI0:=qaa (HI.out.below HB0.out);go_enter Tryz.func34,Tryz.ntmps34
 go_upto_region 1 with fail
 obtain⟨W0,hW0⟩:∃W0,(w.alloc (.cells #[jf a1 rs.length c1,jf a2 f.nodes.length c2,jf a3 f.calls.length c3] 46)).alloc (.cells #[jf none 0 0,jf none 0 0] 25)=W0:=⟨_,rfl⟩;rw[hW0] at HX0 HG0 HB0 HI0;rw[hW0];clear hW0;have c0:=HX0.out.cell (o:=0) (u:=jf a1 rs.length c1) rfl;have c1':=HX0.out.cell (o:=1) (u:=jf a2 f.nodes.length c2) rfl;have c2':=HX0.out.cell (o:=2) (u:=jf a3 f.calls.length c3) rfl;have cl:=HX0.out.lt
 go_wp2_with (first
  |(go_at_call 57;(with_reducible refine(zdg _ _ _ _ _ _ HI0.out (by have:=HOK.out.rl;omega)).mono ?_);rintro e w1 ⟨v1,rfl,hown,hb⟩;have HS:=qaa (StrsAt.of_own hown);clear hown;have HX1:=qaa (HX0.out.below hb);have HG1:=qaa (HG0.out.below hb);have HI1:=qaa (HI0.out.below hb);have HB1:=qaa (HB0.out.trans (hb.mono HB0.out.size));  clear hb;clear c0 c1' c2' cl;have c0:=HX1.out.cell (o:=0) (u:=jf a1 rs.length c1) rfl;have c1':=HX1.out.cell (o:=1) (u:=jf a2 f.nodes.length c2) rfl;have c2':=HX1.out.cell (o:=2) (u:=jf a3 f.calls.length c3) rfl;have cl:=HX1.out.lt)
  |(go_at_call 56;(with_reducible refine(zdf _ _ _ HS.out (by rw[zdv];have:=HOK.out.rl;omega) HOK.out.rs).mono ?_);rintro e w2 ⟨b,rfl,hF,-,hb⟩;have HF2:=qaa hF;clear hF;have HX2:=qaa (HX1.out.below hb);have HG2:=qaa (HG1.out.below hb);have HI2:=qaa (HI1.out.below hb);have HB2:=qaa (HB1.out.trans (hb.mono HB1.out.size));  clear hb;clear c0 c1' c2' cl;have c0:=HX2.out.cell (o:=0) (u:=jf a1 rs.length c1) rfl;have c1':=HX2.out.cell (o:=1) (u:=jf a2 f.nodes.length c2) rfl;have c2':=HX2.out.cell (o:=2) (u:=jf a3 f.calls.length c3) rfl;have cl:=HX2.out.lt)
  |(go_at_call 59;(with_reducible refine(zqc _ _ _ _ _ _ _ HI2.out (by have:=HOK.out.rl;omega) HOK.out.rn HF2.out).mono ?_);intro e w3 hwr;obtain⟨he,hb⟩:=hwr.none HD.out;subst he;clear hwr;have HF3:=qaa (HF2.out.below hb);have HX3:=qaa (HX2.out.below hb);have HG3:=qaa (HG2.out.below hb);have HI3:=qaa (HI2.out.below hb);have HB3:=qaa (HB2.out.trans (hb.mono HB2.out.size));  clear hb;clear c0 c1' c2' cl;have c0:=HX3.out.cell (o:=0) (u:=jf a1 rs.length c1) rfl;have c1':=HX3.out.cell (o:=1) (u:=jf a2 f.nodes.length c2) rfl;have c2':=HX3.out.cell (o:=2) (u:=jf a3 f.calls.length c3) rfl;have cl:=HX3.out.lt)
  |(go_at_call 58;(with_reducible refine(zki _ _).mono ?_);rintro e w5 ⟨rfl,hw5⟩;obtain rfl:=hw5.symm;clear hw5)
  |(go_at_call 60;(with_reducible refine(zxg _ _ _ _ _ _ _ _ HI3.out HOK.out.cl HOK.out.cn HF3.out).mono ?_);intro e w4 hwr;obtain⟨he,hb⟩:=hwr.none HU.out;subst he;clear hwr;have HF4:=qaa (HF3.out.below hb);have HX4:=qaa (HX3.out.below hb);have HG4:=qaa (HG3.out.below hb);have HI4:=qaa (HI3.out.below hb);have HB4:=qaa (HB3.out.trans (hb.mono HB3.out.size));  clear hb;clear c0 c1' c2' cl;have c0:=HX4.out.cell (o:=0) (u:=jf a1 rs.length c1) rfl;have c1':=HX4.out.cell (o:=1) (u:=jf a2 f.nodes.length c2) rfl;have c2':=HX4.out.cell (o:=2) (u:=jf a3 f.calls.length c3) rfl;have cl:=HX4.out.lt)
  |(go_at_call 61;(with_reducible refine(z0u _ _ _ _ _ _ _ HI4.out HOK.out.ok HOK.out.rl HOK.out.nl HOK.out.kl HOK.out.rn HOK.out.cn HF4.out).mono ?_);rintro e w6 ⟨rv6,nv6,qs6,rfl,hR,hN,hb⟩;have HR6:=qaa (za2 hR HB4.out.size);have HN6:Hid (NRow w.heap.size nv6 (zan (nmR rs) (nmC f) f.nodes) qs6 w6):=qaa ⟨hN.1,za2 hN.2.1 HB4.out.size,fun j n q x y=>za2 (hN.2.2 j n q x y) HB4.out.size⟩;clear hR hN;obtain⟨ra6,rc6,rfl⟩:=zag HR6.out;obtain⟨na6,nc6,rfl⟩:=zag HN6.out.2.1;have HG6:=qaa (HG4.out.below hb);have HB6:=qaa (HB4.out.trans (hb.mono HB4.out.size));clear hb c0 c1' c2' cl;have g0:=HG6.out.cell (o:=0) (u:=jf none 0 0) rfl;have g1:=HG6.out.cell (o:=1) (u:=jf none 0 0) rfl;have gf:=HG6.out.free;have gl:=HG6.out.lt))
 refine bodyPost_ret (v:=jk #[.agg #[jf ra6 (zam rs).length rc6,jf na6 (zan (nmR rs) (nmC f) f.nodes).length nc6],.nilIface]) (by simp[results,Tryz.results34,go_sem,g0,g1]) rfl ?_;exact⟨_,_,qs6,rfl,zfn HR6.out HG6.out ja,⟨HN6.out.1,zfn HN6.out.2.1 HG6.out ja,fun j n q x y=>zfn (HN6.out.2.2 j n q x y) HG6.out ja⟩,(HB6.out.setCell (p:=⟨w.heap.size+1,0,none⟩) (qbh _) _).setCell (p:=⟨w.heap.size+1,1,none⟩) (qbh _) _⟩
end
section
theorem z0v (l:List Nat):∀(n p:Nat),p<=l.length->l.length-p<=n->∀t,t ∈ strm l p->t.text.length<=l.length:=by
 intro n
 induction n with
 |zero=>
  intro p hp hn t ht;cases h:nextL l p with
  |error k=>rw[zcg h] at ht;obtain rfl:=qam.1 ht;exact qaj _
  |ok y=>
   obtain⟨u,m⟩:=y;have hx:=(zfk l p u m h).1;rcases za6 l p hp u m h with⟨h0,hm⟩|⟨h0,h1,h2⟩
   ·rw[zbt h h0] at ht
    obtain rfl:=qam.1 ht;omega
   ·omega
 |succ n ih=>
  intro p hp hn t ht;cases h:nextL l p with
  |error k=>rw[zcg h] at ht;obtain rfl:=qam.1 ht;exact qaj _
  |ok y=>
   obtain⟨u,m⟩:=y;have hx:=(zfk l p u m h).1;rcases za6 l p hp u m h with⟨h0,hm⟩|⟨h0,h1,h2⟩
   ·rw[zbt h h0] at ht
    obtain rfl:=qam.1 ht;omega
   ·rw[zbe h h0 ⟨h1,h2⟩] at ht
    rcases List.mem_cons.1 ht with rfl|ht
    ·omega
    ·exact ih m h2 U t ht
theorem zts {st:Bool}{F:List Tok->MF->PO}(hG:Grow 0 2 F){ts a:List Tok}{g:MF}(h:defL st F ts f=.ok a g):g.nodes.length+wt a<=f.nodes.length+wt ts:=by
 unfold defL at h;split at h
 ·rename_i k1
  have t1:=zcq (ts:=ts) U;obtain⟨b,k,hb,hk⟩:=zcr h;have e1:b=ts.tail/\k=f:=by
   unfold acc at hb;split at hb
   ·cases hb
   ·cases hb;exact⟨rfl,rfl⟩
  obtain⟨rfl,rfl⟩:=e1;split at hk
  ·rename_i k2
   have t2:=zcq (ts:=ts.tail) U;obtain⟨c,j,hc,hj⟩:=zcr hk;have e2:c=ts.tail.tail/\j=k:=by
    unfold acc at hc;split at hc
    ·cases hc
    ·cases hc;exact⟨rfl,rfl⟩
   obtain⟨rfl,rfl⟩:=e2;have hg:=hG ts.tail.tail j;rw[hj] at hg;have:=hg.2.2.2.2.1;omega
  ·cases hk
 ·cases h
theorem zk9 {st:Bool}{F:List Tok->MF->PO}(hG:Grow 0 2 F):∀(n:Nat) (ts:List Tok) (f g:MF) (rs rs':List (List Nat × Nat × Int)),defsL st F n ts f rs=.ok rs' g->g.nodes.length<=f.nodes.length+wt ts
 |0,_,_,_,_,_,h=>by cases h
 |n+1,ts,f,g,rs,rs',h=>by
  unfold defsL at h;cases hd:defL st F ts f with
  |bad a dp=>rw[hd] at h;cases h
  |ok a k=>
   have hc:=zts hG hd;rw[hd] at h;dsimp only at h;by_cases h0:kd a=0
   ·rw[if_pos h0] at h
    cases h;omega
   ·rw[if_neg h0] at h
    have:=zk9 hG n a k g _ _ h;omega
def TxB (B:Nat)(t:Tok):Prop:=t.text.length<=B
def FiQ (B:Nat)(f:MF):Prop:=COk f/\(∀n,n ∈ f.nodes->n.kids.length<=B)/\∀c,c ∈ f.calls->c.1.length<=B
theorem z6x (B:Nat)(hB:1<=B):Stp B (TxB B) (FiQ B) where
 add f n h hn hk:=⟨h.1.add hn,fun m hm=>by
  rcases qau.1 hm with hm|hm
  ·exact h.2.1 m hm
  ·obtain rfl:=qam.1 hm
   exact hk,h.2.2⟩
 call f t h ht _:=⟨h.1.call t,fun m hm=>by
  rcases qau.1 hm with hm|hm
  ·exact h.2.1 m hm
  ·obtain rfl:=qam.1 hm
   exact qaj _,fun c hc=>by
  rcases qau.1 hc with hc|hc
  ·exact h.2.2 c hc
  ·obtain rfl:=qam.1 hc
   exact ht⟩
 txt _ h:=h
 pos:=hB
theorem zb9 {s:ByteArray}{rs:List (List Nat × Nat × Int)}(hs:s.size<=1050000)(h:zaz (bts s)=.ok rs f):FileOk rs f:=by
 have hb:=zns hs h;have hl:=zri s;have hr:=zlz _ _ _ _ _ _ h;have hn:=zk9 (Gr.expr 200 true) _ _ _ _ _ _ h;obtain⟨hw,-,-⟩:=zfl (bts s) _ 0 (qaj _) (qac _);rw[zaj] at hw;have e1:([]:List (List Nat × Nat × Int)).length=0:=rfl;have e2:(⟨[],[]⟩:MF).nodes.length=0:=rfl;have hT:TkA 1050002 (TxB 1050002) (strm (bts s) 0):=⟨U,fun t ht=>by
  have:=z0v (bts s) _ 0 (qaj _) (qac _) t ht;rw[zaj] at this;show t.text.length<=_;omega⟩
 obtain⟨h1,h2,h3,h4⟩:=z0t (z6x 1050002 ja) ⟨COk.nil,(fun n hn=>by cases hn),(fun c hc=>by cases hc)⟩ hT h;exact⟨h2,U,hb.2,U,fun n hn=>by have:=h3 n hn;omega,fun r hr=>by
  obtain⟨t,ht,-,e,-⟩:=h1 r hr;rw[e];have:t.text.length<=1050002:=ht;omega,fun r hr=>by have:=h4 r hr;omega⟩
end
