/- resolve.Of. Written by wip/gen/resof.py. What a file that is parsed has: bounds, and calls in the order of their nodes. No walk. resolve's Rule, Undefined, Unus -/
import Derived.Test.YtnmflokhnaiiiaaGreatDoorPkK
import Derived.Test.YtnmflokhnaiiiaaGreatDoorPkRA
import Derived.Test.YtnmflokhnaiiiaaGreatDoorPkResGram
set_option maxRecDepth 100000
set_option maxHeartbeats 8000000
namespace Go.Proofs.YtnmflokhnaiiiaaGreatDoor
section
open Go.RowKit
structure FileOk (rs:List (List Nat × Nat × Int)) (f:MF):Prop where
 ok:COk f
 rl:rs.length<=10000000
 cl:f.calls.length<=100000000
 nl:f.nodes.length<=100000000
 kl:∀n,n ∈ f.nodes->n.kids.length<=100000000
 rn:∀r,r ∈ rs->r.1.length<=2000000
 cn:∀r,r ∈ f.calls->r.1.length<=2000000
theorem FileOk.rs {rs:List (List Nat × Nat × Int)}{f:MF}(h:FileOk rs f):∀x,x ∈ nmR rs->x.size<=2000000:=fun x hx=>by
 obtain⟨r,hr,rfl⟩:=List.mem_map.1 hx;rw[zb0];exact h.rn r hr
theorem FileOk.cs {rs:List (List Nat × Nat × Int)}{f:MF}(h:FileOk rs f):∀x,x ∈ nmC f->x.size<=2000000:=fun x hx=>by
 obtain⟨r,hr,rfl⟩:=List.mem_map.1 hx;rw[zb0];exact h.cn r hr
def NameErr (c:Int)(x:List Nat × Nat)(w:World)(e:Ending)(w':World):Prop:=∃b,e=.returned (.tuple #[.agg #[.slice none 0 0,.slice none 0 0],.iface 109 (.pointer (some ⟨b,0,none⟩))])/\(Err.within b (strOf x.1) (.fault c (x.2:Int))).In w'/\Below w.heap.size w w'
def zr7 (rs:List PR)(ns:List PN)(w:World)(e:Ending)(w':World):Prop:=∃rv nv qs,e=.returned (.tuple #[.agg #[rv,nv],.nilIface])/\w'.ownsRow w.heap.size 75 2 rv rs.length (zb5 rs)/\NRow w.heap.size nv ns qs w'/\Below w.heap.size w w'
theorem WrongIs.some {x:List Nat × Nat}{c:Int}{w w':World}{e:Ending}{o:Option (List Nat × Nat)}(ho:o=.some x)(h:WrongIs o c w e w'):e=.returned (.tuple #[.string (strOf x.1),.iface 106 (.agg #[.int .i64 c,.int .i64 (x.2:Int)])])/\Below w.heap.size w w':=by subst ho;exact h
theorem WrongIs.none {c:Int}{w w':World}{e:Ending}{o:Option (List Nat × Nat)}(ho:o=.none)(h:WrongIs o c w e w'):e=.returned (.tuple #[.string ⟨#[]⟩,.nilIface])/\Below w.heap.size w w':=by subst ho;exact h
theorem zxh (r:ByteArray)(c p:Int)(W:World):Calls Tryz.prog 37 #[.string r,.iface 106 (.agg #[.int .i64 c,.int .i64 p])] W fun e w'=>∃E,e=.returned (.iface 109 (.pointer (some ⟨E,0,none⟩)))/\Bl w' E 113 #[.string r,.iface 106 (.agg #[.int .i64 c,.int .i64 p])]/\W.heap.size<=E/\Below W.heap.size W w':=
 (zc0 r c p W).mono fun e w' h=>⟨W.heap.size,h.1,by rw[h.2];exact Bl.new W _ _,Nat.le_refl _,by rw[h.2];exact zaa W _⟩
theorem NameErr.mk {c:Int}{x:List Nat × Nat}{w W:World}{B E:Nat}(hb:Below w.heap.size w W)(hE:Bl W E 113 #[.string (strOf x.1),.iface 106 (.agg #[.int .i64 c,.int .i64 (x.2:Int)])])(hB:w.heap.size<=B)(hl:B<E):NameErr c x w (.returned (.tuple #[.agg #[.slice none 0 0,.slice none 0 0],.iface 109 (.pointer (some ⟨E,0,none⟩))])) ((W.setCell ⟨B,0,none⟩ (.slice none 0 0)).setCell ⟨B,1,none⟩ (.slice none 0 0)):=by
 have h2:=(hE.other (c:=B) (o:=0) (by omega) (.slice none 0 0)).other (c:=B) (o:=1) (by omega) (.slice none 0 0);exact⟨E,rfl,⟨h2.cell (o:=0) rfl,h2.cell (o:=1) rfl,trivial⟩,(hb.setCell (p:=⟨B,0,none⟩) hB _).setCell (p:=⟨B,1,none⟩) hB _⟩
theorem zxi (rv nv cv:Value)(rs:List (List Nat × Nat × Int))(f:MF)(w:World)(h:FileIn w rv nv cv rs f)(hK:FileOk rs f)(x:List Nat × Nat)(hd:dupO rs=some x) :
  Calls Tryz.prog 11 #[.agg #[rv,nv,cv]] w (NameErr 2 x w):=by
 have HOK:=Lib.hid hK;have HD:=Lib.hid hd;clear hd;obtain⟨hm,⟨a1,c1,rfl,hc1,ha1⟩,⟨hm2,a2,c2,rfl,ha2⟩,a3,c3,rfl,hc3,ha3⟩:=h;have hfi:FileIn w (.slice a1 rs.length c1) (.slice a2 f.nodes.length c2) (.slice a3 f.calls.length c3) rs f:=⟨hm,⟨a1,c1,rfl,hc1,ha1⟩,⟨hm2,a2,c2,rfl,ha2⟩,a3,c3,rfl,hc3,ha3⟩;have HI:=Lib.hid hfi;clear hm hc1 ha1 hm2 ha2 hc3 ha3 hfi hK;have HX0:Hid (Bl ((w.alloc (.cells #[.slice a1 rs.length c1,.slice a2 f.nodes.length c2,.slice a3 f.calls.length c3] 26)).alloc (.cells #[.slice none 0 0,.slice none 0 0] 40)) w.heap.size 26 #[.slice a1 rs.length c1,.slice a2 f.nodes.length c2,.slice a3 f.calls.length c3]):=Lib.hid (Bl.new w _ _).past;have HG0:Hid (Bl ((w.alloc (.cells #[.slice a1 rs.length c1,.slice a2 f.nodes.length c2,.slice a3 f.calls.length c3] 26)).alloc (.cells #[.slice none 0 0,.slice none 0 0] 40)) (w.heap.size+1) 40 #[.slice none 0 0,.slice none 0 0]):=Lib.hid (Bl.new' (by simp));have HB0:=Lib.hid (zbo w (.cells #[.slice a1 rs.length c1,.slice a2 f.nodes.length c2,.slice a3 f.calls.length c3] 26) (.cells #[.slice none 0 0,.slice none 0 0] 40));have HI0:=Lib.hid (HI.out.below HB0.out);go_enter Tryz.func11,Tryz.ntmps11
 go_upto_region 1 with fail
 obtain⟨W0,hW0⟩:∃W0,(w.alloc (.cells #[.slice a1 rs.length c1,.slice a2 f.nodes.length c2,.slice a3 f.calls.length c3] 26)).alloc (.cells #[.slice none 0 0,.slice none 0 0] 40)=W0:=⟨_,rfl⟩;rw[hW0] at HX0 HG0 HB0 HI0;rw[hW0];clear hW0;have g0:=HG0.out.cell (o:=0) (u:=.slice none 0 0) rfl;have gl:=HG0.out.lt;have c0:=HX0.out.cell (o:=0) (u:=.slice a1 rs.length c1) rfl;have c1':=HX0.out.cell (o:=1) (u:=.slice a2 f.nodes.length c2) rfl;have c2':=HX0.out.cell (o:=2) (u:=.slice a3 f.calls.length c3) rfl;have cl:=HX0.out.lt;clear g0 gl
 go_upto_region 4 with(first
  |(go_at_call 36;(with_reducible refine(zdg _ _ _ _ _ _ HI0.out (by have:=HOK.out.rl;omega)).mono ?_);rintro e w1 ⟨v1,rfl,hown,hb⟩;have HS:=Lib.hid (StrsAt.of_own hown);clear hown;have HX1:=Lib.hid (HX0.out.below hb);have HG1:=Lib.hid (HG0.out.below hb);have HI1:=Lib.hid (HI0.out.below hb);have HB1:=Lib.hid (HB0.out.trans (hb.mono HB0.out.size));  clear hb;clear c0 c1' c2' cl;have c0:=HX1.out.cell (o:=0) (u:=.slice a1 rs.length c1) rfl;have c1':=HX1.out.cell (o:=1) (u:=.slice a2 f.nodes.length c2) rfl;have c2':=HX1.out.cell (o:=2) (u:=.slice a3 f.calls.length c3) rfl;have cl:=HX1.out.lt)
  |(go_at_call 35;(with_reducible refine(zdf _ _ _ HS.out (by rw[zdv];have:=HOK.out.rl;omega) HOK.out.rs).mono ?_);rintro e w2 ⟨b,rfl,hF,-,hb⟩;have HF2:=Lib.hid hF;clear hF;have HX2:=Lib.hid (HX1.out.below hb);have HG2:=Lib.hid (HG1.out.below hb);have HI2:=Lib.hid (HI1.out.below hb);have HB2:=Lib.hid (HB1.out.trans (hb.mono HB1.out.size));  clear hb;clear c0 c1' c2' cl;have c0:=HX2.out.cell (o:=0) (u:=.slice a1 rs.length c1) rfl;have c1':=HX2.out.cell (o:=1) (u:=.slice a2 f.nodes.length c2) rfl;have c2':=HX2.out.cell (o:=2) (u:=.slice a3 f.calls.length c3) rfl;have cl:=HX2.out.lt)
  |(go_at_call 38;(with_reducible refine(zqc _ _ _ _ _ _ _ HI2.out (by have:=HOK.out.rl;omega) HOK.out.rn HF2.out).mono ?_);intro e w3 hwr;obtain⟨he,hb⟩:=hwr.some HD.out;subst he;clear hwr;have HF3:=Lib.hid (HF2.out.below hb);have HX3:=Lib.hid (HX2.out.below hb);have HG3:=Lib.hid (HG2.out.below hb);have HI3:=Lib.hid (HI2.out.below hb);have HB3:=Lib.hid (HB2.out.trans (hb.mono HB2.out.size));  clear hb;clear c0 c1' c2' cl;have c0:=HX3.out.cell (o:=0) (u:=.slice a1 rs.length c1) rfl;have c1':=HX3.out.cell (o:=1) (u:=.slice a2 f.nodes.length c2) rfl;have c2':=HX3.out.cell (o:=2) (u:=.slice a3 f.calls.length c3) rfl;have cl:=HX3.out.lt)
  |(go_at_call 37;(with_reducible refine(zxh _ _ _ _).mono ?_);rintro e w9 ⟨E,rfl,hbl,hEl,hb⟩;have hgl:=Nat.lt_of_lt_of_le HG3.out.lt hEl;have HE9:=Lib.hid hbl;have HG9:=Lib.hid (HG3.out.below hb);have HB9:=Lib.hid (HB3.out.trans (hb.mono HB3.out.size));clear hbl hb hEl c0 c1' c2' cl;have g0:=HG9.out.cell (o:=0) (u:=.slice none 0 0) rfl;have g1:=HG9.out.cell (o:=1) (u:=.slice none 0 0) rfl;have gf:=HG9.out.free;have gl:=HG9.out.lt))
 go_wp2;refine bodyPost_ret (v:=.tuple #[.agg #[.slice none 0 0,.slice none 0 0],.iface 109 (.pointer (some ⟨E,0,none⟩))]) (by simp[results,Tryz.results11,go_sem,g0,g1]) rfl ?_;exact NameErr.mk HB9.out HE9.out (Nat.le_succ _) hgl
theorem zr8 (rv nv cv:Value)(rs:List (List Nat × Nat × Int))(f:MF)(w:World)(h:FileIn w rv nv cv rs f)(hK:FileOk rs f)(x:List Nat × Nat)(hd:dupO rs=none)(hu:undO (nmR rs) f=some x) :
  Calls Tryz.prog 11 #[.agg #[rv,nv,cv]] w (NameErr 3 x w):=by
 have HOK:=Lib.hid hK;have HD:=Lib.hid hd;have HU:=Lib.hid hu;clear hd hu;obtain⟨hm,⟨a1,c1,rfl,hc1,ha1⟩,⟨hm2,a2,c2,rfl,ha2⟩,a3,c3,rfl,hc3,ha3⟩:=h;have hfi:FileIn w (.slice a1 rs.length c1) (.slice a2 f.nodes.length c2) (.slice a3 f.calls.length c3) rs f:=⟨hm,⟨a1,c1,rfl,hc1,ha1⟩,⟨hm2,a2,c2,rfl,ha2⟩,a3,c3,rfl,hc3,ha3⟩;have HI:=Lib.hid hfi;clear hm hc1 ha1 hm2 ha2 hc3 ha3 hfi hK;have HX0:Hid (Bl ((w.alloc (.cells #[.slice a1 rs.length c1,.slice a2 f.nodes.length c2,.slice a3 f.calls.length c3] 26)).alloc (.cells #[.slice none 0 0,.slice none 0 0] 40)) w.heap.size 26 #[.slice a1 rs.length c1,.slice a2 f.nodes.length c2,.slice a3 f.calls.length c3]):=Lib.hid (Bl.new w _ _).past;have HG0:Hid (Bl ((w.alloc (.cells #[.slice a1 rs.length c1,.slice a2 f.nodes.length c2,.slice a3 f.calls.length c3] 26)).alloc (.cells #[.slice none 0 0,.slice none 0 0] 40)) (w.heap.size+1) 40 #[.slice none 0 0,.slice none 0 0]):=Lib.hid (Bl.new' (by simp));have HB0:=Lib.hid (zbo w (.cells #[.slice a1 rs.length c1,.slice a2 f.nodes.length c2,.slice a3 f.calls.length c3] 26) (.cells #[.slice none 0 0,.slice none 0 0] 40));have HI0:=Lib.hid (HI.out.below HB0.out);go_enter Tryz.func11,Tryz.ntmps11
 go_upto_region 1 with fail
 obtain⟨W0,hW0⟩:∃W0,(w.alloc (.cells #[.slice a1 rs.length c1,.slice a2 f.nodes.length c2,.slice a3 f.calls.length c3] 26)).alloc (.cells #[.slice none 0 0,.slice none 0 0] 40)=W0:=⟨_,rfl⟩;rw[hW0] at HX0 HG0 HB0 HI0;rw[hW0];clear hW0;have g0:=HG0.out.cell (o:=0) (u:=.slice none 0 0) rfl;have gl:=HG0.out.lt;have c0:=HX0.out.cell (o:=0) (u:=.slice a1 rs.length c1) rfl;have c1':=HX0.out.cell (o:=1) (u:=.slice a2 f.nodes.length c2) rfl;have c2':=HX0.out.cell (o:=2) (u:=.slice a3 f.calls.length c3) rfl;have cl:=HX0.out.lt;clear g0 gl
 go_upto_region 7 with(first
  |(go_at_call 36;(with_reducible refine(zdg _ _ _ _ _ _ HI0.out (by have:=HOK.out.rl;omega)).mono ?_);rintro e w1 ⟨v1,rfl,hown,hb⟩;have HS:=Lib.hid (StrsAt.of_own hown);clear hown;have HX1:=Lib.hid (HX0.out.below hb);have HG1:=Lib.hid (HG0.out.below hb);have HI1:=Lib.hid (HI0.out.below hb);have HB1:=Lib.hid (HB0.out.trans (hb.mono HB0.out.size));  clear hb;clear c0 c1' c2' cl;have c0:=HX1.out.cell (o:=0) (u:=.slice a1 rs.length c1) rfl;have c1':=HX1.out.cell (o:=1) (u:=.slice a2 f.nodes.length c2) rfl;have c2':=HX1.out.cell (o:=2) (u:=.slice a3 f.calls.length c3) rfl;have cl:=HX1.out.lt)
  |(go_at_call 35;(with_reducible refine(zdf _ _ _ HS.out (by rw[zdv];have:=HOK.out.rl;omega) HOK.out.rs).mono ?_);rintro e w2 ⟨b,rfl,hF,-,hb⟩;have HF2:=Lib.hid hF;clear hF;have HX2:=Lib.hid (HX1.out.below hb);have HG2:=Lib.hid (HG1.out.below hb);have HI2:=Lib.hid (HI1.out.below hb);have HB2:=Lib.hid (HB1.out.trans (hb.mono HB1.out.size));  clear hb;clear c0 c1' c2' cl;have c0:=HX2.out.cell (o:=0) (u:=.slice a1 rs.length c1) rfl;have c1':=HX2.out.cell (o:=1) (u:=.slice a2 f.nodes.length c2) rfl;have c2':=HX2.out.cell (o:=2) (u:=.slice a3 f.calls.length c3) rfl;have cl:=HX2.out.lt)
  |(go_at_call 38;(with_reducible refine(zqc _ _ _ _ _ _ _ HI2.out (by have:=HOK.out.rl;omega) HOK.out.rn HF2.out).mono ?_);intro e w3 hwr;obtain⟨he,hb⟩:=hwr.none HD.out;subst he;clear hwr;have HF3:=Lib.hid (HF2.out.below hb);have HX3:=Lib.hid (HX2.out.below hb);have HG3:=Lib.hid (HG2.out.below hb);have HI3:=Lib.hid (HI2.out.below hb);have HB3:=Lib.hid (HB2.out.trans (hb.mono HB2.out.size));  clear hb;clear c0 c1' c2' cl;have c0:=HX3.out.cell (o:=0) (u:=.slice a1 rs.length c1) rfl;have c1':=HX3.out.cell (o:=1) (u:=.slice a2 f.nodes.length c2) rfl;have c2':=HX3.out.cell (o:=2) (u:=.slice a3 f.calls.length c3) rfl;have cl:=HX3.out.lt)
  |(go_at_call 37;(with_reducible refine(zki _ _).mono ?_);rintro e w5 ⟨rfl,hw5⟩;obtain rfl:=hw5.symm;clear hw5)
  |(go_at_call 39;(with_reducible refine(zxg _ _ _ _ _ _ _ _ HI3.out HOK.out.cl HOK.out.cn HF3.out).mono ?_);intro e w4 hwr;obtain⟨he,hb⟩:=hwr.some HU.out;subst he;clear hwr;have HF4:=Lib.hid (HF3.out.below hb);have HX4:=Lib.hid (HX3.out.below hb);have HG4:=Lib.hid (HG3.out.below hb);have HI4:=Lib.hid (HI3.out.below hb);have HB4:=Lib.hid (HB3.out.trans (hb.mono HB3.out.size));  clear hb;clear c0 c1' c2' cl;have c0:=HX4.out.cell (o:=0) (u:=.slice a1 rs.length c1) rfl;have c1':=HX4.out.cell (o:=1) (u:=.slice a2 f.nodes.length c2) rfl;have c2':=HX4.out.cell (o:=2) (u:=.slice a3 f.calls.length c3) rfl;have cl:=HX4.out.lt)
  |(go_at_call 37;(with_reducible refine(zxh _ _ _ _).mono ?_);rintro e w9 ⟨E,rfl,hbl,hEl,hb⟩;have hgl:=Nat.lt_of_lt_of_le HG4.out.lt hEl;have HE9:=Lib.hid hbl;have HG9:=Lib.hid (HG4.out.below hb);have HB9:=Lib.hid (HB4.out.trans (hb.mono HB4.out.size));clear hbl hb hEl c0 c1' c2' cl;have g0:=HG9.out.cell (o:=0) (u:=.slice none 0 0) rfl;have g1:=HG9.out.cell (o:=1) (u:=.slice none 0 0) rfl;have gf:=HG9.out.free;have gl:=HG9.out.lt))
 go_wp2;refine bodyPost_ret (v:=.tuple #[.agg #[.slice none 0 0,.slice none 0 0],.iface 109 (.pointer (some ⟨E,0,none⟩))]) (by simp[results,Tryz.results11,go_sem,g0,g1]) rfl ?_;exact NameErr.mk HB9.out HE9.out (Nat.le_succ _) hgl
theorem zfn {W:World}{base n B:Nat}{e t:TypeId}{size:Nat}{v u1 u2:Value}{xs:List Value}{cs:Array Value}(h:W.ownsRow base e size v n xs)(hB:Bl W B t cs)(he:e≠t):((W.setCell ⟨B,0,none⟩ u1).setCell ⟨B,1,none⟩ u2).ownsRow base e size v n xs:=
 ownsRow_setCell_other (ownsRow_setCell_other h (a:=⟨B,0,none⟩) (zaq h hB he) u1) (a:=⟨B,1,none⟩) (zaq h hB he) u2
theorem of_ok (rv nv cv:Value)(rs:List (List Nat × Nat × Int))(f:MF)(w:World)(h:FileIn w rv nv cv rs f)(hK:FileOk rs f)(hd:dupO rs=none)(hu:undO (nmR rs) f=none) :
  Calls Tryz.prog 11 #[.agg #[rv,nv,cv]] w (zr7 (zam rs) (zan (nmR rs) (nmC f) f.nodes) w):=by
 have HOK:=Lib.hid hK;have HD:=Lib.hid hd;have HU:=Lib.hid hu;clear hd hu;obtain⟨hm,⟨a1,c1,rfl,hc1,ha1⟩,⟨hm2,a2,c2,rfl,ha2⟩,a3,c3,rfl,hc3,ha3⟩:=h;have hfi:FileIn w (.slice a1 rs.length c1) (.slice a2 f.nodes.length c2) (.slice a3 f.calls.length c3) rs f:=⟨hm,⟨a1,c1,rfl,hc1,ha1⟩,⟨hm2,a2,c2,rfl,ha2⟩,a3,c3,rfl,hc3,ha3⟩;have HI:=Lib.hid hfi;clear hm hc1 ha1 hm2 ha2 hc3 ha3 hfi hK;have HX0:Hid (Bl ((w.alloc (.cells #[.slice a1 rs.length c1,.slice a2 f.nodes.length c2,.slice a3 f.calls.length c3] 26)).alloc (.cells #[.slice none 0 0,.slice none 0 0] 40)) w.heap.size 26 #[.slice a1 rs.length c1,.slice a2 f.nodes.length c2,.slice a3 f.calls.length c3]):=Lib.hid (Bl.new w _ _).past;have HG0:Hid (Bl ((w.alloc (.cells #[.slice a1 rs.length c1,.slice a2 f.nodes.length c2,.slice a3 f.calls.length c3] 26)).alloc (.cells #[.slice none 0 0,.slice none 0 0] 40)) (w.heap.size+1) 40 #[.slice none 0 0,.slice none 0 0]):=Lib.hid (Bl.new' (by simp));have HB0:=Lib.hid (zbo w (.cells #[.slice a1 rs.length c1,.slice a2 f.nodes.length c2,.slice a3 f.calls.length c3] 26) (.cells #[.slice none 0 0,.slice none 0 0] 40));have HI0:=Lib.hid (HI.out.below HB0.out);go_enter Tryz.func11,Tryz.ntmps11
 go_upto_region 1 with fail
 obtain⟨W0,hW0⟩:∃W0,(w.alloc (.cells #[.slice a1 rs.length c1,.slice a2 f.nodes.length c2,.slice a3 f.calls.length c3] 26)).alloc (.cells #[.slice none 0 0,.slice none 0 0] 40)=W0:=⟨_,rfl⟩;rw[hW0] at HX0 HG0 HB0 HI0;rw[hW0];clear hW0;have c0:=HX0.out.cell (o:=0) (u:=.slice a1 rs.length c1) rfl;have c1':=HX0.out.cell (o:=1) (u:=.slice a2 f.nodes.length c2) rfl;have c2':=HX0.out.cell (o:=2) (u:=.slice a3 f.calls.length c3) rfl;have cl:=HX0.out.lt
 go_wp2_with (first
  |(go_at_call 36;(with_reducible refine(zdg _ _ _ _ _ _ HI0.out (by have:=HOK.out.rl;omega)).mono ?_);rintro e w1 ⟨v1,rfl,hown,hb⟩;have HS:=Lib.hid (StrsAt.of_own hown);clear hown;have HX1:=Lib.hid (HX0.out.below hb);have HG1:=Lib.hid (HG0.out.below hb);have HI1:=Lib.hid (HI0.out.below hb);have HB1:=Lib.hid (HB0.out.trans (hb.mono HB0.out.size));  clear hb;clear c0 c1' c2' cl;have c0:=HX1.out.cell (o:=0) (u:=.slice a1 rs.length c1) rfl;have c1':=HX1.out.cell (o:=1) (u:=.slice a2 f.nodes.length c2) rfl;have c2':=HX1.out.cell (o:=2) (u:=.slice a3 f.calls.length c3) rfl;have cl:=HX1.out.lt)
  |(go_at_call 35;(with_reducible refine(zdf _ _ _ HS.out (by rw[zdv];have:=HOK.out.rl;omega) HOK.out.rs).mono ?_);rintro e w2 ⟨b,rfl,hF,-,hb⟩;have HF2:=Lib.hid hF;clear hF;have HX2:=Lib.hid (HX1.out.below hb);have HG2:=Lib.hid (HG1.out.below hb);have HI2:=Lib.hid (HI1.out.below hb);have HB2:=Lib.hid (HB1.out.trans (hb.mono HB1.out.size));  clear hb;clear c0 c1' c2' cl;have c0:=HX2.out.cell (o:=0) (u:=.slice a1 rs.length c1) rfl;have c1':=HX2.out.cell (o:=1) (u:=.slice a2 f.nodes.length c2) rfl;have c2':=HX2.out.cell (o:=2) (u:=.slice a3 f.calls.length c3) rfl;have cl:=HX2.out.lt)
  |(go_at_call 38;(with_reducible refine(zqc _ _ _ _ _ _ _ HI2.out (by have:=HOK.out.rl;omega) HOK.out.rn HF2.out).mono ?_);intro e w3 hwr;obtain⟨he,hb⟩:=hwr.none HD.out;subst he;clear hwr;have HF3:=Lib.hid (HF2.out.below hb);have HX3:=Lib.hid (HX2.out.below hb);have HG3:=Lib.hid (HG2.out.below hb);have HI3:=Lib.hid (HI2.out.below hb);have HB3:=Lib.hid (HB2.out.trans (hb.mono HB2.out.size));  clear hb;clear c0 c1' c2' cl;have c0:=HX3.out.cell (o:=0) (u:=.slice a1 rs.length c1) rfl;have c1':=HX3.out.cell (o:=1) (u:=.slice a2 f.nodes.length c2) rfl;have c2':=HX3.out.cell (o:=2) (u:=.slice a3 f.calls.length c3) rfl;have cl:=HX3.out.lt)
  |(go_at_call 37;(with_reducible refine(zki _ _).mono ?_);rintro e w5 ⟨rfl,hw5⟩;obtain rfl:=hw5.symm;clear hw5)
  |(go_at_call 39;(with_reducible refine(zxg _ _ _ _ _ _ _ _ HI3.out HOK.out.cl HOK.out.cn HF3.out).mono ?_);intro e w4 hwr;obtain⟨he,hb⟩:=hwr.none HU.out;subst he;clear hwr;have HF4:=Lib.hid (HF3.out.below hb);have HX4:=Lib.hid (HX3.out.below hb);have HG4:=Lib.hid (HG3.out.below hb);have HI4:=Lib.hid (HI3.out.below hb);have HB4:=Lib.hid (HB3.out.trans (hb.mono HB3.out.size));  clear hb;clear c0 c1' c2' cl;have c0:=HX4.out.cell (o:=0) (u:=.slice a1 rs.length c1) rfl;have c1':=HX4.out.cell (o:=1) (u:=.slice a2 f.nodes.length c2) rfl;have c2':=HX4.out.cell (o:=2) (u:=.slice a3 f.calls.length c3) rfl;have cl:=HX4.out.lt)
  |(go_at_call 40;(with_reducible refine(z0u _ _ _ _ _ _ _ HI4.out HOK.out.ok HOK.out.rl HOK.out.nl HOK.out.kl HOK.out.rn HOK.out.cn HF4.out).mono ?_);rintro e w6 ⟨rv6,nv6,qs6,rfl,hR,hN,hb⟩;have HR6:=Lib.hid (za2 hR HB4.out.size);have HN6:Hid (NRow w.heap.size nv6 (zan (nmR rs) (nmC f) f.nodes) qs6 w6):=Lib.hid ⟨hN.1,za2 hN.2.1 HB4.out.size,fun j n q x y=>za2 (hN.2.2 j n q x y) HB4.out.size⟩;clear hR hN;obtain⟨ra6,rc6,rfl⟩:=zag HR6.out;obtain⟨na6,nc6,rfl⟩:=zag HN6.out.2.1;have HG6:=Lib.hid (HG4.out.below hb);have HB6:=Lib.hid (HB4.out.trans (hb.mono HB4.out.size));clear hb c0 c1' c2' cl;have g0:=HG6.out.cell (o:=0) (u:=.slice none 0 0) rfl;have g1:=HG6.out.cell (o:=1) (u:=.slice none 0 0) rfl;have gf:=HG6.out.free;have gl:=HG6.out.lt))
 refine bodyPost_ret (v:=.tuple #[.agg #[.slice ra6 (zam rs).length rc6,.slice na6 (zan (nmR rs) (nmC f) f.nodes).length nc6],.nilIface]) (by simp[results,Tryz.results11,go_sem,g0,g1]) rfl ?_;exact⟨_,_,qs6,rfl,zfn HR6.out HG6.out (by decide),⟨HN6.out.1,zfn HN6.out.2.1 HG6.out (by decide),fun j n q x y=>zfn (HN6.out.2.2 j n q x y) HG6.out (by decide)⟩,(HB6.out.setCell (p:=⟨w.heap.size+1,0,none⟩) (Nat.le_succ _) _).setCell (p:=⟨w.heap.size+1,1,none⟩) (Nat.le_succ _) _⟩
end
section
theorem z0v (l:List Nat):∀(n p:Nat),p<=l.length->l.length-p<=n->∀t,t ∈ strm l p->t.text.length<=l.length:=by
 intro n
 induction n with
 |zero=>
  intro p hp hn t ht;cases h:nextL l p with
  |error k=>rw[zcg h] at ht;obtain rfl:=List.mem_singleton.1 ht;exact Nat.zero_le _
  |ok y=>
   obtain⟨u,m⟩:=y;have hx:=(zfk l p u m h).1;rcases za6 l p hp u m h with⟨h0,hm⟩|⟨h0,h1,h2⟩
   ·rw[zbt h h0] at ht
    obtain rfl:=List.mem_singleton.1 ht;omega
   ·omega
 |succ n ih=>
  intro p hp hn t ht;cases h:nextL l p with
  |error k=>rw[zcg h] at ht;obtain rfl:=List.mem_singleton.1 ht;exact Nat.zero_le _
  |ok y=>
   obtain⟨u,m⟩:=y;have hx:=(zfk l p u m h).1;rcases za6 l p hp u m h with⟨h0,hm⟩|⟨h0,h1,h2⟩
   ·rw[zbt h h0] at ht
    obtain rfl:=List.mem_singleton.1 ht;omega
   ·rw[zbe h h0 ⟨h1,h2⟩] at ht
    rcases List.mem_cons.1 ht with rfl|ht
    ·omega
    ·exact ih m h2 (by omega) t ht
theorem zts {st:Bool}{F:List Tok->MF->PO}(hG:Grow 0 2 F){ts a:List Tok}{f g:MF}(h:defL st F ts f=.ok a g):g.nodes.length+wt a<=f.nodes.length+wt ts:=by
 unfold defL at h;split at h
 ·rename_i k1
  have t1:=zcq (ts:=ts) (by omega);obtain⟨b,k,hb,hk⟩:=zcr h;have e1:b=ts.tail/\k=f:=by
   unfold acc at hb;split at hb
   ·cases hb
   ·cases hb;exact⟨rfl,rfl⟩
  obtain⟨rfl,rfl⟩:=e1;split at hk
  ·rename_i k2
   have t2:=zcq (ts:=ts.tail) (by omega);obtain⟨c,j,hc,hj⟩:=zcr hk;have e2:c=ts.tail.tail/\j=k:=by
    unfold acc at hc;split at hc
    ·cases hc
    ·cases hc;exact⟨rfl,rfl⟩
   obtain⟨rfl,rfl⟩:=e2;have hg:=hG ts.tail.tail j;rw[hj] at hg;have:=hg.2.2.2.2.1;omega
  ·cases hk
 ·cases h
theorem zk9 {st:Bool}{F:List Tok->MF->PO}(hG:Grow 0 2 F):∀(n:Nat) (ts:List Tok) (f g:MF) (rs rs':List (List Nat × Nat × Int)),defsL st F n ts f rs=.ok rs' g->g.nodes.length<=f.nodes.length+wt ts
 |0,_,_,_,_,_,h=>by cases h
 |n+1,ts,f,g,rs,rs',h=>by
  unfold defsL at h;cases hd:defL st F ts f with
  |bad a dp=>rw[hd] at h;cases h
  |ok a k=>
   have hc:=zts hG hd;rw[hd] at h;dsimp only at h;by_cases h0:kd a=0
   ·rw[if_pos h0] at h
    cases h;omega
   ·rw[if_neg h0] at h
    have:=zk9 hG n a k g _ _ h;omega
def TxB (B:Nat)(t:Tok):Prop:=t.text.length<=B
def FiQ (B:Nat)(f:MF):Prop:=COk f/\(∀n,n ∈ f.nodes->n.kids.length<=B)/\∀c,c ∈ f.calls->c.1.length<=B
theorem z6x (B:Nat)(hB:1<=B):Stp B (TxB B) (FiQ B) where
 add f n h hn hk:=⟨h.1.add hn,fun m hm=>by
  rcases List.mem_append.1 hm with hm|hm
  ·exact h.2.1 m hm
  ·obtain rfl:=List.mem_singleton.1 hm
   exact hk,h.2.2⟩
 call f t h ht _:=⟨h.1.call t,fun m hm=>by
  rcases List.mem_append.1 hm with hm|hm
  ·exact h.2.1 m hm
  ·obtain rfl:=List.mem_singleton.1 hm
   exact Nat.zero_le _,fun c hc=>by
  rcases List.mem_append.1 hc with hc|hc
  ·exact h.2.2 c hc
  ·obtain rfl:=List.mem_singleton.1 hc
   exact ht⟩
 txt _ h:=h
 pos:=hB
theorem zb9 {s:ByteArray}{rs:List (List Nat × Nat × Int)}{f:MF}(hs:s.size<=1050000)(h:zaz (bts s)=.ok rs f):FileOk rs f:=by
 have hb:=zns hs h;have hl:=zri s;have hr:=zlz _ _ _ _ _ _ h;have hn:=zk9 (Gr.expr 200 true) _ _ _ _ _ _ h;obtain⟨hw,-,-⟩:=zfl (bts s) _ 0 (Nat.zero_le _) (Nat.le_refl _);rw[zaj] at hw;have e1:([]:List (List Nat × Nat × Int)).length=0:=rfl;have e2:(⟨[],[]⟩:MF).nodes.length=0:=rfl;have hT:TkA 1050002 (TxB 1050002) (strm (bts s) 0):=⟨by omega,fun t ht=>by
  have:=z0v (bts s) _ 0 (Nat.zero_le _) (Nat.le_refl _) t ht;rw[zaj] at this;show t.text.length<=_;omega⟩
 obtain⟨h1,h2,h3,h4⟩:=z0t (z6x 1050002 (by decide)) ⟨COk.nil,(fun n hn=>by cases hn),(fun c hc=>by cases hc)⟩ hT h;exact⟨h2,by omega,hb.2,by omega,fun n hn=>by have:=h3 n hn;omega,fun r hr=>by
  obtain⟨t,ht,-,e,-⟩:=h1 r hr;rw[e];have:t.text.length<=1050002:=ht;omega,fun r hr=>by have:=h4 r hr;omega⟩
end
section
open Go.RowKit
theorem zgz (rv nv cv:Value)(rs:List (List Nat × Nat × Int))(f:MF)(x:ByteArray)(w:World)(h:FileIn w rv nv cv rs f)(hK:FileOk rs f)(hx:x.size<=2000000) :
  Calls Tryz.prog 17 #[.agg #[rv,nv,cv],.string x] w fun e w'=>e=.returned (.int .i64 (idxO (fndL (nmR rs) x)))/\Below w.heap.size w w':=by
 have HOK:=Lib.hid hK;obtain⟨hm,⟨a1,c1,rfl,hc1,ha1⟩,⟨hm2,a2,c2,rfl,ha2⟩,a3,c3,rfl,hc3,ha3⟩:=h;have hfi:FileIn w (.slice a1 rs.length c1) (.slice a2 f.nodes.length c2) (.slice a3 f.calls.length c3) rs f:=⟨hm,⟨a1,c1,rfl,hc1,ha1⟩,⟨hm2,a2,c2,rfl,ha2⟩,a3,c3,rfl,hc3,ha3⟩;have HI:=Lib.hid hfi;have HB0:=Lib.hid (zaa w (.cells #[.slice a1 rs.length c1,.slice a2 f.nodes.length c2,.slice a3 f.calls.length c3] 26));have HRN:=Lib.hid (zdg _ _ _ _ _ _ (hfi.below HB0.out) (by have:=hK.rl;omega));clear hm hc1 ha1 hm2 ha2 hc3 ha3 hfi hK;go_enter Tryz.func17,Tryz.ntmps17
 go_wp2_with (first
  |(go_at_call 36;(with_reducible refine HRN.out.mono ?_);rintro e w1 ⟨v1,rfl,hown,hb⟩;have HS:=Lib.hid (StrsAt.of_own hown);have HB1:=Lib.hid (HB0.out.trans (hb.mono HB0.out.size));clear hown hb)
  |(go_at_call 35;(with_reducible refine(zdf _ _ _ HS.out (by rw[zdv];have:=HOK.out.rl;omega) HOK.out.rs).mono ?_);rintro e w2 ⟨b,rfl,hF,-,hb⟩;have HF2:=Lib.hid hF;have HB2:=Lib.hid (HB1.out.trans (hb.mono HB1.out.size));clear hF hb;unfold finF)
  |(go_at_call 56;(with_reducible refine(zim _ _ _ _ HF2.out (by unfold maxLen;omega)).mono ?_);rintro e w3 ⟨rfl,hw3⟩;obtain rfl:=hw3.symm;clear hw3))
 go_ret;exact⟨rfl,HB2.out⟩
theorem StrsIs.to {l:List ByteArray}{w W w':World}{e:Ending}(h:StrsIs l W e w')(hb:Below w.heap.size w W):StrsIs l w e w':=by
 obtain⟨v,he,ho,hw⟩:=h;exact⟨v,he,za2 ho hb.size,hb.trans (hw.mono hb.size)⟩
theorem zio (rv nv cv:Value)(rs:List (List Nat × Nat × Int))(f:MF)(w:World)(h:FileIn w rv nv cv rs f)(hK:FileOk rs f) :
  Calls Tryz.prog 20 #[.agg #[rv,nv,cv]] w (StrsIs (missL (nmC f) (nmR rs) f.calls.length) w):=by
 have HOK:=Lib.hid hK;obtain⟨hm,⟨a1,c1,rfl,hc1,ha1⟩,⟨hm2,a2,c2,rfl,ha2⟩,a3,c3,rfl,hc3,ha3⟩:=h;have hfi:FileIn w (.slice a1 rs.length c1) (.slice a2 f.nodes.length c2) (.slice a3 f.calls.length c3) rs f:=⟨hm,⟨a1,c1,rfl,hc1,ha1⟩,⟨hm2,a2,c2,rfl,ha2⟩,a3,c3,rfl,hc3,ha3⟩;have HB0:=Lib.hid (zaa w (.cells #[.slice a1 rs.length c1,.slice a2 f.nodes.length c2,.slice a3 f.calls.length c3] 26));have HX0:=Lib.hid (Bl.new w 26 #[.slice a1 rs.length c1,.slice a2 f.nodes.length c2,.slice a3 f.calls.length c3]);have HI0:=Lib.hid (hfi.below HB0.out);have HLC:=Lib.hid (zcv f);clear hm hc1 ha1 hm2 ha2 hc3 ha3 hfi hK;go_enter Tryz.func20,Tryz.ntmps20
 go_upto_region 1 with fail
 obtain⟨W0,hW0⟩:∃W0,w.alloc (.cells #[.slice a1 rs.length c1,.slice a2 f.nodes.length c2,.slice a3 f.calls.length c3] 26)=W0:=⟨_,rfl⟩;rw[hW0] at HB0 HX0 HI0;rw[hW0];clear hW0;have c0:=HX0.out.cell (o:=0) (u:=.slice a1 rs.length c1) rfl;have c1':=HX0.out.cell (o:=1) (u:=.slice a2 f.nodes.length c2) rfl;have c2':=HX0.out.cell (o:=2) (u:=.slice a3 f.calls.length c3) rfl;have cl:=HX0.out.lt;have HCA:=Lib.hid (fun(W:World) (hW:Below W0.heap.size W0 W)=>zob _ _ _ _ _ W (HI0.out.below hW) HOK.out.cl);have HRN:=Lib.hid (fun(W:World) (hW:Below W0.heap.size W0 W)=>zdg _ _ _ _ _ W (HI0.out.below hW) (by have:=HOK.out.rl;omega))
 go_region_with (first
  |(go_at_call 45;(refine(HCA.out _ (by repeat (first|exact Below.refl _ _|refine Below.drew ?_))).mono ?_);rintro e w1 ⟨v1,rfl,hown,hb⟩;have hb1:Below W0.heap.size W0 w1:=Below.trans (by repeat (first|exact Below.refl _ _|refine Below.drew ?_)) (hb.mono (by simp));have HS1:=Lib.hid (StrsAt.of_own hown);have HB1:=Lib.hid hb1;have HX1:=Lib.hid (HX0.out.below hb1);clear hown hb hb1 c0 c1' c2' cl;have c0:=HX1.out.cell (o:=0) (u:=.slice a1 rs.length c1) rfl;have c1':=HX1.out.cell (o:=1) (u:=.slice a2 f.nodes.length c2) rfl;have c2':=HX1.out.cell (o:=2) (u:=.slice a3 f.calls.length c3) rfl;have cl:=HX1.out.lt)
  |(go_at_call 36;(refine(HRN.out _ (by repeat (first|exact HB1.out|refine Below.drew ?_))).mono ?_);rintro e w2 ⟨v2,rfl,hown,hb⟩;have HS3:=Lib.hid (HS1.out.below hb);have HS2:=Lib.hid (StrsAt.of_own hown);have HB2:=Lib.hid (HB1.out.trans (hb.mono HB1.out.size));clear hown hb c0 c1' c2' cl)
  |(go_at_call 44;(refine(zr6 _ _ _ _ _ HS3.out HS2.out (by rw[HLC.out];exact HOK.out.cl) (by rw[zdv];have:=HOK.out.rl;omega) HOK.out.cs HOK.out.rs).mono ?_);rintro e w3 ⟨v3,rfl,hown,hb⟩;have HS4:=Lib.hid hown;have HB4:=Lib.hid hb;clear hown hb))
 all_goals
  rw[HLC.out] at HS4;have hs1:=HB0.out.size;have HB5:=Lib.hid (HB0.out.trans (HB2.out.mono hs1));go_wp2;go_ret;exact⟨v3,rfl,za2 HS4.out HB5.out.size,HB5.out.trans (HB4.out.mono HB5.out.size)⟩
end
section
open Go.RowKit
theorem z0w (w:World):(sizeOf (Tryz.prog.elem 58)).run Tryz.prog w=.ok 1 w:=by kernel_rfl
theorem z0x:Tryz.prog.underlying 58=some (.slice (Tryz.prog.elem 58)):=by kernel_rfl
theorem z0y {base:Nat}{w0:World}{a:Option Addr}{n cap:Nat}{l:List ByteArray}(h:w0.ownsRow base 9 1 (.slice a n cap) n (strV l))(m:Nat)(hm:m<=n):∃a' c',(∀w,(Instr.slice 58 (.slice a n cap) (some (.int .i64 (m:Int))) none none).run Tryz.prog w=.ok (.slice a' (n-m) c') w)/\StrsAt w0 (.slice a' (n-m) c') (l.drop m):=by
 have hl:l.length=n:=by have:=h.1;unfold strV at this;rw[List.length_map,Nat.mul_one] at this;exact this
 have hd:(l.drop m).length=n-m:=by rw[List.length_drop,hl]
 refine⟨if cap=m then a else a.map (·.add (m*1)),cap-m,fun w=>?_,?_⟩
 ·rw[run_slice_l w 58 a n cap z0x .i64 (m:Int) (by omega) (by omega),z0w,Result.andThen_ok]
  rfl
 ·rcases h.2 with⟨hv,h0⟩|⟨g,c,cur,hv,hg,hh,hn,hc,hsz,htk⟩
  ·injection hv with e1 e2 e3
   refine⟨_,_,by rw[hd],by rw[hd];omega,.inl (by rw[hd];omega)⟩
  ·injection hv with e1 e2 e3
   subst e1 e3;refine⟨_,_,by rw[hd],by rw[hd];omega,?_⟩;by_cases hcm:cap=m
   ·left;rw[hd];omega
   ·right
    rw[if_neg hcm];refine⟨g,m,by simp[Addr.add];intro e;exact e.symm,fun j u hu=>?_⟩;rw[List.map_drop,List.getElem?_drop] at hu;have:=h.cells rfl (m+j) u hu;rw[Addr.add_lit,Nat.zero_add] at this;exact this
theorem zr9 (rv nv cv:Value)(rs:List (List Nat × Nat × Int))(f:MF)(D:List ByteArray)(hD:D=(nmR rs).drop 1)(w:World)(h:FileIn w rv nv cv rs f)(hK:FileOk rs f) :
  Calls Tryz.prog 22 #[.agg #[rv,nv,cv]] w (StrsIs (missL D (nmC f) D.length) w):=by
 have HOK:=Lib.hid hK;obtain⟨hm,⟨a1,c1,rfl,hc1,ha1⟩,⟨hm2,a2,c2,rfl,ha2⟩,a3,c3,rfl,hc3,ha3⟩:=h;have hfi:FileIn w (.slice a1 rs.length c1) (.slice a2 f.nodes.length c2) (.slice a3 f.calls.length c3) rs f:=⟨hm,⟨a1,c1,rfl,hc1,ha1⟩,⟨hm2,a2,c2,rfl,ha2⟩,a3,c3,rfl,hc3,ha3⟩;have HB0:=Lib.hid (zaa w (.cells #[.slice a1 rs.length c1,.slice a2 f.nodes.length c2,.slice a3 f.calls.length c3] 26));have HX0:=Lib.hid (Bl.new w 26 #[.slice a1 rs.length c1,.slice a2 f.nodes.length c2,.slice a3 f.calls.length c3]);have HI0:=Lib.hid (hfi.below HB0.out);have HLC:=Lib.hid (zcv f);clear hm hc1 ha1 hm2 ha2 hc3 ha3 hfi hK;go_enter Tryz.func22,Tryz.ntmps22
 go_upto_region 1 with fail
 obtain⟨W0,hW0⟩:∃W0,w.alloc (.cells #[.slice a1 rs.length c1,.slice a2 f.nodes.length c2,.slice a3 f.calls.length c3] 26)=W0:=⟨_,rfl⟩;rw[hW0] at HB0 HX0 HI0;rw[hW0];clear hW0;have HD:=Lib.hid hD;clear hD;have c0:=HX0.out.cell (o:=0) (u:=.slice a1 rs.length c1) rfl;have c1':=HX0.out.cell (o:=1) (u:=.slice a2 f.nodes.length c2) rfl;have c2':=HX0.out.cell (o:=2) (u:=.slice a3 f.calls.length c3) rfl;have cl:=HX0.out.lt;have HRN:=Lib.hid (zdg _ _ _ _ _ W0 HI0.out (by have:=HOK.out.rl;omega))
 go_upto_region 2 with(go_at_call 36;(with_reducible refine HRN.out.mono ?_);rintro e w1 ⟨v1,rfl,hown,hb⟩;have HS1:=Lib.hid hown;have HB1:=Lib.hid hb;have HX1:=Lib.hid (HX0.out.below hb);clear hown hb c0 c1' c2' cl)
 obtain⟨va,vc,rfl⟩:=zag HS1.out;have hln:(nmR rs).length<=10000000:=by rw[zdv];exact HOK.out.rl
 have HLN:=Lib.hid hln;have HRS:=Lib.hid HOK.out.rs;obtain⟨L,hL⟩:∃L,nmR rs=L:=⟨_,rfl⟩;rw[hL] at HLN HS1 HD hln HRS;rw[hL];clear hL HRN;obtain⟨m,hm1,hm2,hm3⟩:∃m:Nat,min (1:Int) (L.length:Int)=(m:Int)/\m<=L.length/\L.drop 1=L.drop m:=by
  by_cases h0:L.length=0
  ·refine⟨0,by rw[h0];rfl,Nat.zero_le _,?_⟩
   rw[List.length_eq_zero_iff.1 h0];rfl
  ·exact⟨1,by omega,by omega,rfl⟩
 obtain⟨a',c',hrun,hst⟩:=z0y HS1.out m hm2;rw[<-hm3,<-HD.out] at hst;have HST:=Lib.hid hst;have hdl:D.length=L.length-m:=by rw[HD.out,hm3,List.length_drop]
 have HDL:=Lib.hid hdl;have HDS:Hid (∀x,x ∈ D->x.size<=2000000):=Lib.hid fun x hx=>HRS.out x (List.mem_of_mem_drop (by rw[<-HD.out];exact hx))
 have c0:=HX1.out.cell (o:=0) (u:=.slice a1 rs.length c1) rfl;have c1':=HX1.out.cell (o:=1) (u:=.slice a2 f.nodes.length c2) rfl;have c2':=HX1.out.cell (o:=2) (u:=.slice a3 f.calls.length c3) rfl;have cl:=HX1.out.lt;have HCA:=Lib.hid (fun(W:World) (hW:Below W0.heap.size W0 W)=>zob _ _ _ _ _ W (HI0.out.below hW) HOK.out.cl);clear hst hdl hm3 HX0
 go_region_with (first
  |(go_at_call 45;(refine(HCA.out _ (by repeat (first|exact HB1.out|refine Below.drew ?_))).mono ?_);rintro e w2 ⟨v2,rfl,hown,hb⟩;have hb2:Below w1.heap.size w1 w2:=Below.trans (by repeat (first|exact Below.refl _ _|refine Below.drew ?_)) (hb.mono (by simp));have HS2:=Lib.hid (StrsAt.of_own hown);have HS3:=Lib.hid (HST.out.below hb2);have HB2:=Lib.hid (HB1.out.trans (hb2.mono HB1.out.size));clear hown hb hb2 c0 c1' c2' cl)
  |(go_at_call 44;(refine(zr6 _ _ D (nmC f) _ HS3.out HS2.out (by rw[HDL.out];have:=HLN.out;omega) (by rw[HLC.out];exact HOK.out.cl) HDS.out HOK.out.cs).mono ?_);rintro e w3 ⟨v3,rfl,hown,hb⟩;have HS4:=Lib.hid hown;have HB4:=Lib.hid hb;clear hown hb))
 all_goals
  have hs1:=HB0.out.size;have HB5:=Lib.hid (HB0.out.trans (HB2.out.mono hs1));go_wp2;go_ret;exact⟨v3,rfl,za2 HS4.out HB5.out.size,HB5.out.trans (HB4.out.mono HB5.out.size)⟩
end
end Go.Proofs.YtnmflokhnaiiiaaGreatDoor
