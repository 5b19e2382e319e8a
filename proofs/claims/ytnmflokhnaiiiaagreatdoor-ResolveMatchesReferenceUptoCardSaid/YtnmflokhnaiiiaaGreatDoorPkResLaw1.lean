/- ResolveMatchesReference. Written by wip/gen/reslaw1.py. -/
import Derived.Test.YtnmflokhnaiiiaaGreatDoorPkJ1
import Derived.Test.YtnmflokhnaiiiaaGreatDoorPkGC
set_option maxRecDepth 100000
set_option maxHeartbeats 8000000
namespace Go.Proofs.YtnmflokhnaiiiaaGreatDoor
section
open Go.RowKit
theorem zoq {b:Nat}{r:ByteArray}{c p:Int}{w:World}(h:(Err.within b r (.fault c p)).In w)(hg:w.cell? ⟨0,0,none⟩=some (rt 28)):Calls Tryz.prog 14 #[.iface 109 (.pointer (some ⟨b,0,none⟩))] w fun e w'=>e=.returned (.tuple #[.int .i64 c,.bool true])/\Below w.heap.size w w':=zm6 (.within b r (.fault c p)) c w rfl h hg
theorem zor {b:Nat}{r:ByteArray}{c p:Int}{w:World}(h:(Err.within b r (.fault c p)).In w)(hg:w.cell? ⟨0,0,none⟩=some (rt 28)):Calls Tryz.prog 16 #[.iface 109 (.pointer (some ⟨b,0,none⟩))] w fun e w'=>e=.returned (.tuple #[.string r,.bool true])/\Below w.heap.size w w':=zpj b r (.fault c p) w h hg
theorem z1i (hA:zbx)(s:ByteArray)(w:World)(hl:LexLaid w)(hs:s.size<=1000){rs:List (List Nat × Nat × Int)}{f:MF}(hO:zaz (bts s)=.ok rs f)(x:List Nat × Nat)(hd:dupO rs=some x):Calls Tryz.prog 3 #[.string s] w fun e w'=>e=.returned (.bool true)/\Below w.heap.size w w':=by
 have HD:=Lib.hid hd;clear hd;have HAW:=Lib.hid fun(W:World) (hb:Below w.heap.size w W)=>hA W (hl.kept hb (Nat.le_refl _))
 have HP:=Lib.hid fun(W:World) (hb:Below w.heap.size w W)=>(zax s W (hl.2.kept hb (Nat.le_refl _)) (by omega)).mono fun e w' h=>zb6 (by
  rw[zbj,hO] at h;exact h)
 have HQ:=Lib.hid fun(W:World) (_:Below w.heap.size w W)=>(za1 s W (by omega)).mono fun e w' h=>zc2 (by
  rw[hO] at h;exact h)
 have HOK:=Lib.hid (zb9 (by omega) hO);have HB0:=Lib.hid (Below.refl w.heap.size w);have HL:=Lib.hid hl;have k1:¬(1000:Int)<(s.size:Int):=by omega
 clear hO hl hs hA;go_enter Tryz.func3,Tryz.ntmps3
 go_upto_region 3 with(first
  |(go_at_call 8;(with_reducible refine(HP.out _ HB0.out).mono ?_);rintro e w1 ⟨va,vc,na,nc,ca,cc,rfl,hG,hb⟩;have hn:=zaa w1 (.cells #[.slice va rs.length vc,.slice na f.nodes.length nc,.slice ca f.calls.length cc] 26);have hbn:=hb.trans (hn.mono hb.size);have HG1:=Lib.hid (hG.below hn).file;have HF1:=Lib.hid (Bl.new w1 26 #[.slice va rs.length vc,.slice na f.nodes.length nc,.slice ca f.calls.length cc]);have HB1:=Lib.hid (HB0.out.trans (hbn.mono HB0.out.size));clear hG hb hn hbn)
  |(go_at_call 9;(with_reducible refine(HQ.out _ HB1.out).mono ?_);rintro e w2 ⟨vb,vbc,nb,nbc,cb,cbc,rfl,hG,hb⟩;have hn:=zaa w2 (.cells #[.slice vb rs.length vbc,.slice nb f.nodes.length nbc,.slice cb f.calls.length cbc] 34);have hbn:=hb.trans (hn.mono hb.size);have HH2:=Lib.hid (hG.below hn).file;have HG2:=Lib.hid (HG1.out.below hbn);have HF2:=Lib.hid (HF1.out.below hbn);have HE2:=Lib.hid (Bl.new w2 34 #[.slice vb rs.length vbc,.slice nb f.nodes.length nbc,.slice cb f.calls.length cbc]);have HB2:=Lib.hid (HB1.out.trans (hbn.mono HB1.out.size));clear hG hb hn hbn))
 obtain⟨W2,hW2⟩:∃W2,w2.alloc (.cells #[.slice vb rs.length vbc,.slice nb f.nodes.length nbc,.slice cb f.calls.length cbc] 34)=W2:=⟨_,rfl⟩;obtain⟨F1,hF1⟩:∃F1,w1.heap.size=F1:=⟨_,rfl⟩;obtain⟨F2,hF2⟩:∃F2,w2.heap.size=F2:=⟨_,rfl⟩;rw[hW2] at HG2 HF2 HH2 HE2 HB2;rw[hF1] at HF2;rw[hF2] at HE2;rw[hW2,hF1,hF2];clear hW2 hF1 hF2 HG1 HF1 HB1
 go_upto_region 7 with(go_at_call 10;(with_reducible refine(HAW.out _ HB2.out).mono ?_);rintro e w3 ⟨rfl,hb⟩;have HG3:=Lib.hid (HG2.out.below hb);have HF3:=Lib.hid (HF2.out.below hb);have HH3:=Lib.hid (HH2.out.below hb);have HE3:=Lib.hid (HE2.out.below hb);have HB3:=Lib.hid (HB2.out.trans (hb.mono HB2.out.size));clear hb)
 have f0:=HF3.out.cell (o:=0) (u:=.slice va rs.length vc) rfl;have f1:=HF3.out.cell (o:=1) (u:=.slice na f.nodes.length nc) rfl;have f2:=HF3.out.cell (o:=2) (u:=.slice ca f.calls.length cc) rfl;have fl:=HF3.out.lt;have e0:=HE3.out.cell (o:=0) (u:=.slice vb rs.length vbc) rfl;have e1:=HE3.out.cell (o:=1) (u:=.slice nb f.nodes.length nbc) rfl;have e2:=HE3.out.cell (o:=2) (u:=.slice cb f.calls.length cbc) rfl;have el:=HE3.out.lt
 go_upto_region 9 with(first
  |(go_at_call 11;(with_reducible refine(zxi _ _ _ rs f _ HG3.out HOK.out x HD.out).mono ?_);rintro e w4 ⟨b,rfl,hE,hb⟩;have hn:=zaa w4 (.cells #[.slice none 0 0,.slice none 0 0] 40);have hbn:=hb.trans (hn.mono hb.size);have HX4:=Lib.hid (hE.kept hn (Nat.le_refl _));have HY4:=Lib.hid (Bl.new w4 40 #[.slice none 0 0,.slice none 0 0]);have HH4:=Lib.hid (HH3.out.below hbn);have HE4:=Lib.hid (HE3.out.below hbn);have HB4:=Lib.hid (HB3.out.trans (hbn.mono HB3.out.size));clear hE hb hn hbn f0 f1 f2 fl e0 e1 e2 el;have e0:=HE4.out.cell (o:=0) (u:=.slice vb rs.length vbc) rfl;have e1:=HE4.out.cell (o:=1) (u:=.slice nb f.nodes.length nbc) rfl;have e2:=HE4.out.cell (o:=2) (u:=.slice cb f.calls.length cbc) rfl;have el:=HE4.out.lt)
  |(go_at_call 12;(with_reducible refine(zeu _ _ _ rs f _ HH4.out HOK.out).mono ?_);intro e w5 hr;obtain⟨he,hb⟩:=zx8 HD.out hr;subst he;clear hr;have hn:=zaa w5 (.cells #[.slice none 0 0,.slice none 0 0,.string (strOf x.1),.int .i64 2,.int .i64 (x.2:Int)] 44);have hbn:=hb.trans (hn.mono hb.size);have HX5:=Lib.hid (HX4.out.kept hbn (Nat.le_refl _));have HY5:=Lib.hid (HY4.out.below hbn);have HZ5:=Lib.hid (Bl.new w5 44 #[.slice none 0 0,.slice none 0 0,.string (strOf x.1),.int .i64 2,.int .i64 (x.2:Int)]);have HB5:=Lib.hid (HB4.out.trans (hbn.mono HB4.out.size));clear hb hn hbn e0 e1 e2 el))
 obtain⟨W5,hW5⟩:∃W5,w5.alloc (.cells #[.slice none 0 0,.slice none 0 0,.string (strOf x.1),.int .i64 2,.int .i64 (x.2:Int)] 44)=W5:=⟨_,rfl⟩;obtain⟨Y,hY⟩:∃Y,w4.heap.size=Y:=⟨_,rfl⟩;obtain⟨Z,hZ⟩:∃Z,w5.heap.size=Z:=⟨_,rfl⟩;rw[hW5] at HX5 HY5 HZ5 HB5;rw[hY] at HY5;rw[hZ] at HZ5;rw[hW5,hY,hZ];clear hW5 hY hZ HX4 HY4 HB4 HH4 HE4 HH3 HE3 HG3 HF3 HB3;have z2:=HZ5.out.cell (o:=3) (u:=.int .i64 2) rfl;have zl:=HZ5.out.lt;have HET:=Lib.hid fun(W:World) (hb:Below W5.heap.size W5 W)=>zhp (zhp HL.out.1 HB5.out) hb
 go_wp2_with (first
  |(go_at_call 14;(with_reducible refine(zoq HX5.out (HET.out _ (Below.refl _ _))).mono ?_);rintro e w6 ⟨rfl,hb⟩;have HQ6:=Lib.hid hb;clear hb z2 zl)
  |(go_at_call 15;(with_reducible refine(zqh (HX5.out.kept HQ6.out (Nat.le_refl _)) (HET.out _ HQ6.out)).mono ?_);rintro e w7 ⟨rfl,hb⟩;have HQ7:=Lib.hid (HQ6.out.trans (hb.mono HQ6.out.size));clear hb)
  |(go_at_call 16;(with_reducible refine(zor (HX5.out.kept HQ7.out (Nat.le_refl _)) (HET.out _ HQ7.out)).mono ?_);rintro e w8 ⟨rfl,hb⟩;have HQ8:=Lib.hid (HQ7.out.trans (hb.mono HQ7.out.size));clear hb;have HZ8:=Lib.hid (HZ5.out.below HQ8.out);have HY8:=Lib.hid (HY5.out.below HQ8.out);have z1:=HZ8.out.cell (o:=2) (u:=.string (strOf x.1)) rfl;have z2:=HZ8.out.cell (o:=3) (u:=.int .i64 2) rfl;have z3:=HZ8.out.cell (o:=4) (u:=.int .i64 (x.2:Int)) rfl;have zl:=HZ8.out.lt;have y0:=HY8.out.cell (o:=0) (u:=.slice none 0 0) rfl;have y1:=HY8.out.cell (o:=1) (u:=.slice none 0 0) rfl;have yl:=HY8.out.lt)
  |(go_at_call 13;(with_reducible refine(zjt _).mono ?_);rintro e w9 ⟨rfl,hb⟩;have HQ9:=Lib.hid (HQ8.out.trans (hb.mono HQ8.out.size));clear hb))
 go_ret;exact⟨rfl,HB5.out.trans (HQ9.out.mono HB5.out.size)⟩
theorem z1j (hA:zbx)(s:ByteArray)(w:World)(hl:LexLaid w)(hs:s.size<=1000){rs:List (List Nat × Nat × Int)}{f:MF}(hO:zaz (bts s)=.ok rs f)(x:List Nat × Nat)(hd:dupO rs=none)(hu:undO (nmR rs) f=some x):Calls Tryz.prog 3 #[.string s] w fun e w'=>e=.returned (.bool true)/\Below w.heap.size w w':=by
 have HD:=Lib.hid hd;have HU:=Lib.hid hu;clear hd hu;have HAW:=Lib.hid fun(W:World) (hb:Below w.heap.size w W)=>hA W (hl.kept hb (Nat.le_refl _))
 have HP:=Lib.hid fun(W:World) (hb:Below w.heap.size w W)=>(zax s W (hl.2.kept hb (Nat.le_refl _)) (by omega)).mono fun e w' h=>zb6 (by
  rw[zbj,hO] at h;exact h)
 have HQ:=Lib.hid fun(W:World) (_:Below w.heap.size w W)=>(za1 s W (by omega)).mono fun e w' h=>zc2 (by
  rw[hO] at h;exact h)
 have HOK:=Lib.hid (zb9 (by omega) hO);have HB0:=Lib.hid (Below.refl w.heap.size w);have HL:=Lib.hid hl;have k1:¬(1000:Int)<(s.size:Int):=by omega
 clear hO hl hs hA;go_enter Tryz.func3,Tryz.ntmps3
 go_upto_region 3 with(first
  |(go_at_call 8;(with_reducible refine(HP.out _ HB0.out).mono ?_);rintro e w1 ⟨va,vc,na,nc,ca,cc,rfl,hG,hb⟩;have hn:=zaa w1 (.cells #[.slice va rs.length vc,.slice na f.nodes.length nc,.slice ca f.calls.length cc] 26);have hbn:=hb.trans (hn.mono hb.size);have HG1:=Lib.hid (hG.below hn).file;have HF1:=Lib.hid (Bl.new w1 26 #[.slice va rs.length vc,.slice na f.nodes.length nc,.slice ca f.calls.length cc]);have HB1:=Lib.hid (HB0.out.trans (hbn.mono HB0.out.size));clear hG hb hn hbn)
  |(go_at_call 9;(with_reducible refine(HQ.out _ HB1.out).mono ?_);rintro e w2 ⟨vb,vbc,nb,nbc,cb,cbc,rfl,hG,hb⟩;have hn:=zaa w2 (.cells #[.slice vb rs.length vbc,.slice nb f.nodes.length nbc,.slice cb f.calls.length cbc] 34);have hbn:=hb.trans (hn.mono hb.size);have HH2:=Lib.hid (hG.below hn).file;have HG2:=Lib.hid (HG1.out.below hbn);have HF2:=Lib.hid (HF1.out.below hbn);have HE2:=Lib.hid (Bl.new w2 34 #[.slice vb rs.length vbc,.slice nb f.nodes.length nbc,.slice cb f.calls.length cbc]);have HB2:=Lib.hid (HB1.out.trans (hbn.mono HB1.out.size));clear hG hb hn hbn))
 obtain⟨W2,hW2⟩:∃W2,w2.alloc (.cells #[.slice vb rs.length vbc,.slice nb f.nodes.length nbc,.slice cb f.calls.length cbc] 34)=W2:=⟨_,rfl⟩;obtain⟨F1,hF1⟩:∃F1,w1.heap.size=F1:=⟨_,rfl⟩;obtain⟨F2,hF2⟩:∃F2,w2.heap.size=F2:=⟨_,rfl⟩;rw[hW2] at HG2 HF2 HH2 HE2 HB2;rw[hF1] at HF2;rw[hF2] at HE2;rw[hW2,hF1,hF2];clear hW2 hF1 hF2 HG1 HF1 HB1
 go_upto_region 7 with(go_at_call 10;(with_reducible refine(HAW.out _ HB2.out).mono ?_);rintro e w3 ⟨rfl,hb⟩;have HG3:=Lib.hid (HG2.out.below hb);have HF3:=Lib.hid (HF2.out.below hb);have HH3:=Lib.hid (HH2.out.below hb);have HE3:=Lib.hid (HE2.out.below hb);have HB3:=Lib.hid (HB2.out.trans (hb.mono HB2.out.size));clear hb)
 have f0:=HF3.out.cell (o:=0) (u:=.slice va rs.length vc) rfl;have f1:=HF3.out.cell (o:=1) (u:=.slice na f.nodes.length nc) rfl;have f2:=HF3.out.cell (o:=2) (u:=.slice ca f.calls.length cc) rfl;have fl:=HF3.out.lt;have e0:=HE3.out.cell (o:=0) (u:=.slice vb rs.length vbc) rfl;have e1:=HE3.out.cell (o:=1) (u:=.slice nb f.nodes.length nbc) rfl;have e2:=HE3.out.cell (o:=2) (u:=.slice cb f.calls.length cbc) rfl;have el:=HE3.out.lt
 go_upto_region 9 with(first
  |(go_at_call 11;(with_reducible refine(zr8 _ _ _ rs f _ HG3.out HOK.out x HD.out HU.out).mono ?_);rintro e w4 ⟨b,rfl,hE,hb⟩;have hn:=zaa w4 (.cells #[.slice none 0 0,.slice none 0 0] 40);have hbn:=hb.trans (hn.mono hb.size);have HX4:=Lib.hid (hE.kept hn (Nat.le_refl _));have HY4:=Lib.hid (Bl.new w4 40 #[.slice none 0 0,.slice none 0 0]);have HH4:=Lib.hid (HH3.out.below hbn);have HE4:=Lib.hid (HE3.out.below hbn);have HB4:=Lib.hid (HB3.out.trans (hbn.mono HB3.out.size));clear hE hb hn hbn f0 f1 f2 fl e0 e1 e2 el;have e0:=HE4.out.cell (o:=0) (u:=.slice vb rs.length vbc) rfl;have e1:=HE4.out.cell (o:=1) (u:=.slice nb f.nodes.length nbc) rfl;have e2:=HE4.out.cell (o:=2) (u:=.slice cb f.calls.length cbc) rfl;have el:=HE4.out.lt)
  |(go_at_call 12;(with_reducible refine(zeu _ _ _ rs f _ HH4.out HOK.out).mono ?_);intro e w5 hr;obtain⟨he,hb⟩:=zx9 HD.out HU.out hr;subst he;clear hr;have hn:=zaa w5 (.cells #[.slice none 0 0,.slice none 0 0,.string (strOf x.1),.int .i64 3,.int .i64 (x.2:Int)] 44);have hbn:=hb.trans (hn.mono hb.size);have HX5:=Lib.hid (HX4.out.kept hbn (Nat.le_refl _));have HY5:=Lib.hid (HY4.out.below hbn);have HZ5:=Lib.hid (Bl.new w5 44 #[.slice none 0 0,.slice none 0 0,.string (strOf x.1),.int .i64 3,.int .i64 (x.2:Int)]);have HB5:=Lib.hid (HB4.out.trans (hbn.mono HB4.out.size));clear hb hn hbn e0 e1 e2 el))
 obtain⟨W5,hW5⟩:∃W5,w5.alloc (.cells #[.slice none 0 0,.slice none 0 0,.string (strOf x.1),.int .i64 3,.int .i64 (x.2:Int)] 44)=W5:=⟨_,rfl⟩;obtain⟨Y,hY⟩:∃Y,w4.heap.size=Y:=⟨_,rfl⟩;obtain⟨Z,hZ⟩:∃Z,w5.heap.size=Z:=⟨_,rfl⟩;rw[hW5] at HX5 HY5 HZ5 HB5;rw[hY] at HY5;rw[hZ] at HZ5;rw[hW5,hY,hZ];clear hW5 hY hZ HX4 HY4 HB4 HH4 HE4 HH3 HE3 HG3 HF3 HB3;have z2:=HZ5.out.cell (o:=3) (u:=.int .i64 3) rfl;have zl:=HZ5.out.lt;have HET:=Lib.hid fun(W:World) (hb:Below W5.heap.size W5 W)=>zhp (zhp HL.out.1 HB5.out) hb
 go_wp2_with (first
  |(go_at_call 14;(with_reducible refine(zoq HX5.out (HET.out _ (Below.refl _ _))).mono ?_);rintro e w6 ⟨rfl,hb⟩;have HQ6:=Lib.hid hb;clear hb z2 zl)
  |(go_at_call 15;(with_reducible refine(zqh (HX5.out.kept HQ6.out (Nat.le_refl _)) (HET.out _ HQ6.out)).mono ?_);rintro e w7 ⟨rfl,hb⟩;have HQ7:=Lib.hid (HQ6.out.trans (hb.mono HQ6.out.size));clear hb)
  |(go_at_call 16;(with_reducible refine(zor (HX5.out.kept HQ7.out (Nat.le_refl _)) (HET.out _ HQ7.out)).mono ?_);rintro e w8 ⟨rfl,hb⟩;have HQ8:=Lib.hid (HQ7.out.trans (hb.mono HQ7.out.size));clear hb;have HZ8:=Lib.hid (HZ5.out.below HQ8.out);have HY8:=Lib.hid (HY5.out.below HQ8.out);have z1:=HZ8.out.cell (o:=2) (u:=.string (strOf x.1)) rfl;have z2:=HZ8.out.cell (o:=3) (u:=.int .i64 3) rfl;have z3:=HZ8.out.cell (o:=4) (u:=.int .i64 (x.2:Int)) rfl;have zl:=HZ8.out.lt;have y0:=HY8.out.cell (o:=0) (u:=.slice none 0 0) rfl;have y1:=HY8.out.cell (o:=1) (u:=.slice none 0 0) rfl;have yl:=HY8.out.lt)
  |(go_at_call 13;(with_reducible refine(zjt _).mono ?_);rintro e w9 ⟨rfl,hb⟩;have HQ9:=Lib.hid (HQ8.out.trans (hb.mono HQ8.out.size));clear hb))
 go_ret;exact⟨rfl,HB5.out.trans (HQ9.out.mono HB5.out.size)⟩
theorem z5v (hA:zbx)(s:ByteArray)(w:World)(hl:LexLaid w)(hs:s.size<=1000){rs:List (List Nat × Nat × Int)}{f:MF}(hO:zaz (bts s)=.ok rs f)(hd:dupO rs=none)(hu:undO (nmR rs) f=none):Calls Tryz.prog 3 #[.string s] w fun e w'=>e=.returned (.bool true)/\Below w.heap.size w w':=by
 have HD:=Lib.hid hd;have HU:=Lib.hid hu;clear hd hu;have HAW:=Lib.hid fun(W:World) (hb:Below w.heap.size w W)=>hA W (hl.kept hb (Nat.le_refl _))
 have HP:=Lib.hid fun(W:World) (hb:Below w.heap.size w W)=>(zax s W (hl.2.kept hb (Nat.le_refl _)) (by omega)).mono fun e w' h=>zb6 (by
  rw[zbj,hO] at h;exact h)
 have HQ:=Lib.hid fun(W:World) (_:Below w.heap.size w W)=>(za1 s W (by omega)).mono fun e w' h=>zc2 (by
  rw[hO] at h;exact h)
 have HOK:=Lib.hid (zb9 (by omega) hO);have HB0:=Lib.hid (Below.refl w.heap.size w);have HL:=Lib.hid hl;have k1:¬(1000:Int)<(s.size:Int):=by omega
 clear hO hl hs hA;go_enter Tryz.func3,Tryz.ntmps3
 go_upto_region 3 with(first
  |(go_at_call 8;(with_reducible refine(HP.out _ HB0.out).mono ?_);rintro e w1 ⟨va,vc,na,nc,ca,cc,rfl,hG,hb⟩;have hn:=zaa w1 (.cells #[.slice va rs.length vc,.slice na f.nodes.length nc,.slice ca f.calls.length cc] 26);have hbn:=hb.trans (hn.mono hb.size);have HG1:=Lib.hid (hG.below hn).file;have HF1:=Lib.hid (Bl.new w1 26 #[.slice va rs.length vc,.slice na f.nodes.length nc,.slice ca f.calls.length cc]);have HB1:=Lib.hid (HB0.out.trans (hbn.mono HB0.out.size));clear hG hb hn hbn)
  |(go_at_call 9;(with_reducible refine(HQ.out _ HB1.out).mono ?_);rintro e w2 ⟨vb,vbc,nb,nbc,cb,cbc,rfl,hG,hb⟩;have hn:=zaa w2 (.cells #[.slice vb rs.length vbc,.slice nb f.nodes.length nbc,.slice cb f.calls.length cbc] 34);have hbn:=hb.trans (hn.mono hb.size);have HH2:=Lib.hid (hG.below hn).file;have HG2:=Lib.hid (HG1.out.below hbn);have HF2:=Lib.hid (HF1.out.below hbn);have HE2:=Lib.hid (Bl.new w2 34 #[.slice vb rs.length vbc,.slice nb f.nodes.length nbc,.slice cb f.calls.length cbc]);have HB2:=Lib.hid (HB1.out.trans (hbn.mono HB1.out.size));clear hG hb hn hbn))
 obtain⟨W2,hW2⟩:∃W2,w2.alloc (.cells #[.slice vb rs.length vbc,.slice nb f.nodes.length nbc,.slice cb f.calls.length cbc] 34)=W2:=⟨_,rfl⟩;obtain⟨F1,hF1⟩:∃F1,w1.heap.size=F1:=⟨_,rfl⟩;obtain⟨F2,hF2⟩:∃F2,w2.heap.size=F2:=⟨_,rfl⟩;rw[hW2] at HG2 HF2 HH2 HE2 HB2;rw[hF1] at HF2;rw[hF2] at HE2;rw[hW2,hF1,hF2];clear hW2 hF1 hF2 HG1 HF1 HB1
 go_upto_region 7 with(go_at_call 10;(with_reducible refine(HAW.out _ HB2.out).mono ?_);rintro e w3 ⟨rfl,hb⟩;have HG3:=Lib.hid (HG2.out.below hb);have HF3:=Lib.hid (HF2.out.below hb);have HH3:=Lib.hid (HH2.out.below hb);have HE3:=Lib.hid (HE2.out.below hb);have HB3:=Lib.hid (HB2.out.trans (hb.mono HB2.out.size));clear hb)
 have f0:=HF3.out.cell (o:=0) (u:=.slice va rs.length vc) rfl;have f1:=HF3.out.cell (o:=1) (u:=.slice na f.nodes.length nc) rfl;have f2:=HF3.out.cell (o:=2) (u:=.slice ca f.calls.length cc) rfl;have fl:=HF3.out.lt;have e0:=HE3.out.cell (o:=0) (u:=.slice vb rs.length vbc) rfl;have e1:=HE3.out.cell (o:=1) (u:=.slice nb f.nodes.length nbc) rfl;have e2:=HE3.out.cell (o:=2) (u:=.slice cb f.calls.length cbc) rfl;have el:=HE3.out.lt
 go_upto_region 9 with(first
  |(go_at_call 11;(with_reducible refine(of_ok _ _ _ rs f _ HG3.out HOK.out HD.out HU.out).mono ?_);rintro e w4 ⟨rv4,nv4,qs4,rfl,hR,hN,hb⟩;obtain⟨ra4,rc4,rfl⟩:=zag hR;obtain⟨na4,nc4,rfl⟩:=zag hN.2.1;have hn:=zaa w4 (.cells #[.slice ra4 (zam rs).length rc4,.slice na4 (zan (nmR rs) (nmC f) f.nodes).length nc4] 40);have hbn:=hb.trans (hn.mono hb.size);have HR4:=Lib.hid (RulesIn.of_own (zab hR hn) (zse HOK.out));have HN4:=Lib.hid ((hN.grown hn).nodes (zsf HOK.out) (zhl HOK.out));have HY4:=Lib.hid (Bl.new w4 40 #[.slice ra4 (zam rs).length rc4,.slice na4 (zan (nmR rs) (nmC f) f.nodes).length nc4]);have HH4:=Lib.hid (HH3.out.below hbn);have HE4:=Lib.hid (HE3.out.below hbn);have HB4:=Lib.hid (HB3.out.trans (hbn.mono HB3.out.size));clear hR hN hb hn hbn f0 f1 f2 fl e0 e1 e2 el;have e0:=HE4.out.cell (o:=0) (u:=.slice vb rs.length vbc) rfl;have e1:=HE4.out.cell (o:=1) (u:=.slice nb f.nodes.length nbc) rfl;have e2:=HE4.out.cell (o:=2) (u:=.slice cb f.calls.length cbc) rfl;have el:=HE4.out.lt)
  |(go_at_call 12;(with_reducible refine(zeu _ _ _ rs f _ HH4.out HOK.out).mono ?_);intro e w5 hr;obtain⟨ra5,rc5,na5,nc5,he,hR,hN,hb⟩:=zya HD.out HU.out hr;subst he;clear hr;have hn:=zaa w5 (.cells #[.slice ra5 (zam rs).length rc5,.slice na5 (zan (nmR rs) (nmC f) f.nodes).length nc5,.string ⟨#[]⟩,.int .i64 0,.int .i64 0] 44);have hbn:=hb.trans (hn.mono hb.size);have HR5:=Lib.hid (HR4.out.kept hbn (Nat.le_refl _));have HN5:=Lib.hid (HN4.out.kept hbn (Nat.le_refl _));have HS5:=Lib.hid (hR.kept hn (Nat.le_refl _));have HT5:=Lib.hid (hN.kept hn (Nat.le_refl _));have HY5:=Lib.hid (HY4.out.below hbn);have HZ5:=Lib.hid (Bl.new w5 44 #[.slice ra5 (zam rs).length rc5,.slice na5 (zan (nmR rs) (nmC f) f.nodes).length nc5,.string ⟨#[]⟩,.int .i64 0,.int .i64 0]);have HB5:=Lib.hid (HB4.out.trans (hbn.mono HB4.out.size));clear hR hN hb hn hbn e0 e1 e2 el))
 obtain⟨W5,hW5⟩:∃W5,w5.alloc (.cells #[.slice ra5 (zam rs).length rc5,.slice na5 (zan (nmR rs) (nmC f) f.nodes).length nc5,.string ⟨#[]⟩,.int .i64 0,.int .i64 0] 44)=W5:=⟨_,rfl⟩;obtain⟨Y,hY⟩:∃Y,w4.heap.size=Y:=⟨_,rfl⟩;obtain⟨Z,hZ⟩:∃Z,w5.heap.size=Z:=⟨_,rfl⟩;rw[hW5] at HR5 HN5 HS5 HT5 HY5 HZ5 HB5;rw[hY] at HY5;rw[hZ] at HZ5;rw[hW5,hY,hZ];clear hW5 hY hZ HR4 HN4 HY4 HB4 HH4 HE4 HH3 HE3 HG3 HF3 HB3;have z0:=HZ5.out.cell (o:=0) (u:=.slice ra5 (zam rs).length rc5) rfl;have z1:=HZ5.out.cell (o:=1) (u:=.slice na5 (zan (nmR rs) (nmC f) f.nodes).length nc5) rfl;have z3:=HZ5.out.cell (o:=3) (u:=.int .i64 0) rfl;have zl:=HZ5.out.lt;have y0:=HY5.out.cell (o:=0) (u:=.slice ra4 (zam rs).length rc4) rfl;have y1:=HY5.out.cell (o:=1) (u:=.slice na4 (zan (nmR rs) (nmC f) f.nodes).length nc4) rfl;have yl:=HY5.out.lt
 go_wp2_with (go_at_call 13;(with_reducible refine(zmj _ _ _ _ _ _ _ HR5.out HN5.out HS5.out HT5.out).mono ?_);rintro e w9 ⟨rfl,hb⟩;have HQ9:=Lib.hid hb;clear hb)
 go_ret;exact⟨rfl,HB5.out.trans (HQ9.out.mono HB5.out.size)⟩
theorem z1k (hA:zbx)(s:ByteArray)(w:World)(hl:LexLaid w)(hs:s.size<=1050000)(hb:1000<s.size){rs:List (List Nat × Nat × Int)}{f:MF}(hO:zaz (bts s)=.ok rs f):Calls Tryz.prog 3 #[.string s] w fun e w'=>e=.returned (.bool true)/\Below w.heap.size w w':=by
 have HAW:=Lib.hid fun(W:World) (hb:Below w.heap.size w W)=>hA W (hl.kept hb (Nat.le_refl _))
 have HB0:=Lib.hid (Below.refl w.heap.size w);have HP:=Lib.hid fun(W:World) (hb:Below w.heap.size w W)=>(zax s W (hl.2.kept hb (Nat.le_refl _)) (by omega)).mono fun e w' h=>zb6 (by
  rw[zbj,hO] at h;exact h)
 have HQ:=Lib.hid fun(W:World) (_:Below w.heap.size w W)=>(za1 s W (by omega)).mono fun e w' h=>zc2 (by
  rw[hO] at h;exact h)
 have k1:(1000:Int)<(s.size:Int):=by omega
 clear hO hl hs hA;go_enter Tryz.func3,Tryz.ntmps3
 go_wp2_with (first
  |(go_at_call 8;(with_reducible refine(HP.out _ HB0.out).mono ?_);rintro e w1 ⟨va,vc,na,nc,ca,cc,rfl,-,hb⟩;have hn:=zaa w1 (.cells #[.slice va rs.length vc,.slice na f.nodes.length nc,.slice ca f.calls.length cc] 26);have HB1:=Lib.hid (HB0.out.trans ((hb.trans (hn.mono hb.size)).mono HB0.out.size));clear hb hn)
  |(go_at_call 9;(with_reducible refine(HQ.out _ HB1.out).mono ?_);rintro e w2 ⟨vb,vbc,nb,nbc,cb,cbc,rfl,-,hb⟩;have hn:=zaa w2 (.cells #[.slice vb rs.length vbc,.slice nb f.nodes.length nbc,.slice cb f.calls.length cbc] 34);have HB2:=Lib.hid (HB1.out.trans ((hb.trans (hn.mono hb.size)).mono HB1.out.size));clear hb hn)
  |(go_at_call 10;(with_reducible refine(HAW.out _ HB3.out).mono ?_);rintro e w4 ⟨rfl,hb⟩;have HB4:=Lib.hid (HB3.out.trans (hb.mono HB3.out.size));clear hb)
  |(go_at_call 10;(with_reducible refine(HAW.out _ HB2.out).mono ?_);rintro e w3 ⟨rfl,hb⟩;have HB3:=Lib.hid (HB2.out.trans (hb.mono HB2.out.size));clear hb))
 go_ret;exact⟨rfl,HB4.out⟩
theorem zyc (hA:zbx)(s:ByteArray)(w:World)(hl:LexLaid w)(hs:s.size<=1050000)(hb:1000<s.size){a:List Tok}{dp:Bool}(hO:zaz (bts s)=.bad a dp):Calls Tryz.prog 3 #[.string s] w fun e w'=>e=.returned (.bool true)/\Below w.heap.size w w':=by
 have HAW:=Lib.hid fun(W:World) (hb:Below w.heap.size w W)=>hA W (hl.kept hb (Nat.le_refl _))
 have HB0:=Lib.hid (Below.refl w.heap.size w);have HP:=Lib.hid fun(W:World) (hb:Below w.heap.size w W)=>(zax s W (hl.2.kept hb (Nat.le_refl _)) (by omega)).mono fun e w' h=>zc8 (by
  rw[zbj,hO] at h;exact h)
 have HQ:=Lib.hid fun(W:World) (_:Below w.heap.size w W)=>(za1 s W (by omega)).mono fun e w' h=>zdy (by
  rw[hO] at h;exact h)
 have ek:(erC dp != 0)=true:=by cases dp<;>rfl
 obtain⟨c,hc⟩:∃c,erC dp=c:=⟨_,rfl⟩;rw[hc] at HP HQ ek;have k1:(1000:Int)<(s.size:Int):=by omega
 clear hO hl hs hA hc;go_enter Tryz.func3,Tryz.ntmps3
 go_wp2_with (first
  |(go_at_call 8;(with_reducible refine(HP.out _ HB0.out).mono ?_);rintro e w1 ⟨rfl,hb⟩;have hn:=zaa w1 (.cells #[.slice none 0 0,.slice none 0 0,.slice none 0 0] 26);have HB1:=Lib.hid (HB0.out.trans ((hb.trans (hn.mono hb.size)).mono HB0.out.size));clear hb hn)
  |(go_at_call 9;(with_reducible refine(HQ.out _ HB1.out).mono ?_);rintro e w2 ⟨rfl,hb⟩;have hn:=zaa w2 (.cells #[.slice none 0 0,.slice none 0 0,.slice none 0 0] 34);have HB2:=Lib.hid (HB1.out.trans ((hb.trans (hn.mono hb.size)).mono HB1.out.size));clear hb hn)
  |(go_at_call 10;(with_reducible refine(HAW.out _ HB3.out).mono ?_);rintro e w4 ⟨rfl,hb⟩;have HB4:=Lib.hid (HB3.out.trans (hb.mono HB3.out.size));clear hb)
  |(go_at_call 10;(with_reducible refine(HAW.out _ HB2.out).mono ?_);rintro e w3 ⟨rfl,hb⟩;have HB3:=Lib.hid (HB2.out.trans (hb.mono HB2.out.size));clear hb))
 go_ret;exact⟨rfl,HB4.out⟩
theorem zyd (hA:zbx)(s:ByteArray)(w:World)(hl:LexLaid w)(hs:s.size<=1050000)(hb:s.size<=1000){a:List Tok}{dp:Bool}(hO:zaz (bts s)=.bad a dp):Calls Tryz.prog 3 #[.string s] w fun e w'=>e=.returned (.bool true)/\Below w.heap.size w w':=by
 have HAW:=Lib.hid fun(W:World) (hb:Below w.heap.size w W)=>hA W (hl.kept hb (Nat.le_refl _))
 have HB0:=Lib.hid (Below.refl w.heap.size w);have HP:=Lib.hid fun(W:World) (hb:Below w.heap.size w W)=>(zax s W (hl.2.kept hb (Nat.le_refl _)) (by omega)).mono fun e w' h=>zc8 (by
  rw[zbj,hO] at h;exact h)
 have HQ:=Lib.hid fun(W:World) (_:Below w.heap.size w W)=>(za1 s W (by omega)).mono fun e w' h=>zdy (by
  rw[hO] at h;exact h)
 have ek:(erC dp != 0)=true:=by cases dp<;>rfl
 obtain⟨c,hc⟩:∃c,erC dp=c:=⟨_,rfl⟩;rw[hc] at HP HQ ek;have k1:¬(1000:Int)<(s.size:Int):=by omega
 clear hO hl hs hA hc;go_enter Tryz.func3,Tryz.ntmps3
 go_wp2_with (first
  |(go_at_call 8;(with_reducible refine(HP.out _ HB0.out).mono ?_);rintro e w1 ⟨rfl,hb⟩;have hn:=zaa w1 (.cells #[.slice none 0 0,.slice none 0 0,.slice none 0 0] 26);have HB1:=Lib.hid (HB0.out.trans ((hb.trans (hn.mono hb.size)).mono HB0.out.size));clear hb hn)
  |(go_at_call 9;(with_reducible refine(HQ.out _ HB1.out).mono ?_);rintro e w2 ⟨rfl,hb⟩;have hn:=zaa w2 (.cells #[.slice none 0 0,.slice none 0 0,.slice none 0 0] 34);have HB2:=Lib.hid (HB1.out.trans ((hb.trans (hn.mono hb.size)).mono HB1.out.size));clear hb hn)
  |(go_at_call 10;(with_reducible refine(HAW.out _ HB3.out).mono ?_);rintro e w4 ⟨rfl,hb⟩;have HB4:=Lib.hid (HB3.out.trans (hb.mono HB3.out.size));clear hb)
  |(go_at_call 10;(with_reducible refine(HAW.out _ HB2.out).mono ?_);rintro e w3 ⟨rfl,hb⟩;have HB3:=Lib.hid (HB2.out.trans (hb.mono HB2.out.size));clear hb))
 go_ret;exact⟨rfl,HB4.out⟩
theorem z1l (hA:zbx)(s:ByteArray)(w:World)(hl:LexLaid w)(hs:s.size<=1050000):Calls Tryz.prog 3 #[.string s] w fun e w'=>e=.returned (.bool true)/\Below w.heap.size w w':=by
 cases hO:zaz (bts s) with
 |bad a dp=>
  by_cases h:s.size<=1000
  ·exact zyd hA s w hl hs h hO
  ·exact zyc hA s w hl hs (by omega) hO
 |ok rs f=>
  by_cases h:s.size<=1000
  ·cases hd:dupO rs with
   |some x=>exact z1i hA s w hl h hO x hd
   |none=>
    cases hu:undO (nmR rs) f with
    |some x=>exact z1j hA s w hl h hO x hd hu
    |none=>exact z5v hA s w hl h hO hd hu
  ·exact z1k hA s w hl hs (by omega) hO
end
end Go.Proofs.YtnmflokhnaiiiaaGreatDoor
