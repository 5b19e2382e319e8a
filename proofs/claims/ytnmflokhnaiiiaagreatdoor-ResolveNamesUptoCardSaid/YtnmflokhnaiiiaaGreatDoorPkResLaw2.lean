/- ResolveNames. Written by wip/gen/reslaw2.py. -/
import Derived.Deep.RegionHeld3
import Derived.Test.YtnmflokhnaiiiaaGreatDoorPkRG
import Derived.Test.YtnmflokhnaiiiaaGreatDoorPkRD
import Derived.Test.YtnmflokhnaiiiaaGreatDoorPkRF
import Derived.Test.YtnmflokhnaiiiaaGreatDoorPkRH
set_option maxRecDepth 100000
set_option maxHeartbeats 8000000
namespace Go.Proofs.YtnmflokhnaiiiaaGreatDoor
section
open Go.RowKit
theorem s8b {F1 F2 n5:Nat}{x0 x1 x2 y0 y1 y2:Value}{Wx W W':World}(h:W.cell? ⟨F1,0,none⟩=some x0/\W.cell? ⟨F1,1,none⟩=some x1/\W.cell? ⟨F1,2,none⟩=some x2/\W.cell? ⟨F2,0,none⟩=some y0/\W.cell? ⟨F2,1,none⟩=some y1/\W.cell? ⟨F2,2,none⟩=some y2/\Below n5 Wx W)(hb:Below W.heap.size W W')(hn:n5=Wx.heap.size):W'.cell? ⟨F1,0,none⟩=some x0/\W'.cell? ⟨F1,1,none⟩=some x1/\W'.cell? ⟨F1,2,none⟩=some x2/\W'.cell? ⟨F2,0,none⟩=some y0/\W'.cell? ⟨F2,1,none⟩=some y1/\W'.cell? ⟨F2,2,none⟩=some y2/\Below n5 Wx W':=by
 obtain⟨h0,h1,h2,h3,h4,h5,h6⟩:=h;exact⟨za0 hb h0,za0 hb h1,za0 hb h2,za0 hb h3,za0 hb h4,za0 hb h5,h6.trans (hb.mono (by rw[hn];exact h6.size))⟩
theorem s8l {F1 F2 n5:Nat}{x0 x1 x2 y0 y1 y2:Value}{Wx W:World}(h:W.cell? ⟨F1,0,none⟩=some x0/\W.cell? ⟨F1,1,none⟩=some x1/\W.cell? ⟨F1,2,none⟩=some x2/\W.cell? ⟨F2,0,none⟩=some y0/\W.cell? ⟨F2,1,none⟩=some y1/\W.cell? ⟨F2,2,none⟩=some y2/\Below n5 Wx W)(hn:n5=Wx.heap.size):Below Wx.heap.size Wx W:=by rw[<-hn];exact h.2.2.2.2.2.2
theorem StrsIs.at {l:List ByteArray}{w w':World}{e:Ending}(h:StrsIs l w e w'):∃v,e=.returned v/\StrsAt w' v l/\Below w.heap.size w w':=by
 obtain⟨v,he,ho,hb⟩:=h;exact⟨v,he,StrsAt.of_own ho,hb⟩
theorem z5w (hA:zbx)(s name:ByteArray)(w:World)(hl:LexLaid w)(hs:s.size<=1000)(hnm:name.size<=100){rs:List (List Nat × Nat × Int)}{f:MF}(hO:zaz (bts s)=.ok rs f):Calls Tryz.prog 4 #[.string s,.string name] w fun e w'=>e=.returned (.bool true)/\Below w.heap.size w w':=by
 have k2:¬(100:Int)<(name.size:Int):=by omega
 have HNM:=Lib.hid hnm;clear hnm;have HAW:=Lib.hid fun(W:World) (hb:Below w.heap.size w W)=>hA W (hl.kept hb (Nat.le_refl _))
 have HP:=Lib.hid fun(W:World) (hb:Below w.heap.size w W)=>(zax s W (hl.2.kept hb (Nat.le_refl _)) (by omega)).mono fun e w' h=>zb6 (by
  rw[zbj,hO] at h;exact h)
 have HQ:=Lib.hid fun(W:World) (_:Below w.heap.size w W)=>(za1 s W (by omega)).mono fun e w' h=>zc2 (by
  rw[hO] at h;exact h)
 have HOK:=Lib.hid (zb9 (by omega) hO);have HB0:=Lib.hid (Below.refl w.heap.size w);have HL:=Lib.hid hl;have k1:¬(1000:Int)<(s.size:Int):=by omega
 clear hO hl hs hA;go_enter Tryz.func4,Tryz.ntmps4
 go_upto_region 3 with(first
  |(go_at_call 8;(with_reducible refine(HP.out _ HB0.out).mono ?_);rintro e w1 ⟨va,vc,na,nc,ca,cc,rfl,hG,hb⟩;have hn:=zaa w1 (.cells #[.slice va rs.length vc,.slice na f.nodes.length nc,.slice ca f.calls.length cc] 26);have hbn:=hb.trans (hn.mono hb.size);have HG1:=Lib.hid (hG.below hn).file;have HF1:=Lib.hid (Bl.new w1 26 #[.slice va rs.length vc,.slice na f.nodes.length nc,.slice ca f.calls.length cc]);have HB1:=Lib.hid (HB0.out.trans (hbn.mono HB0.out.size));clear hG hb hn hbn)
  |(go_at_call 9;(with_reducible refine(HQ.out _ HB1.out).mono ?_);rintro e w2 ⟨vb,vbc,nb,nbc,cb,cbc,rfl,hG,hb⟩;have hn:=zaa w2 (.cells #[.slice vb rs.length vbc,.slice nb f.nodes.length nbc,.slice cb f.calls.length cbc] 34);have hbn:=hb.trans (hn.mono hb.size);have HH2:=Lib.hid (hG.below hn).file;have HG2:=Lib.hid (HG1.out.below hbn);have HF2:=Lib.hid (HF1.out.below hbn);have HE2:=Lib.hid (Bl.new w2 34 #[.slice vb rs.length vbc,.slice nb f.nodes.length nbc,.slice cb f.calls.length cbc]);have HB2:=Lib.hid (HB1.out.trans (hbn.mono HB1.out.size));clear hG hb hn hbn))
 obtain⟨W2,hW2⟩:∃W2,w2.alloc (.cells #[.slice vb rs.length vbc,.slice nb f.nodes.length nbc,.slice cb f.calls.length cbc] 34)=W2:=⟨_,rfl⟩;obtain⟨F1,hF1⟩:∃F1,w1.heap.size=F1:=⟨_,rfl⟩;obtain⟨F2,hF2⟩:∃F2,w2.heap.size=F2:=⟨_,rfl⟩;rw[hW2] at HG2 HF2 HH2 HE2 HB2;rw[hF1] at HF2;rw[hF2] at HE2;rw[hW2,hF1,hF2];clear hW2 hF1 hF2 HG1 HF1 HB1
 go_upto_region 7 with(go_at_call 10;(with_reducible refine(HAW.out _ HB2.out).mono ?_);rintro e w3 ⟨rfl,hb⟩;have HG3:=Lib.hid (HG2.out.below hb);have HF3:=Lib.hid (HF2.out.below hb);have HH3:=Lib.hid (HH2.out.below hb);have HE3:=Lib.hid (HE2.out.below hb);have HB3:=Lib.hid (HB2.out.trans (hb.mono HB2.out.size));clear hb)
 have f0:=HF3.out.cell (o:=0) (u:=.slice va rs.length vc) rfl;have f1:=HF3.out.cell (o:=1) (u:=.slice na f.nodes.length nc) rfl;have f2:=HF3.out.cell (o:=2) (u:=.slice ca f.calls.length cc) rfl;have fl:=HF3.out.lt;have e0:=HE3.out.cell (o:=0) (u:=.slice vb rs.length vbc) rfl;have e1:=HE3.out.cell (o:=1) (u:=.slice nb f.nodes.length nbc) rfl;have e2:=HE3.out.cell (o:=2) (u:=.slice cb f.calls.length cbc) rfl;have el:=HE3.out.lt;clear HG2 HF2 HH2 HE2 HB2;obtain⟨n5,hn5⟩:∃n5,n5=w3.heap.size:=⟨_,rfl⟩;have HKL:Hid ((missL (nmC f) (nmR rs) f.calls.length).length<=100000000):=Lib.hid (Nat.le_trans (zee _ _ _) HOK.out.cl);obtain⟨D,hD⟩:∃D,D=(nmR rs).drop 1:=⟨_,rfl⟩;have HDD:=Lib.hid hD;have HDL:Hid ((missL D (nmC f) D.length).length<=100000000):=Lib.hid (Nat.le_trans (zee _ _ _) (by rw[hD,List.length_drop,zdv];have:=HOK.out.rl;omega));clear hD;have hrl:rs.length<=100000000:=by have:=HOK.out.rl;omega
 have HRL:=Lib.hid hrl;have HN5:=Lib.hid hn5;have hS0:w3.cell? ⟨F1,0,none⟩=some (.slice va rs.length vc)/\w3.cell? ⟨F1,1,none⟩=some (.slice na f.nodes.length nc)/\w3.cell? ⟨F1,2,none⟩=some (.slice ca f.calls.length cc)/\w3.cell? ⟨F2,0,none⟩=some (.slice vb rs.length vbc)/\w3.cell? ⟨F2,1,none⟩=some (.slice nb f.nodes.length nbc)/\w3.cell? ⟨F2,2,none⟩=some (.slice cb f.calls.length cbc)/\Below n5 w3 w3:=⟨f0,f1,f2,e0,e1,e2,Below.refl _ _⟩;clear f0 f1 f2 fl e0 e1 e2 el hrl hn5
 go_region_held3 (fun W=>W.cell? ⟨F1,0,none⟩=some (.slice va rs.length vc)/\W.cell? ⟨F1,1,none⟩=some (.slice na f.nodes.length nc)/\W.cell? ⟨F1,2,none⟩=some (.slice ca f.calls.length cc)/\W.cell? ⟨F2,0,none⟩=some (.slice vb rs.length vbc)/\W.cell? ⟨F2,1,none⟩=some (.slice nb f.nodes.length nbc)/\W.cell? ⟨F2,2,none⟩=some (.slice cb f.calls.length cbc)/\Below n5 w3 W)
  (first|exact hS|exact hS0|(refine s8b ?_ (zpw _) HN5.out;assumption))
  (first
   |(go_at_call 17;(with_reducible refine(zgz _ _ _ rs f name _ (HG3.out.below (s8l (by assumption) HN5.out)) HOK.out (by have:=HNM.out;omega)).mono ?_);rintro e w4 ⟨rfl,hb⟩;have hS:=s8b (by assumption) hb HN5.out;clear hb)
   |(go_at_call 18;(with_reducible refine(zhm _ _ _ rs f name _ (HH3.out.below (s8l (by assumption) HN5.out)) HRL.out).mono ?_);rintro e w5 ⟨rfl,hb⟩;have hS:=s8b (by assumption) hb HN5.out;clear hb)
   |(go_at_call 20;(with_reducible refine(zio _ _ _ rs f _ (HG3.out.below (s8l (by assumption) HN5.out)) HOK.out).mono ?_);intro e w6 hh;obtain⟨v6,he,hq,hb⟩:=hh.at;subst he;have HQ6:=Lib.hid hq;have hS:=s8b (by assumption) hb HN5.out;clear hh hq hb)
   |(go_at_call 21;(with_reducible refine(zye _ _ _ rs f _ (HH3.out.below (s8l (by assumption) HN5.out)) HRL.out HOK.out.cl).mono ?_);intro e w7 hh;obtain⟨v7,he,hq,hb⟩:=hh.at;subst he;have HQ7:=Lib.hid hq;have HQ67:=Lib.hid (HQ6.out.below hb);have hS:=s8b (by assumption) hb HN5.out;clear hh hq hb)
   |(go_at_call 19;(with_reducible refine(zmi _ _ _ _ HQ67.out HQ7.out HKL.out).mono ?_);rintro e w8 ⟨rfl,hb⟩;have hS:=s8b (by assumption) hb HN5.out;clear hb)
   |(go_at_call 22;(with_reducible refine(zr9 _ _ _ rs f D HDD.out _ (HG3.out.below (s8l (by assumption) HN5.out)) HOK.out).mono ?_);intro e w9 hh;obtain⟨v9,he,hq,hb⟩:=hh.at;subst he;have HQ9:=Lib.hid hq;have hS:=s8b (by assumption) hb HN5.out;clear hh hq hb)
   |(go_at_call 23;(with_reducible refine(zos _ _ _ rs f D HDD.out _ (HH3.out.below (s8l (by assumption) HN5.out)) HRL.out HOK.out.cl).mono ?_);intro e wa hh;obtain⟨va',he,hq,hb⟩:=hh.at;subst he;have HQa:=Lib.hid hq;have HQ9a:=Lib.hid (HQ9.out.below hb);have hS:=s8b (by assumption) hb HN5.out;clear hh hq hb)
   |(go_at_call 19;(with_reducible refine(zmi _ _ _ _ HQ9a.out HQa.out HDL.out).mono ?_);rintro e wb ⟨rfl,hb⟩;have hS:=s8b (by assumption) hb HN5.out;have HBz:=Lib.hid (s8l hS HN5.out);clear hb))
 go_wp2;go_ret;exact⟨rfl,HB3.out.trans (HBz.out.mono HB3.out.size)⟩
theorem z1m (hA:zbx)(s:ByteArray)(name:ByteArray)(w:World)(hl:LexLaid w)(hs:s.size<=1050000)(hb:1000<s.size){rs:List (List Nat × Nat × Int)}{f:MF}(hO:zaz (bts s)=.ok rs f):Calls Tryz.prog 4 #[.string s,.string name] w fun e w'=>e=.returned (.bool true)/\Below w.heap.size w w':=by
 have HAW:=Lib.hid fun(W:World) (hb:Below w.heap.size w W)=>hA W (hl.kept hb (Nat.le_refl _))
 have HB0:=Lib.hid (Below.refl w.heap.size w);have HP:=Lib.hid fun(W:World) (hb:Below w.heap.size w W)=>(zax s W (hl.2.kept hb (Nat.le_refl _)) (by omega)).mono fun e w' h=>zb6 (by
  rw[zbj,hO] at h;exact h)
 have HQ:=Lib.hid fun(W:World) (_:Below w.heap.size w W)=>(za1 s W (by omega)).mono fun e w' h=>zc2 (by
  rw[hO] at h;exact h)
 have k1:(1000:Int)<(s.size:Int):=by omega
 clear hO hl hs hA;go_enter Tryz.func4,Tryz.ntmps4
 go_wp2_with (first
  |(go_at_call 8;(with_reducible refine(HP.out _ HB0.out).mono ?_);rintro e w1 ⟨va,vc,na,nc,ca,cc,rfl,-,hb⟩;have hn:=zaa w1 (.cells #[.slice va rs.length vc,.slice na f.nodes.length nc,.slice ca f.calls.length cc] 26);have HB1:=Lib.hid (HB0.out.trans ((hb.trans (hn.mono hb.size)).mono HB0.out.size));clear hb hn)
  |(go_at_call 9;(with_reducible refine(HQ.out _ HB1.out).mono ?_);rintro e w2 ⟨vb,vbc,nb,nbc,cb,cbc,rfl,-,hb⟩;have hn:=zaa w2 (.cells #[.slice vb rs.length vbc,.slice nb f.nodes.length nbc,.slice cb f.calls.length cbc] 34);have HB2:=Lib.hid (HB1.out.trans ((hb.trans (hn.mono hb.size)).mono HB1.out.size));clear hb hn)
  |(go_at_call 10;(with_reducible refine(HAW.out _ HB3.out).mono ?_);rintro e w4 ⟨rfl,hb⟩;have HB4:=Lib.hid (HB3.out.trans (hb.mono HB3.out.size));clear hb)
  |(go_at_call 10;(with_reducible refine(HAW.out _ HB2.out).mono ?_);rintro e w3 ⟨rfl,hb⟩;have HB3:=Lib.hid (HB2.out.trans (hb.mono HB2.out.size));clear hb))
 go_ret;exact⟨rfl,HB4.out⟩
theorem zyf (hA:zbx)(s:ByteArray)(name:ByteArray)(w:World)(hl:LexLaid w)(hs:s.size<=1050000)(hb:1000<s.size){a:List Tok}{dp:Bool}(hO:zaz (bts s)=.bad a dp):Calls Tryz.prog 4 #[.string s,.string name] w fun e w'=>e=.returned (.bool true)/\Below w.heap.size w w':=by
 have HAW:=Lib.hid fun(W:World) (hb:Below w.heap.size w W)=>hA W (hl.kept hb (Nat.le_refl _))
 have HB0:=Lib.hid (Below.refl w.heap.size w);have HP:=Lib.hid fun(W:World) (hb:Below w.heap.size w W)=>(zax s W (hl.2.kept hb (Nat.le_refl _)) (by omega)).mono fun e w' h=>zc8 (by
  rw[zbj,hO] at h;exact h)
 have HQ:=Lib.hid fun(W:World) (_:Below w.heap.size w W)=>(za1 s W (by omega)).mono fun e w' h=>zdy (by
  rw[hO] at h;exact h)
 have ek:(erC dp != 0)=true:=by cases dp<;>rfl
 obtain⟨c,hc⟩:∃c,erC dp=c:=⟨_,rfl⟩;rw[hc] at HP HQ ek;have k1:(1000:Int)<(s.size:Int):=by omega
 clear hO hl hs hA hc;go_enter Tryz.func4,Tryz.ntmps4
 go_wp2_with (first
  |(go_at_call 8;(with_reducible refine(HP.out _ HB0.out).mono ?_);rintro e w1 ⟨rfl,hb⟩;have hn:=zaa w1 (.cells #[.slice none 0 0,.slice none 0 0,.slice none 0 0] 26);have HB1:=Lib.hid (HB0.out.trans ((hb.trans (hn.mono hb.size)).mono HB0.out.size));clear hb hn)
  |(go_at_call 9;(with_reducible refine(HQ.out _ HB1.out).mono ?_);rintro e w2 ⟨rfl,hb⟩;have hn:=zaa w2 (.cells #[.slice none 0 0,.slice none 0 0,.slice none 0 0] 34);have HB2:=Lib.hid (HB1.out.trans ((hb.trans (hn.mono hb.size)).mono HB1.out.size));clear hb hn)
  |(go_at_call 10;(with_reducible refine(HAW.out _ HB3.out).mono ?_);rintro e w4 ⟨rfl,hb⟩;have HB4:=Lib.hid (HB3.out.trans (hb.mono HB3.out.size));clear hb)
  |(go_at_call 10;(with_reducible refine(HAW.out _ HB2.out).mono ?_);rintro e w3 ⟨rfl,hb⟩;have HB3:=Lib.hid (HB2.out.trans (hb.mono HB2.out.size));clear hb))
 go_ret;exact⟨rfl,HB4.out⟩
theorem zyg (hA:zbx)(s:ByteArray)(name:ByteArray)(w:World)(hl:LexLaid w)(hs:s.size<=1050000)(hb:s.size<=1000)(hb2:100<name.size){a:List Tok}{dp:Bool}(hO:zaz (bts s)=.bad a dp):Calls Tryz.prog 4 #[.string s,.string name] w fun e w'=>e=.returned (.bool true)/\Below w.heap.size w w':=by
 have HAW:=Lib.hid fun(W:World) (hb:Below w.heap.size w W)=>hA W (hl.kept hb (Nat.le_refl _))
 have HB0:=Lib.hid (Below.refl w.heap.size w);have HP:=Lib.hid fun(W:World) (hb:Below w.heap.size w W)=>(zax s W (hl.2.kept hb (Nat.le_refl _)) (by omega)).mono fun e w' h=>zc8 (by
  rw[zbj,hO] at h;exact h)
 have HQ:=Lib.hid fun(W:World) (_:Below w.heap.size w W)=>(za1 s W (by omega)).mono fun e w' h=>zdy (by
  rw[hO] at h;exact h)
 have ek:(erC dp != 0)=true:=by cases dp<;>rfl
 obtain⟨c,hc⟩:∃c,erC dp=c:=⟨_,rfl⟩;rw[hc] at HP HQ ek;have k1:¬(1000:Int)<(s.size:Int):=by omega
 have k2:(100:Int)<(name.size:Int):=by omega
 clear hO hl hs hA hc;go_enter Tryz.func4,Tryz.ntmps4
 go_wp2_with (first
  |(go_at_call 8;(with_reducible refine(HP.out _ HB0.out).mono ?_);rintro e w1 ⟨rfl,hb⟩;have hn:=zaa w1 (.cells #[.slice none 0 0,.slice none 0 0,.slice none 0 0] 26);have HB1:=Lib.hid (HB0.out.trans ((hb.trans (hn.mono hb.size)).mono HB0.out.size));clear hb hn)
  |(go_at_call 9;(with_reducible refine(HQ.out _ HB1.out).mono ?_);rintro e w2 ⟨rfl,hb⟩;have hn:=zaa w2 (.cells #[.slice none 0 0,.slice none 0 0,.slice none 0 0] 34);have HB2:=Lib.hid (HB1.out.trans ((hb.trans (hn.mono hb.size)).mono HB1.out.size));clear hb hn)
  |(go_at_call 10;(with_reducible refine(HAW.out _ HB3.out).mono ?_);rintro e w4 ⟨rfl,hb⟩;have HB4:=Lib.hid (HB3.out.trans (hb.mono HB3.out.size));clear hb)
  |(go_at_call 10;(with_reducible refine(HAW.out _ HB2.out).mono ?_);rintro e w3 ⟨rfl,hb⟩;have HB3:=Lib.hid (HB2.out.trans (hb.mono HB2.out.size));clear hb))
 go_ret;exact⟨rfl,HB4.out⟩
theorem zyh (hA:zbx)(s:ByteArray)(name:ByteArray)(w:World)(hl:LexLaid w)(hs:s.size<=1050000)(hb:s.size<=1000)(hb2:name.size<=100){a:List Tok}{dp:Bool}(hO:zaz (bts s)=.bad a dp):Calls Tryz.prog 4 #[.string s,.string name] w fun e w'=>e=.returned (.bool true)/\Below w.heap.size w w':=by
 have HAW:=Lib.hid fun(W:World) (hb:Below w.heap.size w W)=>hA W (hl.kept hb (Nat.le_refl _))
 have HB0:=Lib.hid (Below.refl w.heap.size w);have HP:=Lib.hid fun(W:World) (hb:Below w.heap.size w W)=>(zax s W (hl.2.kept hb (Nat.le_refl _)) (by omega)).mono fun e w' h=>zc8 (by
  rw[zbj,hO] at h;exact h)
 have HQ:=Lib.hid fun(W:World) (_:Below w.heap.size w W)=>(za1 s W (by omega)).mono fun e w' h=>zdy (by
  rw[hO] at h;exact h)
 have ek:(erC dp != 0)=true:=by cases dp<;>rfl
 obtain⟨c,hc⟩:∃c,erC dp=c:=⟨_,rfl⟩;rw[hc] at HP HQ ek;have k1:¬(1000:Int)<(s.size:Int):=by omega
 have k2:¬(100:Int)<(name.size:Int):=by omega
 clear hO hl hs hA hc;go_enter Tryz.func4,Tryz.ntmps4
 go_wp2_with (first
  |(go_at_call 8;(with_reducible refine(HP.out _ HB0.out).mono ?_);rintro e w1 ⟨rfl,hb⟩;have hn:=zaa w1 (.cells #[.slice none 0 0,.slice none 0 0,.slice none 0 0] 26);have HB1:=Lib.hid (HB0.out.trans ((hb.trans (hn.mono hb.size)).mono HB0.out.size));clear hb hn)
  |(go_at_call 9;(with_reducible refine(HQ.out _ HB1.out).mono ?_);rintro e w2 ⟨rfl,hb⟩;have hn:=zaa w2 (.cells #[.slice none 0 0,.slice none 0 0,.slice none 0 0] 34);have HB2:=Lib.hid (HB1.out.trans ((hb.trans (hn.mono hb.size)).mono HB1.out.size));clear hb hn)
  |(go_at_call 10;(with_reducible refine(HAW.out _ HB3.out).mono ?_);rintro e w4 ⟨rfl,hb⟩;have HB4:=Lib.hid (HB3.out.trans (hb.mono HB3.out.size));clear hb)
  |(go_at_call 10;(with_reducible refine(HAW.out _ HB2.out).mono ?_);rintro e w3 ⟨rfl,hb⟩;have HB3:=Lib.hid (HB2.out.trans (hb.mono HB2.out.size));clear hb))
 go_ret;exact⟨rfl,HB4.out⟩
theorem zyi (hA:zbx)(s:ByteArray)(name:ByteArray)(w:World)(hl:LexLaid w)(hs:s.size<=1050000)(hb:s.size<=1000)(hb2:100<name.size){rs:List (List Nat × Nat × Int)}{f:MF}(hO:zaz (bts s)=.ok rs f):Calls Tryz.prog 4 #[.string s,.string name] w fun e w'=>e=.returned (.bool true)/\Below w.heap.size w w':=by
 have HAW:=Lib.hid fun(W:World) (hb:Below w.heap.size w W)=>hA W (hl.kept hb (Nat.le_refl _))
 have HB0:=Lib.hid (Below.refl w.heap.size w);have HP:=Lib.hid fun(W:World) (hb:Below w.heap.size w W)=>(zax s W (hl.2.kept hb (Nat.le_refl _)) (by omega)).mono fun e w' h=>zb6 (by
  rw[zbj,hO] at h;exact h)
 have HQ:=Lib.hid fun(W:World) (_:Below w.heap.size w W)=>(za1 s W (by omega)).mono fun e w' h=>zc2 (by
  rw[hO] at h;exact h)
 have k1:¬(1000:Int)<(s.size:Int):=by omega
 have k2:(100:Int)<(name.size:Int):=by omega
 clear hO hl hs hA;go_enter Tryz.func4,Tryz.ntmps4
 go_wp2_with (first
  |(go_at_call 8;(with_reducible refine(HP.out _ HB0.out).mono ?_);rintro e w1 ⟨va,vc,na,nc,ca,cc,rfl,-,hb⟩;have hn:=zaa w1 (.cells #[.slice va rs.length vc,.slice na f.nodes.length nc,.slice ca f.calls.length cc] 26);have HB1:=Lib.hid (HB0.out.trans ((hb.trans (hn.mono hb.size)).mono HB0.out.size));clear hb hn)
  |(go_at_call 9;(with_reducible refine(HQ.out _ HB1.out).mono ?_);rintro e w2 ⟨vb,vbc,nb,nbc,cb,cbc,rfl,-,hb⟩;have hn:=zaa w2 (.cells #[.slice vb rs.length vbc,.slice nb f.nodes.length nbc,.slice cb f.calls.length cbc] 34);have HB2:=Lib.hid (HB1.out.trans ((hb.trans (hn.mono hb.size)).mono HB1.out.size));clear hb hn)
  |(go_at_call 10;(with_reducible refine(HAW.out _ HB3.out).mono ?_);rintro e w4 ⟨rfl,hb⟩;have HB4:=Lib.hid (HB3.out.trans (hb.mono HB3.out.size));clear hb)
  |(go_at_call 10;(with_reducible refine(HAW.out _ HB2.out).mono ?_);rintro e w3 ⟨rfl,hb⟩;have HB3:=Lib.hid (HB2.out.trans (hb.mono HB2.out.size));clear hb))
 go_ret;exact⟨rfl,HB4.out⟩
theorem z1n (hA:zbx)(s name:ByteArray)(w:World)(hl:LexLaid w)(hs:s.size<=1050000):Calls Tryz.prog 4 #[.string s,.string name] w fun e w'=>e=.returned (.bool true)/\Below w.heap.size w w':=by
 cases hO:zaz (bts s) with
 |bad a dp=>
  by_cases h:s.size<=1000
  ·by_cases h2:name.size<=100
   ·exact zyh hA s name w hl hs h h2 hO
   ·exact zyg hA s name w hl hs h (by omega) hO
  ·exact zyf hA s name w hl hs (by omega) hO
 |ok rs f=>
  by_cases h:s.size<=1000
  ·by_cases h2:name.size<=100
   ·exact z5w hA s name w hl h h2 hO
   ·exact zyi hA s name w hl hs h (by omega) hO
  ·exact z1m hA s name w hl hs (by omega) hO
end
end Go.Proofs.YtnmflokhnaiiiaaGreatDoor
