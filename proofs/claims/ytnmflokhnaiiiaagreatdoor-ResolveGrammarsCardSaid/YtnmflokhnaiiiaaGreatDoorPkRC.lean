/- resolve.Grammar. Written by wip/gen/resgrm.py. The fixed examples of the names. No walk. The text of the example's error: rule B: error 3. -/
import Derived.Deep.RegionHeld3
import Derived.Conc.MuLone
import Derived.Test.YtnmflokhnaiiiaaGreatDoorPkK
import Derived.Test.YtnmflokhnaiiiaaGreatDoorPkRA
import Derived.Test.YtnmflokhnaiiiaaGreatDoorPkRG
import Derived.Test.YtnmflokhnaiiiaaGreatDoorPkSynLawC
import Derived.Test.YtnmflokhnaiiiaaGreatDoorPkGramChk
set_option maxRecDepth 100000
set_option maxHeartbeats 8000000
namespace Go.Proofs.YtnmflokhnaiiiaaGreatDoor
section
open Go.RowKit
theorem GotF.file {W:World}{va:Option Addr}{vc:Nat}{na:Option Addr}{nc:Nat}{ca:Option Addr}{cc:Nat}{rs:List (List Nat × Nat × Int)}{f:MF}(h:GotF W va vc na nc ca cc rs f):FileIn W (.slice va rs.length vc) (.slice na f.nodes.length nc) (.slice ca f.calls.length cc) rs f:=h
def GErr (er:Err)(w:World)(e:Ending)(w':World):Prop:=e=.returned (.tuple #[.agg #[.slice none 0 0,.slice none 0 0],er.val])/\er.In w'/\Below w.heap.size w w'
def chkC:Chk->Int
 |.ok=>0
 |.large=>4
 |.order=>10
 |.rules _=>10
 |.nodes _=>10
 |.deep _=>5
def grmC (o:FO):Int:=match o with
 |.bad _ dp=>erC dp
 |.ok rs f=>match dupO rs with
  |some _=>2
  |none=>match undO (nmR rs) f with
   |some _=>3
   |none=>chkC (chkL (zam rs) (zan (nmR rs) (nmC f) f.nodes))
def GErrC (c:Int)(w:World)(e:Ending)(w':World):Prop:=∃er:Err,GErr er w e w'/\er.codeOf=some c
theorem GErr.put {er:Err}{w W:World}{B:Nat}(hb:Below w.heap.size w W)(hB:w.heap.size<=B)(hE:∀W',(∀b,b≠B->W'.heap[b]?=W.heap[b]?)->er.In W'):GErr er w (.returned (.tuple #[.agg #[.slice none 0 0,.slice none 0 0],er.val])) ((W.setCell ⟨B,0,none⟩ (.slice none 0 0)).setCell ⟨B,1,none⟩ (.slice none 0 0)):=
 ⟨rfl,hE _ (fun b h=>by rw[heap_setCell_other _ _ _ _ h,heap_setCell_other _ _ _ _ h]),(hb.setCell (p:=⟨B,0,none⟩) hB _).setCell (p:=⟨B,1,none⟩) hB _⟩
theorem zfd {E B:Nat}{r:ByteArray}{c p:Int}{W:World}(h:(Err.within E r (.fault c p)).In W)(hne:E≠B):∀W',(∀b,b≠B->W'.heap[b]?=W.heap[b]?)->(Err.within E r (.fault c p)).In W':=fun W' hW=>by
 obtain⟨h0,h1,-⟩:=h;have e:=hW E hne;exact⟨by unfold World.cell? at h0 ⊢;rw[e];exact h0,by unfold World.cell? at h1 ⊢;rw[e];exact h1,trivial⟩
theorem z5j (s:ByteArray)(w:World)(hl:LexLaid w)(hs:s.size<=1050000){a:List Tok}{dp:Bool}(hO:zaz (bts s)=.bad a dp) :
  Calls Tryz.prog 24 #[.string s] w (GErr (.fault (erC dp) (pos a:Int)) w):=by
 have HP:=Lib.hid fun(W:World) (hb:Below w.heap.size w W)=>(zax s W (hl.2.kept hb (Nat.le_refl _)) (by omega)).mono fun e w' h=>zc8 (by
  rw[zbj,hO] at h;exact h)
 have HB0:=Lib.hid (zaa w (.cells #[.slice none 0 0,.slice none 0 0] 40));have HG0:=Lib.hid (Bl.new w 40 #[.slice none 0 0,.slice none 0 0]);obtain⟨c,hc⟩:∃c,erC dp=c:=⟨_,rfl⟩;rw[hc] at HP;rw[hc];clear hO hl hs hc;go_enter Tryz.func24,Tryz.ntmps24
 go_upto_region 2 with(go_at_call 8;(with_reducible refine(HP.out _ HB0.out).mono ?_);rintro e w1 ⟨rfl,hb⟩;have hn:=zaa w1 (.cells #[.slice none 0 0,.slice none 0 0,.slice none 0 0] 26);have hbn:=hb.trans (hn.mono hb.size);have HG1:=Lib.hid (HG0.out.below hbn);have HB1:=Lib.hid (HB0.out.trans (hbn.mono HB0.out.size));clear hb hn hbn)
 obtain⟨W1,hW1⟩:∃W1,w1.alloc (.cells #[.slice none 0 0,.slice none 0 0,.slice none 0 0] 26)=W1:=⟨_,rfl⟩;rw[hW1] at HG1 HB1;rw[hW1];clear hW1;have g0:=HG1.out.cell (o:=0) (u:=.slice none 0 0) rfl;have g1:=HG1.out.cell (o:=1) (u:=.slice none 0 0) rfl;have gf:=HG1.out.free;have gl:=HG1.out.lt;go_wp2;refine bodyPost_ret (v:=.tuple #[.agg #[.slice none 0 0,.slice none 0 0],.iface 106 (.agg #[.int .i64 c,.int .i64 (pos a:Int)])]) (by simp[results,Tryz.results24,go_sem,g0,g1]) rfl ?_;exact GErr.put (er:=.fault c (pos a:Int)) HB1.out (Nat.le_refl _) (fun _ _=>trivial)
theorem z5k (s:ByteArray)(w:World)(hl:LexLaid w)(hs:s.size<=1050000){rs:List (List Nat × Nat × Int)}{f:MF}(hO:zaz (bts s)=.ok rs f)(x:List Nat × Nat)(hd:dupO rs=some x) :
  Calls Tryz.prog 24 #[.string s] w (fun e w'=>∃b,GErr (.within b (strOf x.1) (.fault 2 (x.2:Int))) w e w'):=by
 have HP:=Lib.hid fun(W:World) (hb:Below w.heap.size w W)=>(zax s W (hl.2.kept hb (Nat.le_refl _)) (by omega)).mono fun e w' h=>zb6 (by
  rw[zbj,hO] at h;exact h)
 have HOK:=Lib.hid (zb9 hs hO);have HB0:=Lib.hid (zaa w (.cells #[.slice none 0 0,.slice none 0 0] 40));have HG0:=Lib.hid (Bl.new w 40 #[.slice none 0 0,.slice none 0 0]);have HD:=Lib.hid hd;clear hO hl hs hd;go_enter Tryz.func24,Tryz.ntmps24
 go_upto_region 4 with(go_at_call 8;(with_reducible refine(HP.out _ HB0.out).mono ?_);rintro e w1 ⟨va,vc,na,nc,ca,cc,rfl,hF,hb⟩;have hn:=zaa w1 (.cells #[.slice va rs.length vc,.slice na f.nodes.length nc,.slice ca f.calls.length cc] 26);have hbn:=hb.trans (hn.mono hb.size);have HF1:=Lib.hid (hF.below hn).file;have HX1:=Lib.hid (Bl.new w1 26 #[.slice va rs.length vc,.slice na f.nodes.length nc,.slice ca f.calls.length cc]);have HG1:=Lib.hid (HG0.out.below hbn);have HB1:=Lib.hid (HB0.out.trans (hbn.mono HB0.out.size));clear hF hb hn hbn)
 obtain⟨W1,hW1⟩:∃W1,w1.alloc (.cells #[.slice va rs.length vc,.slice na f.nodes.length nc,.slice ca f.calls.length cc] 26)=W1:=⟨_,rfl⟩;rw[hW1] at HF1 HX1 HG1 HB1;obtain⟨F,hF⟩:∃F,w1.heap.size=F:=⟨_,rfl⟩;rw[hF] at HX1;rw[hW1,hF];clear hW1 hF;have c0:=HX1.out.cell (o:=0) (u:=.slice va rs.length vc) rfl;have c1:=HX1.out.cell (o:=1) (u:=.slice na f.nodes.length nc) rfl;have c2:=HX1.out.cell (o:=2) (u:=.slice ca f.calls.length cc) rfl;have cl:=HX1.out.lt
 go_upto_region 5 with(go_at_call 11;(with_reducible refine(zxi _ _ _ rs f _ HF1.out HOK.out x HD.out).mono ?_);rintro e w2 ⟨b,rfl,hE,hb⟩;have hEl:=zai hE.1;have hbf:w.heap.size≠b:=(fun e0=>by have h9:=HG1.out.cell (o:=0) (u:=.slice none 0 0) rfl;rw[e0] at h9;have h8:=za0 hb h9;rw[hE.1] at h8;cases h8);have hn:=zaa w2 (.cells #[.slice none 0 0,.slice none 0 0] 40);have hbn:=hb.trans (hn.mono hb.size);have HE2:=Lib.hid (hE.kept hn (Nat.le_refl _));have HG2:=Lib.hid (HG1.out.below hbn);have HB2:=Lib.hid (HB1.out.trans (hbn.mono HB1.out.size));clear hE hb hn hbn c0 c1 c2 cl)
 obtain⟨W2,hW2⟩:∃W2,w2.alloc (.cells #[.slice none 0 0,.slice none 0 0] 40)=W2:=⟨_,rfl⟩;rw[hW2] at HE2 HG2 HB2;rw[hW2];clear hW2;have g0:=HG2.out.cell (o:=0) (u:=.slice none 0 0) rfl;have g1:=HG2.out.cell (o:=1) (u:=.slice none 0 0) rfl;have gf:=HG2.out.free;have gl:=HG2.out.lt;go_wp2;refine bodyPost_ret (v:=.tuple #[.agg #[.slice none 0 0,.slice none 0 0],.iface 109 (.pointer (some ⟨b,0,none⟩))]) (by simp[results,Tryz.results24,go_sem,g0,g1]) rfl ?_;exact⟨b,GErr.put (er:=.within b (strOf x.1) (.fault 2 (x.2:Int))) HB2.out (Nat.le_refl _) (zfd HE2.out hbf.symm)⟩
theorem z5l (s:ByteArray)(w:World)(hl:LexLaid w)(hs:s.size<=1050000){rs:List (List Nat × Nat × Int)}{f:MF}(hO:zaz (bts s)=.ok rs f)(x:List Nat × Nat)(hd:dupO rs=none)(hu:undO (nmR rs) f=some x) :
  Calls Tryz.prog 24 #[.string s] w (fun e w'=>∃b,GErr (.within b (strOf x.1) (.fault 3 (x.2:Int))) w e w'):=by
 have HP:=Lib.hid fun(W:World) (hb:Below w.heap.size w W)=>(zax s W (hl.2.kept hb (Nat.le_refl _)) (by omega)).mono fun e w' h=>zb6 (by
  rw[zbj,hO] at h;exact h)
 have HOK:=Lib.hid (zb9 hs hO);have HB0:=Lib.hid (zaa w (.cells #[.slice none 0 0,.slice none 0 0] 40));have HG0:=Lib.hid (Bl.new w 40 #[.slice none 0 0,.slice none 0 0]);have HD:=Lib.hid hd;have HU:=Lib.hid hu;clear hO hl hs hd hu;go_enter Tryz.func24,Tryz.ntmps24
 go_upto_region 4 with(go_at_call 8;(with_reducible refine(HP.out _ HB0.out).mono ?_);rintro e w1 ⟨va,vc,na,nc,ca,cc,rfl,hF,hb⟩;have hn:=zaa w1 (.cells #[.slice va rs.length vc,.slice na f.nodes.length nc,.slice ca f.calls.length cc] 26);have hbn:=hb.trans (hn.mono hb.size);have HF1:=Lib.hid (hF.below hn).file;have HX1:=Lib.hid (Bl.new w1 26 #[.slice va rs.length vc,.slice na f.nodes.length nc,.slice ca f.calls.length cc]);have HG1:=Lib.hid (HG0.out.below hbn);have HB1:=Lib.hid (HB0.out.trans (hbn.mono HB0.out.size));clear hF hb hn hbn)
 obtain⟨W1,hW1⟩:∃W1,w1.alloc (.cells #[.slice va rs.length vc,.slice na f.nodes.length nc,.slice ca f.calls.length cc] 26)=W1:=⟨_,rfl⟩;rw[hW1] at HF1 HX1 HG1 HB1;obtain⟨F,hF⟩:∃F,w1.heap.size=F:=⟨_,rfl⟩;rw[hF] at HX1;rw[hW1,hF];clear hW1 hF;have c0:=HX1.out.cell (o:=0) (u:=.slice va rs.length vc) rfl;have c1:=HX1.out.cell (o:=1) (u:=.slice na f.nodes.length nc) rfl;have c2:=HX1.out.cell (o:=2) (u:=.slice ca f.calls.length cc) rfl;have cl:=HX1.out.lt
 go_upto_region 5 with(go_at_call 11;(with_reducible refine(zr8 _ _ _ rs f _ HF1.out HOK.out x HD.out HU.out).mono ?_);rintro e w2 ⟨b,rfl,hE,hb⟩;have hEl:=zai hE.1;have hbf:w.heap.size≠b:=(fun e0=>by have h9:=HG1.out.cell (o:=0) (u:=.slice none 0 0) rfl;rw[e0] at h9;have h8:=za0 hb h9;rw[hE.1] at h8;cases h8);have hn:=zaa w2 (.cells #[.slice none 0 0,.slice none 0 0] 40);have hbn:=hb.trans (hn.mono hb.size);have HE2:=Lib.hid (hE.kept hn (Nat.le_refl _));have HG2:=Lib.hid (HG1.out.below hbn);have HB2:=Lib.hid (HB1.out.trans (hbn.mono HB1.out.size));clear hE hb hn hbn c0 c1 c2 cl)
 obtain⟨W2,hW2⟩:∃W2,w2.alloc (.cells #[.slice none 0 0,.slice none 0 0] 40)=W2:=⟨_,rfl⟩;rw[hW2] at HE2 HG2 HB2;rw[hW2];clear hW2;have g0:=HG2.out.cell (o:=0) (u:=.slice none 0 0) rfl;have g1:=HG2.out.cell (o:=1) (u:=.slice none 0 0) rfl;have gf:=HG2.out.free;have gl:=HG2.out.lt;go_wp2;refine bodyPost_ret (v:=.tuple #[.agg #[.slice none 0 0,.slice none 0 0],.iface 109 (.pointer (some ⟨b,0,none⟩))]) (by simp[results,Tryz.results24,go_sem,g0,g1]) rfl ?_;exact⟨b,GErr.put (er:=.within b (strOf x.1) (.fault 3 (x.2:Int))) HB2.out (Nat.le_refl _) (zfd HE2.out hbf.symm)⟩
theorem NRow.mono {base base':Nat}{v:Value}{ns:List PN}{qs:List Value}{w:World}(h:NRow base v ns qs w)(hb:base'<=base):NRow base' v ns qs w:=⟨h.1,za2 h.2.1 hb,fun j n q x y=>za2 (h.2.2 j n q x y) hb⟩
theorem zhk {rs:List (List Nat × Nat × Int)}{f:MF}(h:FileOk rs f):∀r,r ∈ zam rs->r.name.size<=2000000:=fun r hr=>by
 obtain⟨x,hx,rfl⟩:=List.mem_map.1 hr;show(strOf x.1).size<=_;rw[zb0];exact h.rn x hx
theorem zhl {rs:List (List Nat × Nat × Int)}{f:MF}(h:FileOk rs f):∀n,n ∈ zan (nmR rs) (nmC f) f.nodes->n.kids.length<=maxLen:=fun n hn=>by
 obtain⟨x,hx,rfl⟩:=List.mem_map.1 hn;rw[zk8];have:=h.kl x hx;unfold maxLen;omega
theorem zxz (s:ByteArray)(w:World)(hl:LexLaid w)(hs:s.size<=1050000){rs:List (List Nat × Nat × Int)}{f:MF}(hO:zaz (bts s)=.ok rs f)(hd:dupO rs=none)(hu:undO (nmR rs) f=none)(hk:chkL (zam rs) (zan (nmR rs) (nmC f) f.nodes)=.ok) :
  Calls Tryz.prog 24 #[.string s] w (zr7 (zam rs) (zan (nmR rs) (nmC f) f.nodes) w):=by
 have HP:=Lib.hid fun(W:World) (hb:Below w.heap.size w W)=>(zax s W (hl.2.kept hb (Nat.le_refl _)) (by omega)).mono fun e w' h=>zb6 (by
  rw[zbj,hO] at h;exact h)
 have HOK:=Lib.hid (zb9 hs hO);have HB0:=Lib.hid (zaa w (.cells #[.slice none 0 0,.slice none 0 0] 40));have HG0:=Lib.hid (Bl.new w 40 #[.slice none 0 0,.slice none 0 0]);have HD:=Lib.hid hd;have HU:=Lib.hid hu;have HKO:=Lib.hid hk;clear hO hl hs hd hu hk;go_enter Tryz.func24,Tryz.ntmps24
 go_upto_region 4 with(go_at_call 8;(with_reducible refine(HP.out _ HB0.out).mono ?_);rintro e w1 ⟨va,vc,na,nc,ca,cc,rfl,hF,hb⟩;have hn:=zaa w1 (.cells #[.slice va rs.length vc,.slice na f.nodes.length nc,.slice ca f.calls.length cc] 26);have hbn:=hb.trans (hn.mono hb.size);have HF1:=Lib.hid (hF.below hn).file;have HX1:=Lib.hid (Bl.new w1 26 #[.slice va rs.length vc,.slice na f.nodes.length nc,.slice ca f.calls.length cc]);have HG1:=Lib.hid (HG0.out.below hbn);have HB1:=Lib.hid (HB0.out.trans (hbn.mono HB0.out.size));clear hF hb hn hbn)
 obtain⟨W1,hW1⟩:∃W1,w1.alloc (.cells #[.slice va rs.length vc,.slice na f.nodes.length nc,.slice ca f.calls.length cc] 26)=W1:=⟨_,rfl⟩;rw[hW1] at HF1 HX1 HG1 HB1;obtain⟨F,hF⟩:∃F,w1.heap.size=F:=⟨_,rfl⟩;rw[hF] at HX1;rw[hW1,hF];clear hW1 hF;have c0:=HX1.out.cell (o:=0) (u:=.slice va rs.length vc) rfl;have c1:=HX1.out.cell (o:=1) (u:=.slice na f.nodes.length nc) rfl;have c2:=HX1.out.cell (o:=2) (u:=.slice ca f.calls.length cc) rfl;have cl:=HX1.out.lt
 go_upto_region 7 with(go_at_call 11;(with_reducible refine(of_ok _ _ _ rs f _ HF1.out HOK.out HD.out HU.out).mono ?_);rintro e w2 ⟨rv2,nv2,qs2,rfl,hR,hN,hb⟩;obtain⟨ra2,rc2,rfl⟩:=zag hR;obtain⟨na2,nc2,rfl⟩:=zag hN.2.1;have hn:=zaa w2 (.cells #[.slice ra2 (zam rs).length rc2,.slice na2 (zan (nmR rs) (nmC f) f.nodes).length nc2] 40);have hbn:=hb.trans (hn.mono hb.size);have HR2:=Lib.hid (za2 (zab hR hn) HB1.out.size);have HN2:=Lib.hid (NRow.grown (NRow.mono hN HB1.out.size) hn);have HY2:=Lib.hid (Bl.new w2 40 #[.slice ra2 (zam rs).length rc2,.slice na2 (zan (nmR rs) (nmC f) f.nodes).length nc2]);have HG2:=Lib.hid (HG1.out.below hbn);have HB2:=Lib.hid (HB1.out.trans (hbn.mono HB1.out.size));clear hR hN hb hn hbn c0 c1 c2 cl)
 obtain⟨W2,hW2⟩:∃W2,w2.alloc (.cells #[.slice ra2 (zam rs).length rc2,.slice na2 (zan (nmR rs) (nmC f) f.nodes).length nc2] 40)=W2:=⟨_,rfl⟩;rw[hW2] at HR2 HN2 HY2 HG2 HB2;obtain⟨Y,hY⟩:∃Y,w2.heap.size=Y:=⟨_,rfl⟩;rw[hY] at HY2;rw[hW2,hY];clear hW2 hY;have hlr:(zam rs).length<=maxLen:=by have:=HOK.out.rl;unfold zam maxLen;rw[List.length_map];omega
 have hln:(zan (nmR rs) (nmC f) f.nodes).length<=maxLen:=by have:=HOK.out.nl;rw[zc1];unfold maxLen;omega
 have HRI:=Lib.hid (RulesIn.of_own HR2.out hlr);have HNI:=Lib.hid (HN2.out.nodes hln (zhl HOK.out));have HSZ:=Lib.hid (zhk HOK.out);have y0:=HY2.out.cell (o:=0) (u:=.slice ra2 (zam rs).length rc2) rfl;have y1:=HY2.out.cell (o:=1) (u:=.slice na2 (zan (nmR rs) (nmC f) f.nodes).length nc2) rfl;have yl:=HY2.out.lt;clear hlr hln;have HCK:=Lib.hid (zoi _ _ _ _ _ HRI.out HNI.out HSZ.out);rw[HKO.out] at HCK;have HCK:Hid (Calls Tryz.prog 47 #[.agg #[.slice ra2 (zam rs).length rc2,.slice na2 (zan (nmR rs) (nmC f) f.nodes).length nc2]] W2 fun e w'=>e=.returned .nilIface/\Below W2.heap.size W2 w'):=HCK
 go_wp2_with (go_at_call 47;(with_reducible refine HCK.out.mono ?_);rintro e w3 ⟨rfl,hb⟩;have HR3:=Lib.hid (zab HR2.out hb);have HN3:=Lib.hid (HN2.out.grown hb);have HY3:=Lib.hid (HY2.out.below hb);have HG3:=Lib.hid (HG2.out.below hb);have HB3:=Lib.hid (HB2.out.trans (hb.mono HB2.out.size));clear hb y0 y1 yl;have y0:=HY3.out.cell (o:=0) (u:=.slice ra2 (zam rs).length rc2) rfl;have y1:=HY3.out.cell (o:=1) (u:=.slice na2 (zan (nmR rs) (nmC f) f.nodes).length nc2) rfl;have yl:=HY3.out.lt;have g0:=HG3.out.cell (o:=0) (u:=.slice none 0 0) rfl;have g1:=HG3.out.cell (o:=1) (u:=.slice none 0 0) rfl;have gf:=HG3.out.free;have gl:=HG3.out.lt)
 refine bodyPost_ret (v:=.tuple #[.agg #[.slice ra2 (zam rs).length rc2,.slice na2 (zan (nmR rs) (nmC f) f.nodes).length nc2],.nilIface]) (by simp[results,Tryz.results24,go_sem,g0,g1]) rfl ?_;exact⟨_,_,qs2,rfl,zfn HR3.out HG3.out (by decide),⟨HN3.out.1,zfn HN3.out.2.1 HG3.out (by decide),fun j n q x y=>zfn (HN3.out.2.2 j n q x y) HG3.out (by decide)⟩,(HB3.out.setCell (p:=⟨w.heap.size,0,none⟩) (Nat.le_refl _) _).setCell (p:=⟨w.heap.size,1,none⟩) (Nat.le_refl _) _⟩
theorem z5m {c:Chk}{W w':World}{e:Ending}(h:ChkIs c W e w')(hc:c≠.ok):∃er:Err,e=.returned er.val/\er.In w'/\er.codeOf=some (chkC c)/\(∀B,Bl w' B 40 #[.slice none 0 0,.slice none 0 0]->∀W',(∀b,b≠B->W'.heap[b]?=w'.heap[b]?)->er.In W')/\Below W.heap.size W w':=by
 have part:∀(p:ByteArray) (c i:Int),PartErr p c i W e w'->∃er:Err,e=.returned er.val/\er.In w'/\er.codeOf=some c/\(∀B,Bl w' B 40 #[.slice none 0 0,.slice none 0 0]->∀W',(∀b,b≠B->W'.heap[b]?=w'.heap[b]?)->er.In W')/\Below W.heap.size W w':=by
  rintro p c i ⟨⟨b,rfl,hE⟩,hb⟩;refine⟨.within b p (.fault c i),rfl,hE,rfl,fun B hB=>zfd hE ?_,hb⟩;rintro rfl;have h0:=hE.1;rw[hB.cell (o:=0) rfl] at h0;cases h0
 cases c with
 |ok=>exact absurd rfl hc
 |large=>exact⟨.code 4,h.1,trivial,rfl,fun _ _ _ _=>trivial,h.2⟩
 |order=>exact⟨.code 10,h.1,trivial,rfl,fun _ _ _ _=>trivial,h.2⟩
 |rules i=>exact part _ _ _ h
 |nodes i=>exact part _ _ _ h
 |deep i=>exact part _ _ _ h
theorem z5n (s:ByteArray)(w:World)(hl:LexLaid w)(hs:s.size<=1050000){rs:List (List Nat × Nat × Int)}{f:MF}(hO:zaz (bts s)=.ok rs f)(hd:dupO rs=none)(hu:undO (nmR rs) f=none)(hk:chkL (zam rs) (zan (nmR rs) (nmC f) f.nodes)≠.ok) :
  Calls Tryz.prog 24 #[.string s] w (GErrC (chkC (chkL (zam rs) (zan (nmR rs) (nmC f) f.nodes))) w):=by
 have HP:=Lib.hid fun(W:World) (hb:Below w.heap.size w W)=>(zax s W (hl.2.kept hb (Nat.le_refl _)) (by omega)).mono fun e w' h=>zb6 (by
  rw[zbj,hO] at h;exact h)
 have HOK:=Lib.hid (zb9 hs hO);have HB0:=Lib.hid (zaa w (.cells #[.slice none 0 0,.slice none 0 0] 40));have HG0:=Lib.hid (Bl.new w 40 #[.slice none 0 0,.slice none 0 0]);have HD:=Lib.hid hd;have HU:=Lib.hid hu;have HKO:=Lib.hid hk;clear hO hl hs hd hu hk;go_enter Tryz.func24,Tryz.ntmps24
 go_upto_region 4 with(go_at_call 8;(with_reducible refine(HP.out _ HB0.out).mono ?_);rintro e w1 ⟨va,vc,na,nc,ca,cc,rfl,hF,hb⟩;have hn:=zaa w1 (.cells #[.slice va rs.length vc,.slice na f.nodes.length nc,.slice ca f.calls.length cc] 26);have hbn:=hb.trans (hn.mono hb.size);have HF1:=Lib.hid (hF.below hn).file;have HX1:=Lib.hid (Bl.new w1 26 #[.slice va rs.length vc,.slice na f.nodes.length nc,.slice ca f.calls.length cc]);have HG1:=Lib.hid (HG0.out.below hbn);have HB1:=Lib.hid (HB0.out.trans (hbn.mono HB0.out.size));clear hF hb hn hbn)
 obtain⟨W1,hW1⟩:∃W1,w1.alloc (.cells #[.slice va rs.length vc,.slice na f.nodes.length nc,.slice ca f.calls.length cc] 26)=W1:=⟨_,rfl⟩;rw[hW1] at HF1 HX1 HG1 HB1;obtain⟨F,hF⟩:∃F,w1.heap.size=F:=⟨_,rfl⟩;rw[hF] at HX1;rw[hW1,hF];clear hW1 hF;have c0:=HX1.out.cell (o:=0) (u:=.slice va rs.length vc) rfl;have c1:=HX1.out.cell (o:=1) (u:=.slice na f.nodes.length nc) rfl;have c2:=HX1.out.cell (o:=2) (u:=.slice ca f.calls.length cc) rfl;have cl:=HX1.out.lt
 go_upto_region 7 with(go_at_call 11;(with_reducible refine(of_ok _ _ _ rs f _ HF1.out HOK.out HD.out HU.out).mono ?_);rintro e w2 ⟨rv2,nv2,qs2,rfl,hR,hN,hb⟩;obtain⟨ra2,rc2,rfl⟩:=zag hR;obtain⟨na2,nc2,rfl⟩:=zag hN.2.1;have hn:=zaa w2 (.cells #[.slice ra2 (zam rs).length rc2,.slice na2 (zan (nmR rs) (nmC f) f.nodes).length nc2] 40);have hbn:=hb.trans (hn.mono hb.size);have HR2:=Lib.hid (za2 (zab hR hn) HB1.out.size);have HN2:=Lib.hid (NRow.grown (NRow.mono hN HB1.out.size) hn);have HY2:=Lib.hid (Bl.new w2 40 #[.slice ra2 (zam rs).length rc2,.slice na2 (zan (nmR rs) (nmC f) f.nodes).length nc2]);have HG2:=Lib.hid (HG1.out.below hbn);have HB2:=Lib.hid (HB1.out.trans (hbn.mono HB1.out.size));clear hR hN hb hn hbn c0 c1 c2 cl)
 obtain⟨W2,hW2⟩:∃W2,w2.alloc (.cells #[.slice ra2 (zam rs).length rc2,.slice na2 (zan (nmR rs) (nmC f) f.nodes).length nc2] 40)=W2:=⟨_,rfl⟩;rw[hW2] at HR2 HN2 HY2 HG2 HB2;obtain⟨Y,hY⟩:∃Y,w2.heap.size=Y:=⟨_,rfl⟩;rw[hY] at HY2;rw[hW2,hY];clear hW2 hY;have hlr:(zam rs).length<=maxLen:=by have:=HOK.out.rl;unfold zam maxLen;rw[List.length_map];omega
 have hln:(zan (nmR rs) (nmC f) f.nodes).length<=maxLen:=by have:=HOK.out.nl;rw[zc1];unfold maxLen;omega
 have HRI:=Lib.hid (RulesIn.of_own HR2.out hlr);have HNI:=Lib.hid (HN2.out.nodes hln (zhl HOK.out));have HSZ:=Lib.hid (zhk HOK.out);have y0:=HY2.out.cell (o:=0) (u:=.slice ra2 (zam rs).length rc2) rfl;have y1:=HY2.out.cell (o:=1) (u:=.slice na2 (zan (nmR rs) (nmC f) f.nodes).length nc2) rfl;have yl:=HY2.out.lt;clear hlr hln;have HCK:=Lib.hid (zoi _ _ _ _ _ HRI.out HNI.out HSZ.out)
 go_upto_region 8 with(go_at_call 47;(with_reducible refine HCK.out.mono ?_);intro e w3 hck;obtain⟨er,rfl,hE,hco,hst,hb⟩:=z5m hck HKO.out;obtain⟨ty,iv,hev⟩:=er.val_ne;rw[hev];have HE3:=Lib.hid hE;have HCO:=Lib.hid hco;have HEV:=Lib.hid hev;have HG3:=Lib.hid (HG2.out.below hb);have HST:=Lib.hid (hst _ HG3.out);have HB3:=Lib.hid (HB2.out.trans (hb.mono HB2.out.size));clear hck hE hco hst hev hb y0 y1 yl;have g0:=HG3.out.cell (o:=0) (u:=.slice none 0 0) rfl;have g1:=HG3.out.cell (o:=1) (u:=.slice none 0 0) rfl;have gf:=HG3.out.free;have gl:=HG3.out.lt)
 go_wp2;refine bodyPost_ret (v:=.tuple #[.agg #[.slice none 0 0,.slice none 0 0],.iface ty iv]) (by simp[results,Tryz.results24,go_sem,g0,g1]) rfl ?_;refine⟨er,?_,HCO.out⟩;have h:=GErr.put (er:=er) HB3.out (Nat.le_refl _) HST.out;rw[HEV.out] at h;exact⟨by rw[HEV.out],h.2.1,h.2.2⟩
end
section
def x9F:List Nat:=[65,32,60,45,32,66]
theorem x9F_0:nextL x9F 0=.ok (⟨1,0,[65],[]⟩,1):=by
 rw[zb4,show x9F.drop 0=65::x9F.drop 1 from rfl,zbg (by decide) (by decide)];show(match tokL 0 (65::x9F.drop 1) with|some x=>Except.ok x|none=>.error 0)=_;rw[zci (by decide)];rfl
theorem x9F_1:nextL x9F 1=.ok (⟨2,2,[],[]⟩,4):=by
 rw[zb4,show x9F.drop 1=32::60::x9F.drop 3 from rfl,zbf (by decide),zbg (by decide) (by decide)];show(match tokL 2 (60::x9F.drop 3) with|some x=>Except.ok x|none=>.error 2)=_;rw[zbq (by decide) (by decide)]
theorem x9F_4:nextL x9F 4=.ok (⟨1,5,[66],[]⟩,6):=by
 rw[zb4,show x9F.drop 4=32::66::x9F.drop 6 from rfl,zbf (by decide),zbg (by decide) (by decide)];show(match tokL 5 (66::x9F.drop 6) with|some x=>Except.ok x|none=>.error 5)=_;rw[zci (by decide)];rfl
theorem x9F_6:nextL x9F 6=.ok (⟨0,6,[],[]⟩,6):=by
 rw[zb4,show x9F.drop 6=[] from rfl,zc5];rfl
theorem z08:strm x9F 0=[⟨1,0,[65],[]⟩,⟨2,2,[],[]⟩,⟨1,5,[66],[]⟩,⟨0,6,[],[]⟩]:=by
 rw[zbe x9F_0 (by decide) (by decide),zbe x9F_1 (by decide) (by decide),zbe x9F_4 (by decide) (by decide),zbt x9F_6 rfl]
def x9G:List Nat:=[65,32,60,45,32,66,32,39,120,39,10,66,32,60,45,32,65,63]
theorem x9G_0:nextL x9G 0=.ok (⟨1,0,[65],[]⟩,1):=by
 rw[zb4,show x9G.drop 0=65::x9G.drop 1 from rfl,zbg (by decide) (by decide)];show(match tokL 0 (65::x9G.drop 1) with|some x=>Except.ok x|none=>.error 0)=_;rw[zci (by decide)];rfl
theorem x9G_1:nextL x9G 1=.ok (⟨2,2,[],[]⟩,4):=by
 rw[zb4,show x9G.drop 1=32::60::x9G.drop 3 from rfl,zbf (by decide),zbg (by decide) (by decide)];show(match tokL 2 (60::x9G.drop 3) with|some x=>Except.ok x|none=>.error 2)=_;rw[zbq (by decide) (by decide)]
theorem x9G_4:nextL x9G 4=.ok (⟨1,5,[66],[]⟩,6):=by
 rw[zb4,show x9G.drop 4=32::66::x9G.drop 6 from rfl,zbf (by decide),zbg (by decide) (by decide)];show(match tokL 5 (66::x9G.drop 6) with|some x=>Except.ok x|none=>.error 5)=_;rw[zci (by decide)];rfl
theorem x9G_6:nextL x9G 6=.ok (⟨12,7,[120],[]⟩,10):=by
 rw[zb4,show x9G.drop 6=32::39::x9G.drop 8 from rfl,zbf (by decide),zbg (by decide) (by decide)];show(match tokL 7 (39::120::x9G.drop 9) with|some x=>Except.ok x|none=>.error _)=_;rw[zda (Or.inl rfl),zdj (c:=120) (n:=1) rfl (by decide),show(120::x9G.drop 9).drop 1=39::x9G.drop 10 from rfl,zff];rfl
theorem z8m:nextL x9G 10=.ok (⟨1,11,[66],[]⟩,12):=by
 rw[zb4,show x9G.drop 10=10::66::x9G.drop 12 from rfl,zbf (by decide),zbg (by decide) (by decide)];show(match tokL 11 (66::x9G.drop 12) with|some x=>Except.ok x|none=>.error 11)=_;rw[zci (by decide)];rfl
theorem z8n:nextL x9G 12=.ok (⟨2,13,[],[]⟩,15):=by
 rw[zb4,show x9G.drop 12=32::60::x9G.drop 14 from rfl,zbf (by decide),zbg (by decide) (by decide)];show(match tokL 13 (60::x9G.drop 14) with|some x=>Except.ok x|none=>.error 13)=_;rw[zbq (by decide) (by decide)]
theorem z8o:nextL x9G 15=.ok (⟨1,16,[65],[]⟩,17):=by
 rw[zb4,show x9G.drop 15=32::65::x9G.drop 17 from rfl,zbf (by decide),zbg (by decide) (by decide)];show(match tokL 16 (65::x9G.drop 17) with|some x=>Except.ok x|none=>.error 16)=_;rw[zci (by decide)];rfl
theorem z8p:nextL x9G 17=.ok (⟨6,17,[],[]⟩,18):=by
 rw[zb4,show x9G.drop 17=63::x9G.drop 18 from rfl,zbg (by decide) (by decide)];show(match tokL 17 (63::x9G.drop 18) with|some x=>Except.ok x|none=>.error 17)=_;rw[zca (i:=6) (by decide) (by decide) rfl]
theorem z8q:nextL x9G 18=.ok (⟨0,18,[],[]⟩,18):=by
 rw[zb4,show x9G.drop 18=[] from rfl,zc5];rfl
theorem z09:strm x9G 0=[⟨1,0,[65],[]⟩,⟨2,2,[],[]⟩,⟨1,5,[66],[]⟩,⟨12,7,[120],[]⟩,⟨1,11,[66],[]⟩,⟨2,13,[],[]⟩,⟨1,16,[65],[]⟩,⟨6,17,[],[]⟩,⟨0,18,[],[]⟩]:=by
 rw[zbe x9G_0 (by decide) (by decide),zbe x9G_1 (by decide) (by decide),zbe x9G_4 (by decide) (by decide),zbe x9G_6 (by decide) (by decide),zbe z8m (by decide) (by decide),zbe z8n (by decide) (by decide),zbe z8o (by decide) (by decide),zbe z8p (by decide) (by decide),zbt z8q rfl]
def rsF:List (List Nat × Nat × Int):=[([65],0,0)]
def mfF:MF:=⟨[callN 0],[([66],5)]⟩
def rsG:List (List Nat × Nat × Int):=[([65],0,2),([66],11,4)]
def mfG:MF:=⟨[callN 0,clsN (fun i=>decide (i=120)),mkN 3 [0,1],callN 1,mkN 7 [3]],[([66],5),([65],16)]⟩
theorem zsd:zaz x9F=.ok rsF mfF:=by
 unfold zaz;rw[z08];rfl
theorem z1a:zaz x9G=.ok rsG mfG:=by
 unfold zaz;rw[z09];rfl
theorem z5o:dupO rsF=none:=by kernel_rfl
theorem z5p:undO (nmR rsF) mfF=some ([66],5):=by kernel_rfl
theorem z5q:dupO rsG=none:=by kernel_rfl
theorem z5r:undO (nmR rsG) mfG=none:=by kernel_rfl
theorem z5s:chkL (zam rsG) (zan (nmR rsG) (nmC mfG) mfG.nodes)=.ok:=by kernel_rfl
theorem x9F_A:fndL (nmR rsF) ⟨#[65]⟩=some 0:=by kernel_rfl
theorem x9F_B:fndL (nmR rsF) ⟨#[66]⟩=none:=by kernel_rfl
theorem z1b:missL (nmC mfF) (nmR rsF) mfF.calls.length=[⟨#[66]⟩]:=by kernel_rfl
end
section
open Go.RowKit
theorem ztw (w:World):Calls Tryz.prog 161 #[.int .i64 3] w fun ev w'=>ev=.returned (.string ⟨#[51]⟩)/\w'=w:=by
 go_enter Tryz.func161,Tryz.ntmps161;go_wp2;go_ret;exact⟨by kernel_rfl,rfl⟩
theorem ztx (w:World):Calls Tryz.prog 160 #[.int .i64 3] w fun ev w'=>ev=.returned (.string ⟨#[101,114,114,111,114,32,51]⟩)/\Below w.heap.size w w':=by
 go_enter Tryz.func160,Tryz.ntmps160
 go_wp2_with (go_at_call 161;(with_reducible refine(ztw _).mono ?_);rintro ev w1 ⟨rfl,hw⟩;obtain rfl:=hw.symm;clear hw)
 go_ret;exact⟨by kernel_rfl,Below.refl _ _⟩
theorem zqe (p:Int)(w:World):Calls Tryz.prog 175 #[.agg #[.int .i64 3,.int .i64 p]] w fun ev w'=>ev=.returned (.string ⟨#[101,114,114,111,114,32,51]⟩)/\Below w.heap.size w w':=by
 go_enter Tryz.func175,Tryz.ntmps175
 go_wp2_with (go_at_call 160;(with_reducible refine(ztx _).mono ?_);rintro ev w1 ⟨rfl,hb⟩;have HB:=Lib.hid ((zaa w _).trans (hb.mono (zaa w _).size));clear hb)
 go_ret;exact⟨rfl,HB.out⟩
theorem z1c (c p:Int)(w:World):(Go.method 363 106 (.agg #[.int .i64 c,.int .i64 p]) "Error").run Tryz.prog w=.ok (175,.agg #[.int .i64 c,.int .i64 p]) w:=by kernel_rfl
theorem z1d (c p:Int)(w:World):(nilAhead 363 106 (.agg #[.int .i64 c,.int .i64 p]) "Error").run Tryz.prog w=.ok (some false) w:=by kernel_rfl
theorem zx0 (b:Nat)(w:World):(Go.method 363 109 (.pointer (some ⟨b,0,none⟩)) "Error").run Tryz.prog w=.ok (177,.pointer (some ⟨b,0,none⟩)) w:=by kernel_rfl
theorem zx1 (b:Nat)(w:World):(nilAhead 363 109 (.pointer (some ⟨b,0,none⟩)) "Error").run Tryz.prog w=.ok (some false) w:=by kernel_rfl
theorem z1e (args:Array Value)(w:World):(callFunc 175 args).run Tryz.prog w=.ok (.enter 175 args) w:=MuLone.run_callFunc_enter Tryz.func175 (by kernel_rfl) rfl args w
theorem zx2 (args:Array Value)(w:World):(callFunc 177 args).run Tryz.prog w=.ok (.enter 177 args) w:=MuLone.run_callFunc_enter Tryz.func177 (by kernel_rfl) rfl args w
theorem z8r {w W W1:World}{b:Nat}{x y:Value}(hl:b<w.heap.size)(hb:Below W.heap.size W W1)(h:W.cell? ⟨b,0,none⟩=some x/\W.cell? ⟨b,1,none⟩=some y/\Below w.heap.size w W) :
  W1.cell? ⟨b,0,none⟩=some x/\W1.cell? ⟨b,1,none⟩=some y/\Below w.heap.size w W1:=by
 have hz:=h.2.2.size;exact⟨by rw[(bcell hb).1 _ _ (by omega)];exact h.1,by rw[(bcell hb).1 _ _ (by omega)];exact h.2.1,h.2.2.trans (hb.mono hz)⟩
def txt9:ByteArray:=⟨#[114,117,108,101,32,66,58,32,101,114,114,111,114,32,51]⟩
theorem zoj (b:Nat)(p:Int)(w:World)(h0:w.cell? ⟨b,0,none⟩=some (.string ⟨#[66]⟩))(h1:w.cell? ⟨b,1,none⟩=some (.iface 106 (.agg #[.int .i64 3,.int .i64 p]))) :
  Calls Tryz.prog 177 #[.pointer (some ⟨b,0,none⟩)] w fun ev w'=>ev=.returned (.string txt9)/\Below w.heap.size w w':=by
 have hl:=zai h0;have me:=z1c 3 p;have ee:=z1e;have ne:=z1d 3 p;have k1:∀w,(Op.stringOp .add ⟨#[114,117,108,101,32]⟩ ⟨#[66]⟩).run Tryz.prog w=.ok (.string ⟨#[114,117,108,101,32,66]⟩) w:=fun w=>by kernel_rfl
 have k2:∀w,(Op.stringOp .add ⟨#[114,117,108,101,32,66]⟩ ⟨#[58,32]⟩).run Tryz.prog w=.ok (.string ⟨#[114,117,108,101,32,66,58,32]⟩) w:=fun w=>by kernel_rfl
 have k3:∀w,(Op.stringOp .add ⟨#[114,117,108,101,32,66,58,32]⟩ ⟨#[101,114,114,111,114,32,51]⟩).run Tryz.prog w=.ok (.string txt9) w:=fun w=>by kernel_rfl
 go_enter Tryz.func177,Tryz.ntmps177;go_wp2;have hS:w.drew.cell? ⟨b,0,none⟩=some (.string ⟨#[66]⟩)/\w.drew.cell? ⟨b,1,none⟩=some (.iface 106 (.agg #[.int .i64 3,.int .i64 p]))/\Below w.heap.size w w.drew:=⟨h0,h1,(Below.refl _ _).drew⟩;clear h0 h1
 go_region_held3 (fun W=>W.cell? ⟨b,0,none⟩=some (.string ⟨#[66]⟩)/\W.cell? ⟨b,1,none⟩=some (.iface 106 (.agg #[.int .i64 3,.int .i64 p]))/\Below w.heap.size w W) (first|exact hS)
  (first|(with_reducible refine(zqe p _).mono ?_;rintro ev w3 ⟨rfl,hb⟩;replace hS:=z8r hl hb hS;clear hb))
 go_wp2;go_ret;exact⟨rfl,hS.2.2⟩
end
end Go.Proofs.YtnmflokhnaiiiaaGreatDoor
