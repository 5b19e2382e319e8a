/- resolve.Grammar. Written by wip/gen/resgrm.py. -/
import Derived.Test.YtmopdlbpkiaoeaaGreatDoorPqRG
import Derived.Test.YtmopdlbpkiaoeaaGreatDoorPqX
import Derived.Test.YtmopdlbpkiaoeaaGreatDoorPqGramChk
set_option maxRecDepth 100000
set_option maxHeartbeats 8000000
open Go.Value renaming slice->jf, string->jh, tuple->jk
namespace Go.Proofs.YtmopdlbpkiaoeaaGreatDoor
open Go.Lib renaming hid->qaa
open Go.Proofs.Tryz renaming prog->qab
open Go.Proofs.YtmopdlbpkiaoeaaGreatDoor.Bl renaming new->qa0
open List renaming length_map->qaw, mem_map->qcz
open Nat renaming le_refl->qac
variable {rs:List (List Nat × Nat × Int)}{f:MF}{W:World}
section
open Go.RowKit
theorem GotF.file {va:Option Addr}{vc:Nat}{na:Option Addr}{nc:Nat}{ca:Option Addr}{cc:Nat}(h:GotF W va vc na nc ca cc rs f):FileIn W (jf va rs.length vc) (jf na f.nodes.length nc) (jf ca f.calls.length cc) rs f:=h
def GErr (er:Err)(w:World)(e:Ending)(w':World):Prop:=e=.returned (jk #[.agg #[jf none 0 0,jf none 0 0],er.val])/\er.In w'/\Below w.heap.size w w'
def chkC:Chk->Int
 |.ok=>0
 |.large=>4
 |.order=>10
 |.rules _=>10
 |.nodes _=>10
 |.deep _=>5
def grmC (o:FO):Int:=match o with
 |.bad _ dp=>erC dp
 |.ok rs f=>match dupO rs with
  |some _=>2
  |none=>match undO (nmR rs) f with
   |some _=>3
   |none=>chkC (chkL (zam rs) (zan (nmR rs) (nmC f) f.nodes))
def GErrC (c:Int)(w:World)(e:Ending)(w':World):Prop:=∃er:Err,GErr er w e w'/\er.codeOf=some c
theorem GErr.put {er:Err}{w:World}{B:Nat}(hb:Below w.heap.size w W)(hB:w.heap.size<=B)(hE:∀W',(∀b,b≠B->W'.heap[b]?=W.heap[b]?)->er.In W'):GErr er w (.returned (jk #[.agg #[jf none 0 0,jf none 0 0],er.val])) ((W.setCell ⟨B,0,none⟩ (jf none 0 0)).setCell ⟨B,1,none⟩ (jf none 0 0)):=
 ⟨rfl,hE _ (fun b h=>by rw[heap_setCell_other _ _ _ _ h,heap_setCell_other _ _ _ _ h]),(hb.setCell (p:=⟨B,0,none⟩) hB _).setCell (p:=⟨B,1,none⟩) hB _⟩
theorem zfd {E B:Nat}{r:ByteArray}{c p:Int}(h:(Err.within E r (.fault c p)).In W)(hne:E≠B):∀W',(∀b,b≠B->W'.heap[b]?=W.heap[b]?)->(Err.within E r (.fault c p)).In W':=fun W' hW=>by
 obtain⟨h0,h1,-⟩:=h;have e:=hW E hne;exact⟨by unfold World.cell? at h0 ⊢;rw[e];exact h0,by unfold World.cell? at h1 ⊢;rw[e];exact h1,trivial⟩
theorem z5j (s:ByteArray)(w:World)(hl:SignsAt w)(hs:s.size<=1050000){a:List Tok}{dp:Bool}(hO:zaz (bts s)=.bad a dp) :
  Calls qab 15 #[jh s] w (GErr (.fault (erC dp) (pos a:Int)) w):=by
 have HP:=qaa fun(W:World) (hb:Below w.heap.size w W)=>(zax s W (hl.kept hb (qac _)) U).mono fun e w' h=>zc8 (by
  rw[zbj,hO] at h;exact h)
 have HB0:=qaa (zaa w (.cells #[jf none 0 0,jf none 0 0] 25));have HG0:=qaa (qa0 w 25 #[jf none 0 0,jf none 0 0]);obtain⟨c,hc⟩:∃c,erC dp=c:=⟨_,rfl⟩;rw[hc] at HP;rw[hc];clear hO hl hs hc;go_enter Tryz.func15,Tryz.ntmps15
 go_upto_region 2 with(go_at_call 33;(with_reducible refine(HP.out _ HB0.out).mono ?_);rintro e w1 ⟨rfl,hb⟩;have hn:=zaa w1 (.cells #[jf none 0 0,jf none 0 0,jf none 0 0] 46);have hbn:=hb.trans (hn.mono hb.size);have HG1:=qaa (HG0.out.below hbn);have HB1:=qaa (HB0.out.trans (hbn.mono HB0.out.size));clear hb hn hbn)
 obtain⟨W1,hW1⟩:∃W1,w1.alloc (.cells #[jf none 0 0,jf none 0 0,jf none 0 0] 46)=W1:=⟨_,rfl⟩;rw[hW1] at HG1 HB1;rw[hW1];clear hW1;have g0:=HG1.out.cell (o:=0) (u:=jf none 0 0) rfl;have g1:=HG1.out.cell (o:=1) (u:=jf none 0 0) rfl;have gf:=HG1.out.free;have gl:=HG1.out.lt;go_wp2;refine bodyPost_ret (v:=jk #[.agg #[jf none 0 0,jf none 0 0],.iface 160 (.agg #[.int .i64 c,.int .i64 (pos a:Int)])]) (by simp[results,Tryz.results15,go_sem,g0,g1]) rfl ?_;exact GErr.put (er:=.fault c (pos a:Int)) HB1.out (qac _) (fun _ _=>trivial)
theorem z5k (s:ByteArray)(w:World)(hl:SignsAt w)(hs:s.size<=1050000)(hO:zaz (bts s)=.ok rs f)(x:List Nat × Nat)(hd:dupO rs=some x) :
  Calls qab 15 #[jh s] w (fun e w'=>∃b,GErr (.within b (strOf x.1) (.fault 2 (x.2:Int))) w e w'):=by
 have HP:=qaa fun(W:World) (hb:Below w.heap.size w W)=>(zax s W (hl.kept hb (qac _)) U).mono fun e w' h=>zb6 (by
  rw[zbj,hO] at h;exact h)
 have HOK:=qaa (zb9 hs hO);have HB0:=qaa (zaa w (.cells #[jf none 0 0,jf none 0 0] 25));have HG0:=qaa (qa0 w 25 #[jf none 0 0,jf none 0 0]);have HD:=qaa hd;clear hO hl hs hd;go_enter Tryz.func15,Tryz.ntmps15
 go_upto_region 4 with(go_at_call 33;(with_reducible refine(HP.out _ HB0.out).mono ?_);rintro e w1 ⟨va,vc,na,nc,ca,cc,rfl,hF,hb⟩;have hn:=zaa w1 (.cells #[jf va rs.length vc,jf na f.nodes.length nc,jf ca f.calls.length cc] 46);have hbn:=hb.trans (hn.mono hb.size);have HF1:=qaa (hF.below hn).file;have HX1:=qaa (qa0 w1 46 #[jf va rs.length vc,jf na f.nodes.length nc,jf ca f.calls.length cc]);have HG1:=qaa (HG0.out.below hbn);have HB1:=qaa (HB0.out.trans (hbn.mono HB0.out.size));clear hF hb hn hbn)
 obtain⟨W1,hW1⟩:∃W1,w1.alloc (.cells #[jf va rs.length vc,jf na f.nodes.length nc,jf ca f.calls.length cc] 46)=W1:=⟨_,rfl⟩;rw[hW1] at HF1 HX1 HG1 HB1;obtain⟨F,hF⟩:∃F,w1.heap.size=F:=⟨_,rfl⟩;rw[hF] at HX1;rw[hW1,hF];clear hW1 hF;have c0:=HX1.out.cell (o:=0) (u:=jf va rs.length vc) rfl;have c1:=HX1.out.cell (o:=1) (u:=jf na f.nodes.length nc) rfl;have c2:=HX1.out.cell (o:=2) (u:=jf ca f.calls.length cc) rfl;have cl:=HX1.out.lt
 go_upto_region 5 with(go_at_call 34;(with_reducible refine(zxi _ _ _ rs f _ HF1.out HOK.out x HD.out).mono ?_);rintro e w2 ⟨b,rfl,hE,hb⟩;have hEl:=zai hE.1;have hbf:w.heap.size≠b:=(fun e0=>by have h9:=HG1.out.cell (o:=0) (u:=jf none 0 0) rfl;rw[e0] at h9;have h8:=za0 hb h9;rw[hE.1] at h8;cases h8);have hn:=zaa w2 (.cells #[jf none 0 0,jf none 0 0] 25);have hbn:=hb.trans (hn.mono hb.size);have HE2:=qaa (hE.kept hn (qac _));have HG2:=qaa (HG1.out.below hbn);have HB2:=qaa (HB1.out.trans (hbn.mono HB1.out.size));clear hE hb hn hbn c0 c1 c2 cl)
 obtain⟨W2,hW2⟩:∃W2,w2.alloc (.cells #[jf none 0 0,jf none 0 0] 25)=W2:=⟨_,rfl⟩;rw[hW2] at HE2 HG2 HB2;rw[hW2];clear hW2;have g0:=HG2.out.cell (o:=0) (u:=jf none 0 0) rfl;have g1:=HG2.out.cell (o:=1) (u:=jf none 0 0) rfl;have gf:=HG2.out.free;have gl:=HG2.out.lt;go_wp2;refine bodyPost_ret (v:=jk #[.agg #[jf none 0 0,jf none 0 0],.iface 149 (.pointer (some ⟨b,0,none⟩))]) (by simp[results,Tryz.results15,go_sem,g0,g1]) rfl ?_;exact⟨b,GErr.put (er:=.within b (strOf x.1) (.fault 2 (x.2:Int))) HB2.out (qac _) (zfd HE2.out hbf.symm)⟩
theorem z5l (s:ByteArray)(w:World)(hl:SignsAt w)(hs:s.size<=1050000)(hO:zaz (bts s)=.ok rs f)(x:List Nat × Nat)(hd:dupO rs=none)(hu:undO (nmR rs) f=some x) :
  Calls qab 15 #[jh s] w (fun e w'=>∃b,GErr (.within b (strOf x.1) (.fault 3 (x.2:Int))) w e w'):=by
 have HP:=qaa fun(W:World) (hb:Below w.heap.size w W)=>(zax s W (hl.kept hb (qac _)) U).mono fun e w' h=>zb6 (by
  rw[zbj,hO] at h;exact h)
 have HOK:=qaa (zb9 hs hO);have HB0:=qaa (zaa w (.cells #[jf none 0 0,jf none 0 0] 25));have HG0:=qaa (qa0 w 25 #[jf none 0 0,jf none 0 0]);have HD:=qaa hd;have HU:=qaa hu;clear hO hl hs hd hu;go_enter Tryz.func15,Tryz.ntmps15
 go_upto_region 4 with(go_at_call 33;(with_reducible refine(HP.out _ HB0.out).mono ?_);rintro e w1 ⟨va,vc,na,nc,ca,cc,rfl,hF,hb⟩;have hn:=zaa w1 (.cells #[jf va rs.length vc,jf na f.nodes.length nc,jf ca f.calls.length cc] 46);have hbn:=hb.trans (hn.mono hb.size);have HF1:=qaa (hF.below hn).file;have HX1:=qaa (qa0 w1 46 #[jf va rs.length vc,jf na f.nodes.length nc,jf ca f.calls.length cc]);have HG1:=qaa (HG0.out.below hbn);have HB1:=qaa (HB0.out.trans (hbn.mono HB0.out.size));clear hF hb hn hbn)
 obtain⟨W1,hW1⟩:∃W1,w1.alloc (.cells #[jf va rs.length vc,jf na f.nodes.length nc,jf ca f.calls.length cc] 46)=W1:=⟨_,rfl⟩;rw[hW1] at HF1 HX1 HG1 HB1;obtain⟨F,hF⟩:∃F,w1.heap.size=F:=⟨_,rfl⟩;rw[hF] at HX1;rw[hW1,hF];clear hW1 hF;have c0:=HX1.out.cell (o:=0) (u:=jf va rs.length vc) rfl;have c1:=HX1.out.cell (o:=1) (u:=jf na f.nodes.length nc) rfl;have c2:=HX1.out.cell (o:=2) (u:=jf ca f.calls.length cc) rfl;have cl:=HX1.out.lt
 go_upto_region 5 with(go_at_call 34;(with_reducible refine(zr8 _ _ _ rs f _ HF1.out HOK.out x HD.out HU.out).mono ?_);rintro e w2 ⟨b,rfl,hE,hb⟩;have hEl:=zai hE.1;have hbf:w.heap.size≠b:=(fun e0=>by have h9:=HG1.out.cell (o:=0) (u:=jf none 0 0) rfl;rw[e0] at h9;have h8:=za0 hb h9;rw[hE.1] at h8;cases h8);have hn:=zaa w2 (.cells #[jf none 0 0,jf none 0 0] 25);have hbn:=hb.trans (hn.mono hb.size);have HE2:=qaa (hE.kept hn (qac _));have HG2:=qaa (HG1.out.below hbn);have HB2:=qaa (HB1.out.trans (hbn.mono HB1.out.size));clear hE hb hn hbn c0 c1 c2 cl)
 obtain⟨W2,hW2⟩:∃W2,w2.alloc (.cells #[jf none 0 0,jf none 0 0] 25)=W2:=⟨_,rfl⟩;rw[hW2] at HE2 HG2 HB2;rw[hW2];clear hW2;have g0:=HG2.out.cell (o:=0) (u:=jf none 0 0) rfl;have g1:=HG2.out.cell (o:=1) (u:=jf none 0 0) rfl;have gf:=HG2.out.free;have gl:=HG2.out.lt;go_wp2;refine bodyPost_ret (v:=jk #[.agg #[jf none 0 0,jf none 0 0],.iface 149 (.pointer (some ⟨b,0,none⟩))]) (by simp[results,Tryz.results15,go_sem,g0,g1]) rfl ?_;exact⟨b,GErr.put (er:=.within b (strOf x.1) (.fault 3 (x.2:Int))) HB2.out (qac _) (zfd HE2.out hbf.symm)⟩
theorem NRow.mono {base base':Nat}{v:Value}{ns:List PN}{qs:List Value}{w:World}(h:NRow base v ns qs w)(hb:base'<=base):NRow base' v ns qs w:=⟨h.1,za2 h.2.1 hb,fun j n q x y=>za2 (h.2.2 j n q x y) hb⟩
theorem zhk (h:FileOk rs f):∀r,r ∈ zam rs->r.name.size<=2000000:=fun r hr=>by
 obtain⟨x,hx,rfl⟩:=qcz.1 hr;show(strOf x.1).size<=_;rw[zb0];exact h.rn x hx
theorem zhl (h:FileOk rs f):∀n,n ∈ zan (nmR rs) (nmC f) f.nodes->n.kids.length<=maxLen:=fun n hn=>by
 obtain⟨x,hx,rfl⟩:=qcz.1 hn;rw[zk8];have:=h.kl x hx;unfold maxLen;omega
theorem zxz (s:ByteArray)(w:World)(hl:SignsAt w)(hs:s.size<=1050000)(hO:zaz (bts s)=.ok rs f)(hd:dupO rs=none)(hu:undO (nmR rs) f=none)(hk:chkL (zam rs) (zan (nmR rs) (nmC f) f.nodes)=.ok) :
  Calls qab 15 #[jh s] w (GramOk (zam rs) (zan (nmR rs) (nmC f) f.nodes) w):=by
 have HP:=qaa fun(W:World) (hb:Below w.heap.size w W)=>(zax s W (hl.kept hb (qac _)) U).mono fun e w' h=>zb6 (by
  rw[zbj,hO] at h;exact h)
 have HOK:=qaa (zb9 hs hO);have HB0:=qaa (zaa w (.cells #[jf none 0 0,jf none 0 0] 25));have HG0:=qaa (qa0 w 25 #[jf none 0 0,jf none 0 0]);have HD:=qaa hd;have HU:=qaa hu;have HKO:=qaa hk;clear hO hl hs hd hu hk;go_enter Tryz.func15,Tryz.ntmps15
 go_upto_region 4 with(go_at_call 33;(with_reducible refine(HP.out _ HB0.out).mono ?_);rintro e w1 ⟨va,vc,na,nc,ca,cc,rfl,hF,hb⟩;have hn:=zaa w1 (.cells #[jf va rs.length vc,jf na f.nodes.length nc,jf ca f.calls.length cc] 46);have hbn:=hb.trans (hn.mono hb.size);have HF1:=qaa (hF.below hn).file;have HX1:=qaa (qa0 w1 46 #[jf va rs.length vc,jf na f.nodes.length nc,jf ca f.calls.length cc]);have HG1:=qaa (HG0.out.below hbn);have HB1:=qaa (HB0.out.trans (hbn.mono HB0.out.size));clear hF hb hn hbn)
 obtain⟨W1,hW1⟩:∃W1,w1.alloc (.cells #[jf va rs.length vc,jf na f.nodes.length nc,jf ca f.calls.length cc] 46)=W1:=⟨_,rfl⟩;rw[hW1] at HF1 HX1 HG1 HB1;obtain⟨F,hF⟩:∃F,w1.heap.size=F:=⟨_,rfl⟩;rw[hF] at HX1;rw[hW1,hF];clear hW1 hF;have c0:=HX1.out.cell (o:=0) (u:=jf va rs.length vc) rfl;have c1:=HX1.out.cell (o:=1) (u:=jf na f.nodes.length nc) rfl;have c2:=HX1.out.cell (o:=2) (u:=jf ca f.calls.length cc) rfl;have cl:=HX1.out.lt
 go_upto_region 7 with(go_at_call 34;(with_reducible refine(of_ok _ _ _ rs f _ HF1.out HOK.out HD.out HU.out).mono ?_);rintro e w2 ⟨rv2,nv2,qs2,rfl,hR,hN,hb⟩;obtain⟨ra2,rc2,rfl⟩:=zag hR;obtain⟨na2,nc2,rfl⟩:=zag hN.2.1;have hn:=zaa w2 (.cells #[jf ra2 (zam rs).length rc2,jf na2 (zan (nmR rs) (nmC f) f.nodes).length nc2] 25);have hbn:=hb.trans (hn.mono hb.size);have HR2:=qaa (za2 (zab hR hn) HB1.out.size);have HN2:=qaa (NRow.grown (NRow.mono hN HB1.out.size) hn);have HY2:=qaa (qa0 w2 25 #[jf ra2 (zam rs).length rc2,jf na2 (zan (nmR rs) (nmC f) f.nodes).length nc2]);have HG2:=qaa (HG1.out.below hbn);have HB2:=qaa (HB1.out.trans (hbn.mono HB1.out.size));clear hR hN hb hn hbn c0 c1 c2 cl)
 obtain⟨W2,hW2⟩:∃W2,w2.alloc (.cells #[jf ra2 (zam rs).length rc2,jf na2 (zan (nmR rs) (nmC f) f.nodes).length nc2] 25)=W2:=⟨_,rfl⟩;rw[hW2] at HR2 HN2 HY2 HG2 HB2;obtain⟨Y,hY⟩:∃Y,w2.heap.size=Y:=⟨_,rfl⟩;rw[hY] at HY2;rw[hW2,hY];clear hW2 hY;have hlr:(zam rs).length<=maxLen:=by have:=HOK.out.rl;unfold zam maxLen;rw[qaw];omega
 have hln:(zan (nmR rs) (nmC f) f.nodes).length<=maxLen:=by have:=HOK.out.nl;rw[zc1];unfold maxLen;omega
 have HRI:=qaa (RulesIn.of_own HR2.out hlr);have HNI:=qaa (HN2.out.nodes hln (zhl HOK.out));have HSZ:=qaa (zhk HOK.out);have y0:=HY2.out.cell (o:=0) (u:=jf ra2 (zam rs).length rc2) rfl;have y1:=HY2.out.cell (o:=1) (u:=jf na2 (zan (nmR rs) (nmC f) f.nodes).length nc2) rfl;have yl:=HY2.out.lt;clear hlr hln;have HCK:=qaa (zoi _ _ _ _ _ HRI.out HNI.out HSZ.out);rw[HKO.out] at HCK;have HCK:Hid (Calls qab 35 #[.agg #[jf ra2 (zam rs).length rc2,jf na2 (zan (nmR rs) (nmC f) f.nodes).length nc2]] W2 fun e w'=>e=.returned .nilIface/\Below W2.heap.size W2 w'):=HCK
 go_wp2_with (go_at_call 35;(with_reducible refine HCK.out.mono ?_);rintro e w3 ⟨rfl,hb⟩;have HR3:=qaa (zab HR2.out hb);have HN3:=qaa (HN2.out.grown hb);have HY3:=qaa (HY2.out.below hb);have HG3:=qaa (HG2.out.below hb);have HB3:=qaa (HB2.out.trans (hb.mono HB2.out.size));clear hb y0 y1 yl;have y0:=HY3.out.cell (o:=0) (u:=jf ra2 (zam rs).length rc2) rfl;have y1:=HY3.out.cell (o:=1) (u:=jf na2 (zan (nmR rs) (nmC f) f.nodes).length nc2) rfl;have yl:=HY3.out.lt;have g0:=HG3.out.cell (o:=0) (u:=jf none 0 0) rfl;have g1:=HG3.out.cell (o:=1) (u:=jf none 0 0) rfl;have gf:=HG3.out.free;have gl:=HG3.out.lt)
 refine bodyPost_ret (v:=jk #[.agg #[jf ra2 (zam rs).length rc2,jf na2 (zan (nmR rs) (nmC f) f.nodes).length nc2],.nilIface]) (by simp[results,Tryz.results15,go_sem,g0,g1]) rfl ?_;exact⟨_,_,qs2,rfl,zfn HR3.out HG3.out ja,⟨HN3.out.1,zfn HN3.out.2.1 HG3.out ja,fun j n q x y=>zfn (HN3.out.2.2 j n q x y) HG3.out ja⟩,(HB3.out.setCell (p:=⟨w.heap.size,0,none⟩) (qac _) _).setCell (p:=⟨w.heap.size,1,none⟩) (qac _) _⟩
theorem z5m {c:Chk}{w':World}{e:Ending}(h:ChkIs c W e w')(hc:c≠.ok):∃er:Err,e=.returned er.val/\er.In w'/\er.codeOf=some (chkC c)/\(∀B,Bl w' B 25 #[jf none 0 0,jf none 0 0]->∀W',(∀b,b≠B->W'.heap[b]?=w'.heap[b]?)->er.In W')/\Below W.heap.size W w':=by
 have part:∀(p:ByteArray) (c i:Int),PartErr p c i W e w'->∃er:Err,e=.returned er.val/\er.In w'/\er.codeOf=some c/\(∀B,Bl w' B 25 #[jf none 0 0,jf none 0 0]->∀W',(∀b,b≠B->W'.heap[b]?=w'.heap[b]?)->er.In W')/\Below W.heap.size W w':=by
  rintro p c i ⟨⟨b,rfl,hE⟩,hb⟩;refine⟨.within b p (.fault c i),rfl,hE,rfl,fun B hB=>zfd hE ?_,hb⟩;rintro rfl;have h0:=hE.1;rw[hB.cell (o:=0) rfl] at h0;cases h0
 cases c with
 |ok=>exact absurd rfl hc
 |large=>exact⟨.code 4,h.1,trivial,rfl,fun _ _ _ _=>trivial,h.2⟩
 |order=>exact⟨.code 10,h.1,trivial,rfl,fun _ _ _ _=>trivial,h.2⟩
 |rules i=>exact part _ _ _ h
 |nodes i=>exact part _ _ _ h
 |deep i=>exact part _ _ _ h
theorem z5n (s:ByteArray)(w:World)(hl:SignsAt w)(hs:s.size<=1050000)(hO:zaz (bts s)=.ok rs f)(hd:dupO rs=none)(hu:undO (nmR rs) f=none)(hk:chkL (zam rs) (zan (nmR rs) (nmC f) f.nodes)≠.ok) :
  Calls qab 15 #[jh s] w (GErrC (chkC (chkL (zam rs) (zan (nmR rs) (nmC f) f.nodes))) w):=by
 have HP:=qaa fun(W:World) (hb:Below w.heap.size w W)=>(zax s W (hl.kept hb (qac _)) U).mono fun e w' h=>zb6 (by
  rw[zbj,hO] at h;exact h)
 have HOK:=qaa (zb9 hs hO);have HB0:=qaa (zaa w (.cells #[jf none 0 0,jf none 0 0] 25));have HG0:=qaa (qa0 w 25 #[jf none 0 0,jf none 0 0]);have HD:=qaa hd;have HU:=qaa hu;have HKO:=qaa hk;clear hO hl hs hd hu hk;go_enter Tryz.func15,Tryz.ntmps15
 go_upto_region 4 with(go_at_call 33;(with_reducible refine(HP.out _ HB0.out).mono ?_);rintro e w1 ⟨va,vc,na,nc,ca,cc,rfl,hF,hb⟩;have hn:=zaa w1 (.cells #[jf va rs.length vc,jf na f.nodes.length nc,jf ca f.calls.length cc] 46);have hbn:=hb.trans (hn.mono hb.size);have HF1:=qaa (hF.below hn).file;have HX1:=qaa (qa0 w1 46 #[jf va rs.length vc,jf na f.nodes.length nc,jf ca f.calls.length cc]);have HG1:=qaa (HG0.out.below hbn);have HB1:=qaa (HB0.out.trans (hbn.mono HB0.out.size));clear hF hb hn hbn)
 obtain⟨W1,hW1⟩:∃W1,w1.alloc (.cells #[jf va rs.length vc,jf na f.nodes.length nc,jf ca f.calls.length cc] 46)=W1:=⟨_,rfl⟩;rw[hW1] at HF1 HX1 HG1 HB1;obtain⟨F,hF⟩:∃F,w1.heap.size=F:=⟨_,rfl⟩;rw[hF] at HX1;rw[hW1,hF];clear hW1 hF;have c0:=HX1.out.cell (o:=0) (u:=jf va rs.length vc) rfl;have c1:=HX1.out.cell (o:=1) (u:=jf na f.nodes.length nc) rfl;have c2:=HX1.out.cell (o:=2) (u:=jf ca f.calls.length cc) rfl;have cl:=HX1.out.lt
 go_upto_region 7 with(go_at_call 34;(with_reducible refine(of_ok _ _ _ rs f _ HF1.out HOK.out HD.out HU.out).mono ?_);rintro e w2 ⟨rv2,nv2,qs2,rfl,hR,hN,hb⟩;obtain⟨ra2,rc2,rfl⟩:=zag hR;obtain⟨na2,nc2,rfl⟩:=zag hN.2.1;have hn:=zaa w2 (.cells #[jf ra2 (zam rs).length rc2,jf na2 (zan (nmR rs) (nmC f) f.nodes).length nc2] 25);have hbn:=hb.trans (hn.mono hb.size);have HR2:=qaa (za2 (zab hR hn) HB1.out.size);have HN2:=qaa (NRow.grown (NRow.mono hN HB1.out.size) hn);have HY2:=qaa (qa0 w2 25 #[jf ra2 (zam rs).length rc2,jf na2 (zan (nmR rs) (nmC f) f.nodes).length nc2]);have HG2:=qaa (HG1.out.below hbn);have HB2:=qaa (HB1.out.trans (hbn.mono HB1.out.size));clear hR hN hb hn hbn c0 c1 c2 cl)
 obtain⟨W2,hW2⟩:∃W2,w2.alloc (.cells #[jf ra2 (zam rs).length rc2,jf na2 (zan (nmR rs) (nmC f) f.nodes).length nc2] 25)=W2:=⟨_,rfl⟩;rw[hW2] at HR2 HN2 HY2 HG2 HB2;obtain⟨Y,hY⟩:∃Y,w2.heap.size=Y:=⟨_,rfl⟩;rw[hY] at HY2;rw[hW2,hY];clear hW2 hY;have hlr:(zam rs).length<=maxLen:=by have:=HOK.out.rl;unfold zam maxLen;rw[qaw];omega
 have hln:(zan (nmR rs) (nmC f) f.nodes).length<=maxLen:=by have:=HOK.out.nl;rw[zc1];unfold maxLen;omega
 have HRI:=qaa (RulesIn.of_own HR2.out hlr);have HNI:=qaa (HN2.out.nodes hln (zhl HOK.out));have HSZ:=qaa (zhk HOK.out);have y0:=HY2.out.cell (o:=0) (u:=jf ra2 (zam rs).length rc2) rfl;have y1:=HY2.out.cell (o:=1) (u:=jf na2 (zan (nmR rs) (nmC f) f.nodes).length nc2) rfl;have yl:=HY2.out.lt;clear hlr hln;have HCK:=qaa (zoi _ _ _ _ _ HRI.out HNI.out HSZ.out)
 go_upto_region 8 with(go_at_call 35;(with_reducible refine HCK.out.mono ?_);intro e w3 hck;obtain⟨er,rfl,hE,hco,hst,hb⟩:=z5m hck HKO.out;obtain⟨ty,iv,hev⟩:=er.val_ne;rw[hev];have HE3:=qaa hE;have HCO:=qaa hco;have HEV:=qaa hev;have HG3:=qaa (HG2.out.below hb);have HST:=qaa (hst _ HG3.out);have HB3:=qaa (HB2.out.trans (hb.mono HB2.out.size));clear hck hE hco hst hev hb y0 y1 yl;have g0:=HG3.out.cell (o:=0) (u:=jf none 0 0) rfl;have g1:=HG3.out.cell (o:=1) (u:=jf none 0 0) rfl;have gf:=HG3.out.free;have gl:=HG3.out.lt)
 go_wp2;refine bodyPost_ret (v:=jk #[.agg #[jf none 0 0,jf none 0 0],.iface ty iv]) (by simp[results,Tryz.results15,go_sem,g0,g1]) rfl ?_;refine⟨er,?_,HCO.out⟩;have h:=GErr.put (er:=er) HB3.out (qac _) HST.out;rw[HEV.out] at h;exact⟨by rw[HEV.out],h.2.1,h.2.2⟩
end
