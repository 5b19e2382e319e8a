/- resolve.Grammar. Written by wip/gen/resgrm.py. -/
import Derived.Test.YtmopdlbpkiaoeaaGreatDoorPkRG
import Derived.Test.YtmopdlbpkiaoeaaGreatDoorPkSynLawC
import Derived.Test.YtmopdlbpkiaoeaaGreatDoorPkGramChk
set_option maxRecDepth 100000
set_option maxHeartbeats 8000000
namespace Go.Proofs.YtmopdlbpkiaoeaaGreatDoor
section
open Go.RowKit
theorem GotF.file {W:World}{va:Option Addr}{vc:Nat}{na:Option Addr}{nc:Nat}{ca:Option Addr}{cc:Nat}{rs:List (List Nat × Nat × Int)}{f:MF}(h:GotF W va vc na nc ca cc rs f):FileIn W (.slice va rs.length vc) (.slice na f.nodes.length nc) (.slice ca f.calls.length cc) rs f:=h
def GErr (er:Err)(w:World)(e:Ending)(w':World):Prop:=e=.returned (.tuple #[.agg #[.slice none 0 0,.slice none 0 0],er.val])/\er.In w'/\Below w.heap.size w w'
def GErrC (c:Int)(w:World)(e:Ending)(w':World):Prop:=∃er:Err,GErr er w e w'/\er.codeOf=some c
theorem GErr.put {er:Err}{w W:World}{B:Nat}(hb:Below w.heap.size w W)(hB:w.heap.size<=B)(hE:∀W',(∀b,b≠B->W'.heap[b]?=W.heap[b]?)->er.In W'):GErr er w (.returned (.tuple #[.agg #[.slice none 0 0,.slice none 0 0],er.val])) ((W.setCell ⟨B,0,none⟩ (.slice none 0 0)).setCell ⟨B,1,none⟩ (.slice none 0 0)):=
 ⟨rfl,hE _ (fun b h=>by rw[heap_setCell_other _ _ _ _ h,heap_setCell_other _ _ _ _ h]),(hb.setCell (p:=⟨B,0,none⟩) hB _).setCell (p:=⟨B,1,none⟩) hB _⟩
theorem z5j (s:ByteArray)(w:World)(hl:SignsAt w)(hs:s.size<=1050000){a:List Tok}{dp:Bool}(hO:zaz (bts s)=.bad a dp) :
  Calls Tryz.prog 15 #[.string s] w (GErr (.fault (erC dp) (pos a:Int)) w):=by
 have HP:=Lib.hid fun(W:World) (hb:Below w.heap.size w W)=>(zax s W (hl.kept hb (Nat.le_refl _)) (by omega)).mono fun e w' h=>zc8 (by
  rw[zbj,hO] at h;exact h)
 have HB0:=Lib.hid (zaa w (.cells #[.slice none 0 0,.slice none 0 0] 25));have HG0:=Lib.hid (Bl.new w 25 #[.slice none 0 0,.slice none 0 0]);obtain⟨c,hc⟩:∃c,erC dp=c:=⟨_,rfl⟩;rw[hc] at HP;rw[hc];clear hO hl hs hc;go_enter Tryz.func15,Tryz.ntmps15
 go_upto_region 2 with(go_at_call 33;(with_reducible refine(HP.out _ HB0.out).mono ?_);rintro e w1 ⟨rfl,hb⟩;have hn:=zaa w1 (.cells #[.slice none 0 0,.slice none 0 0,.slice none 0 0] 46);have hbn:=hb.trans (hn.mono hb.size);have HG1:=Lib.hid (HG0.out.below hbn);have HB1:=Lib.hid (HB0.out.trans (hbn.mono HB0.out.size));clear hb hn hbn)
 obtain⟨W1,hW1⟩:∃W1,w1.alloc (.cells #[.slice none 0 0,.slice none 0 0,.slice none 0 0] 46)=W1:=⟨_,rfl⟩;rw[hW1] at HG1 HB1;rw[hW1];clear hW1;have g0:=HG1.out.cell (o:=0) (u:=.slice none 0 0) rfl;have g1:=HG1.out.cell (o:=1) (u:=.slice none 0 0) rfl;have gf:=HG1.out.free;have gl:=HG1.out.lt;go_wp2;refine bodyPost_ret (v:=.tuple #[.agg #[.slice none 0 0,.slice none 0 0],.iface 160 (.agg #[.int .i64 c,.int .i64 (pos a:Int)])]) (by simp[results,Tryz.results15,go_sem,g0,g1]) rfl ?_;exact GErr.put (er:=.fault c (pos a:Int)) HB1.out (Nat.le_refl _) (fun _ _=>trivial)
theorem NRow.mono {base base':Nat}{v:Value}{ns:List PN}{qs:List Value}{w:World}(h:NRow base v ns qs w)(hb:base'<=base):NRow base' v ns qs w:=⟨h.1,za2 h.2.1 hb,fun j n q x y=>za2 (h.2.2 j n q x y) hb⟩
theorem zhk {rs:List (List Nat × Nat × Int)}{f:MF}(h:FileOk rs f):∀r,r ∈ zam rs->r.name.size<=2000000:=fun r hr=>by
 obtain⟨x,hx,rfl⟩:=List.mem_map.1 hr;show(strOf x.1).size<=_;rw[zb0];exact h.rn x hx
theorem zhl {rs:List (List Nat × Nat × Int)}{f:MF}(h:FileOk rs f):∀n,n ∈ zan (nmR rs) (nmC f) f.nodes->n.kids.length<=maxLen:=fun n hn=>by
 obtain⟨x,hx,rfl⟩:=List.mem_map.1 hn;rw[zk8];have:=h.kl x hx;unfold maxLen;omega
theorem zxz (s:ByteArray)(w:World)(hl:SignsAt w)(hs:s.size<=1050000){rs:List (List Nat × Nat × Int)}{f:MF}(hO:zaz (bts s)=.ok rs f)(hd:dupO rs=none)(hu:undO (nmR rs) f=none)(hk:chkL (zam rs) (zan (nmR rs) (nmC f) f.nodes)=.ok) :
  Calls Tryz.prog 15 #[.string s] w (GramOk (zam rs) (zan (nmR rs) (nmC f) f.nodes) w):=by
 have HP:=Lib.hid fun(W:World) (hb:Below w.heap.size w W)=>(zax s W (hl.kept hb (Nat.le_refl _)) (by omega)).mono fun e w' h=>zb6 (by
  rw[zbj,hO] at h;exact h)
 have HOK:=Lib.hid (zb9 hs hO);have HB0:=Lib.hid (zaa w (.cells #[.slice none 0 0,.slice none 0 0] 25));have HG0:=Lib.hid (Bl.new w 25 #[.slice none 0 0,.slice none 0 0]);have HD:=Lib.hid hd;have HU:=Lib.hid hu;have HKO:=Lib.hid hk;clear hO hl hs hd hu hk;go_enter Tryz.func15,Tryz.ntmps15
 go_upto_region 4 with(go_at_call 33;(with_reducible refine(HP.out _ HB0.out).mono ?_);rintro e w1 ⟨va,vc,na,nc,ca,cc,rfl,hF,hb⟩;have hn:=zaa w1 (.cells #[.slice va rs.length vc,.slice na f.nodes.length nc,.slice ca f.calls.length cc] 46);have hbn:=hb.trans (hn.mono hb.size);have HF1:=Lib.hid (hF.below hn).file;have HX1:=Lib.hid (Bl.new w1 46 #[.slice va rs.length vc,.slice na f.nodes.length nc,.slice ca f.calls.length cc]);have HG1:=Lib.hid (HG0.out.below hbn);have HB1:=Lib.hid (HB0.out.trans (hbn.mono HB0.out.size));clear hF hb hn hbn)
 obtain⟨W1,hW1⟩:∃W1,w1.alloc (.cells #[.slice va rs.length vc,.slice na f.nodes.length nc,.slice ca f.calls.length cc] 46)=W1:=⟨_,rfl⟩;rw[hW1] at HF1 HX1 HG1 HB1;obtain⟨F,hF⟩:∃F,w1.heap.size=F:=⟨_,rfl⟩;rw[hF] at HX1;rw[hW1,hF];clear hW1 hF;have c0:=HX1.out.cell (o:=0) (u:=.slice va rs.length vc) rfl;have c1:=HX1.out.cell (o:=1) (u:=.slice na f.nodes.length nc) rfl;have c2:=HX1.out.cell (o:=2) (u:=.slice ca f.calls.length cc) rfl;have cl:=HX1.out.lt
 go_upto_region 7 with(go_at_call 34;(with_reducible refine(of_ok _ _ _ rs f _ HF1.out HOK.out HD.out HU.out).mono ?_);rintro e w2 ⟨rv2,nv2,qs2,rfl,hR,hN,hb⟩;obtain⟨ra2,rc2,rfl⟩:=zag hR;obtain⟨na2,nc2,rfl⟩:=zag hN.2.1;have hn:=zaa w2 (.cells #[.slice ra2 (zam rs).length rc2,.slice na2 (zan (nmR rs) (nmC f) f.nodes).length nc2] 25);have hbn:=hb.trans (hn.mono hb.size);have HR2:=Lib.hid (za2 (zab hR hn) HB1.out.size);have HN2:=Lib.hid (NRow.grown (NRow.mono hN HB1.out.size) hn);have HY2:=Lib.hid (Bl.new w2 25 #[.slice ra2 (zam rs).length rc2,.slice na2 (zan (nmR rs) (nmC f) f.nodes).length nc2]);have HG2:=Lib.hid (HG1.out.below hbn);have HB2:=Lib.hid (HB1.out.trans (hbn.mono HB1.out.size));clear hR hN hb hn hbn c0 c1 c2 cl)
 obtain⟨W2,hW2⟩:∃W2,w2.alloc (.cells #[.slice ra2 (zam rs).length rc2,.slice na2 (zan (nmR rs) (nmC f) f.nodes).length nc2] 25)=W2:=⟨_,rfl⟩;rw[hW2] at HR2 HN2 HY2 HG2 HB2;obtain⟨Y,hY⟩:∃Y,w2.heap.size=Y:=⟨_,rfl⟩;rw[hY] at HY2;rw[hW2,hY];clear hW2 hY;have hlr:(zam rs).length<=maxLen:=by have:=HOK.out.rl;unfold zam maxLen;rw[List.length_map];omega
 have hln:(zan (nmR rs) (nmC f) f.nodes).length<=maxLen:=by have:=HOK.out.nl;rw[zc1];unfold maxLen;omega
 have HRI:=Lib.hid (RulesIn.of_own HR2.out hlr);have HNI:=Lib.hid (HN2.out.nodes hln (zhl HOK.out));have HSZ:=Lib.hid (zhk HOK.out);have y0:=HY2.out.cell (o:=0) (u:=.slice ra2 (zam rs).length rc2) rfl;have y1:=HY2.out.cell (o:=1) (u:=.slice na2 (zan (nmR rs) (nmC f) f.nodes).length nc2) rfl;have yl:=HY2.out.lt;clear hlr hln;have HCK:=Lib.hid (zoi _ _ _ _ _ HRI.out HNI.out HSZ.out);rw[HKO.out] at HCK;have HCK:Hid (Calls Tryz.prog 35 #[.agg #[.slice ra2 (zam rs).length rc2,.slice na2 (zan (nmR rs) (nmC f) f.nodes).length nc2]] W2 fun e w'=>e=.returned .nilIface/\Below W2.heap.size W2 w'):=HCK
 go_wp2_with (go_at_call 35;(with_reducible refine HCK.out.mono ?_);rintro e w3 ⟨rfl,hb⟩;have HR3:=Lib.hid (zab HR2.out hb);have HN3:=Lib.hid (HN2.out.grown hb);have HY3:=Lib.hid (HY2.out.below hb);have HG3:=Lib.hid (HG2.out.below hb);have HB3:=Lib.hid (HB2.out.trans (hb.mono HB2.out.size));clear hb y0 y1 yl;have y0:=HY3.out.cell (o:=0) (u:=.slice ra2 (zam rs).length rc2) rfl;have y1:=HY3.out.cell (o:=1) (u:=.slice na2 (zan (nmR rs) (nmC f) f.nodes).length nc2) rfl;have yl:=HY3.out.lt;have g0:=HG3.out.cell (o:=0) (u:=.slice none 0 0) rfl;have g1:=HG3.out.cell (o:=1) (u:=.slice none 0 0) rfl;have gf:=HG3.out.free;have gl:=HG3.out.lt)
 refine bodyPost_ret (v:=.tuple #[.agg #[.slice ra2 (zam rs).length rc2,.slice na2 (zan (nmR rs) (nmC f) f.nodes).length nc2],.nilIface]) (by simp[results,Tryz.results15,go_sem,g0,g1]) rfl ?_;exact⟨_,_,qs2,rfl,zfn HR3.out HG3.out (by decide),⟨HN3.out.1,zfn HN3.out.2.1 HG3.out (by decide),fun j n q x y=>zfn (HN3.out.2.2 j n q x y) HG3.out (by decide)⟩,(HB3.out.setCell (p:=⟨w.heap.size,0,none⟩) (Nat.le_refl _) _).setCell (p:=⟨w.heap.size,1,none⟩) (Nat.le_refl _) _⟩
end
end Go.Proofs.YtmopdlbpkiaoeaaGreatDoor
