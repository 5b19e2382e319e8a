/- The reference's Grammar. Written by wip/gen/resrgrm.py. Both Grammars answer with an error of the same code, or with the same grammar. -/
import Derived.Test.YtmopdlbpkiaoeaaGreatDoorPqGC
set_option maxRecDepth 100000
set_option maxHeartbeats 8000000
open Go.IntKind renaming i64->jd
open Go.Value renaming int->je, slice->jf, string->jh, tuple->jk
namespace Go.Proofs.YtmopdlbpkiaoeaaGreatDoor
open Go.Lib renaming hid->qaa
open Go.Proofs.Tryz renaming func49->qf5, ntmps49->qf0, prog->qab, results49->qfl
open Go.Proofs.YtmopdlbpkiaoeaaGreatDoor.Bl renaming new->qa0
open Nat renaming le_refl->qac
open Option.some renaming inj->qar
variable {rs:List (List Nat × Nat × Int)}{f:MF}{B b:Nat}{v:Value}
section
open Go.RowKit
theorem z3c (c:Chk):(chkT c).2.1=chkC c:=by cases c<;>rfl
def RErr (c:Int)(w:World)(e:Ending)(w':World):Prop:=e=.returned (jk #[.agg #[jf none 0 0,jf none 0 0],je jd c])/\Below w.heap.size w w'
def zml (rs:List PR)(ns:List PN)(w:World)(e:Ending)(w':World):Prop:=∃ra rc na nc,e=.returned (jk #[.agg #[jf ra rs.length rc,jf na ns.length nc],je jd 0])/\RulesIn w' (jf ra rs.length rc) rs/\NodesAt w' (jf na ns.length nc) ns/\Below w.heap.size w w'
theorem zqi {W:World}(hB:Bl W B 25 #[jf none 0 0,jf none 0 0]){o:Nat}(h:W.cell? ⟨b,o,none⟩=some v)(hv:∀a n c,v≠jf a n c):b≠B:=by
 rintro rfl
 match o,h with
 |0,h=>
  rw[hB.cell (o:=0) rfl] at h;exact hv _ _ _ (qar h).symm
 |1,h=>
  rw[hB.cell (o:=1) rfl] at h;exact hv _ _ _ (qar h).symm
 |o+2,h=>
  unfold Bl at hB;unfold World.cell? at h;rw[hB] at h;simp at h
section
variable {W W':World} {B:Nat}
theorem zc4 (hW:∀b,b≠B->W'.heap[b]?=W.heap[b]?){b o:Nat}(h:W.cell? ⟨b,o,none⟩=some v)(hb:b≠B):W'.cell? ⟨b,o,none⟩=some v:=by
 unfold World.cell? at h ⊢;rw[hW b hb];exact h
theorem RulesIn.off {rs:List PR}(h:RulesIn W v rs)(hB:Bl W B 25 #[jf none 0 0,jf none 0 0])(hW:∀b,b≠B->W'.heap[b]?=W.heap[b]?):RulesIn W' v rs:=by
 obtain⟨h0,a,c,rfl,h1⟩:=h;refine⟨h0,a,c,rfl,?_⟩;rcases h1 with h1|⟨b,off,rfl,h1⟩
 ·exact .inl h1
 ·refine .inr ⟨b,off,rfl,fun i r hi=>?_⟩
  obtain⟨x0,x1⟩:=h1 i r hi;have hb:=zqi hB x0 (fun _ _ _ e=>by cases e);exact⟨zc4 hW x0 hb,zc4 hW x1 hb⟩
theorem IntsAt.off {l:List Int}(h:IntsAt W v l)(hB:Bl W B 25 #[jf none 0 0,jf none 0 0])(hW:∀b,b≠B->W'.heap[b]?=W.heap[b]?):IntsAt W' v l:=by
 obtain⟨a,c,rfl,h1⟩:=h;refine⟨a,c,rfl,?_⟩;rcases h1 with h1|⟨b,off,rfl,h1⟩
 ·exact .inl h1
 ·refine .inr ⟨b,off,rfl,fun i x hi=>?_⟩
  have x0:=h1 i x hi;exact zc4 hW x0 (zqi hB x0 (fun _ _ _ e=>by cases e))
theorem NodesAt.off {ns:List PN}(h:NodesAt W v ns)(hB:Bl W B 25 #[jf none 0 0,jf none 0 0])(hW:∀b,b≠B->W'.heap[b]?=W.heap[b]?):NodesAt W' v ns:=by
 obtain⟨h0,a,c,rfl,h1⟩:=h;refine⟨h0,a,c,rfl,?_⟩;rcases h1 with h1|⟨b,off,rfl,h1⟩
 ·exact .inl h1
 ·refine .inr ⟨b,off,rfl,fun i n hi=>?_⟩
  obtain⟨kv,x0,x1,x2,x3,x4,x5,x6,xi,xl⟩:=h1 i n hi;have hb:=zqi hB x0 (fun _ _ _ e=>by cases e);exact⟨kv,zc4 hW x0 hb,zc4 hW x1 hb,zc4 hW x2 hb,zc4 hW x3 hb,zc4 hW x4 hb,zc4 hW x5 hb,zc4 hW x6 hb,xi.off hB hW,xl⟩
end
theorem zou (W:World)(hb:b≠B)(x0 x1:Value):((W.setCell ⟨B,0,none⟩ x0).setCell ⟨B,1,none⟩ x1).heap[b]?=W.heap[b]?:=by
 rw[heap_setCell_other _ _ _ _ hb,heap_setCell_other _ _ _ _ hb]
theorem zeg {n:Nat}{w W:World}(h:Below n w W)(hB:n<=B)(x0 x1:Value):Below n w ((W.setCell ⟨B,0,none⟩ x0).setCell ⟨B,1,none⟩ x1):=(h.setCell (p:=⟨B,0,none⟩) hB x0).setCell (p:=⟨B,1,none⟩) hB x1
theorem z5z (s:ByteArray)(w:World)(hs:s.size<=1050000){a:List Tok}{dp:Bool}(hO:zaz (bts s)=.bad a dp):Calls qab 49 #[jh s] w (RErr (erC dp) w):=by
 have HB0:=qaa (zaa w (.cells #[jf none 0 0,jf none 0 0] 25));have HG0:=qaa (qa0 w 25 #[jf none 0 0,jf none 0 0]);have HQ:=qaa ((za1 s (w.alloc (.cells #[jf none 0 0,jf none 0 0] 25)) U).mono fun e w' h=>zdy (by
  rw[hO] at h;exact h))
 have ek:(erC dp != 0)=true:=by cases dp<;>rfl
 obtain⟨c,hc⟩:∃c,erC dp=c:=⟨_,rfl⟩;rw[hc] at HQ ek;rw[hc];clear hO hs hc;go_enter qf5,qf0
 go_upto_region 2 with(go_at_call 77;(with_reducible refine HQ.out.mono ?_);rintro e w1 ⟨rfl,hb⟩;have hn:=zaa w1 (.cells #[jf none 0 0,jf none 0 0,jf none 0 0] 133);have hbn:=hb.trans (hn.mono hb.size);have HG1:=qaa (HG0.out.below hbn);have HB1:=qaa (HB0.out.trans (hbn.mono HB0.out.size));clear hb hn hbn)
 obtain⟨W1,hW1⟩:∃W1,w1.alloc (.cells #[jf none 0 0,jf none 0 0,jf none 0 0] 133)=W1:=⟨_,rfl⟩;rw[hW1] at HG1 HB1;rw[hW1];clear hW1;have g0:=HG1.out.cell (o:=0) (u:=jf none 0 0) rfl;have g1:=HG1.out.cell (o:=1) (u:=jf none 0 0) rfl;have gf:=HG1.out.free;have gl:=HG1.out.lt;go_wp2;refine bodyPost_ret (v:=jk #[.agg #[jf none 0 0,jf none 0 0],je jd c]) (by simp[results,qfl,go_sem,g0,g1]) rfl ?_;exact⟨rfl,zeg HB1.out (qac _) _ _⟩
theorem z50 (s:ByteArray)(w:World)(hs:s.size<=1050000)(hO:zaz (bts s)=.ok rs f)(x:List Nat × Nat)(hd:dupO rs=some x):Calls qab 49 #[jh s] w (RErr 2 w):=by
 have HB0:=qaa (zaa w (.cells #[jf none 0 0,jf none 0 0] 25));have HG0:=qaa (qa0 w 25 #[jf none 0 0,jf none 0 0]);have HQ:=qaa ((za1 s (w.alloc (.cells #[jf none 0 0,jf none 0 0] 25)) U).mono fun e w' h=>zc2 (by
  rw[hO] at h;exact h))
 have HOK:=qaa (zb9 hs hO);have HD:=qaa hd;clear hO hs hd;go_enter qf5,qf0
 go_upto_region 4 with(go_at_call 77;(with_reducible refine HQ.out.mono ?_);rintro e w1 ⟨va,vc,na,nc,ca,cc,rfl,hF,hb⟩;have hn:=zaa w1 (.cells #[jf va rs.length vc,jf na f.nodes.length nc,jf ca f.calls.length cc] 133);have hbn:=hb.trans (hn.mono hb.size);have HF1:=qaa (hF.below hn).file;have HX1:=qaa (qa0 w1 133 #[jf va rs.length vc,jf na f.nodes.length nc,jf ca f.calls.length cc]);have HG1:=qaa (HG0.out.below hbn);have HB1:=qaa (HB0.out.trans (hbn.mono HB0.out.size));clear hF hb hn hbn)
 obtain⟨W1,hW1⟩:∃W1,w1.alloc (.cells #[jf va rs.length vc,jf na f.nodes.length nc,jf ca f.calls.length cc] 133)=W1:=⟨_,rfl⟩;rw[hW1] at HF1 HX1 HG1 HB1;obtain⟨F,hF⟩:∃F,w1.heap.size=F:=⟨_,rfl⟩;rw[hF] at HX1;rw[hW1,hF];clear hW1 hF;have c0:=HX1.out.cell (o:=0) (u:=jf va rs.length vc) rfl;have c1:=HX1.out.cell (o:=1) (u:=jf na f.nodes.length nc) rfl;have c2:=HX1.out.cell (o:=2) (u:=jf ca f.calls.length cc) rfl;have cl:=HX1.out.lt
 go_upto_region 5 with(go_at_call 78;(with_reducible refine(zeu _ _ _ rs f _ HF1.out HOK.out).mono ?_);intro e w2 hr;obtain⟨he,hb⟩:=zx8 HD.out hr;subst he;clear hr;have hn:=zaa w2 (.cells #[jf none 0 0,jf none 0 0,jh (strOf x.1),je jd 2,je jd (x.2:Int)] 137);have hbn:=hb.trans (hn.mono hb.size);have HZ2:=qaa (qa0 w2 137 #[jf none 0 0,jf none 0 0,jh (strOf x.1),je jd 2,je jd (x.2:Int)]);have HG2:=qaa (HG1.out.below hbn);have HB2:=qaa (HB1.out.trans (hbn.mono HB1.out.size));clear hb hn hbn c0 c1 c2 cl)
 obtain⟨W2,hW2⟩:∃W2,w2.alloc (.cells #[jf none 0 0,jf none 0 0,jh (strOf x.1),je jd 2,je jd (x.2:Int)] 137)=W2:=⟨_,rfl⟩;obtain⟨Z,hZ⟩:∃Z,w2.heap.size=Z:=⟨_,rfl⟩;rw[hW2] at HZ2 HG2 HB2;rw[hZ] at HZ2;rw[hW2,hZ];clear hW2 hZ;have z2:=HZ2.out.cell (o:=3) (u:=je jd 2) rfl;have zl:=HZ2.out.lt;have g0:=HG2.out.cell (o:=0) (u:=jf none 0 0) rfl;have g1:=HG2.out.cell (o:=1) (u:=jf none 0 0) rfl;have gf:=HG2.out.free;have gl:=HG2.out.lt
 go_upto_region 6 with fail
 go_region
 all_goals
  go_wp2;refine bodyPost_ret (v:=jk #[.agg #[jf none 0 0,jf none 0 0],je jd 2]) (by simp[results,qfl,go_sem,g0,g1]) rfl ?_;exact⟨rfl,zeg (Below.drew HB2.out) (qac _) _ _⟩
theorem z51 (s:ByteArray)(w:World)(hs:s.size<=1050000)(hO:zaz (bts s)=.ok rs f)(x:List Nat × Nat)(hd:dupO rs=none)(hu:undO (nmR rs) f=some x):Calls qab 49 #[jh s] w (RErr 3 w):=by
 have HB0:=qaa (zaa w (.cells #[jf none 0 0,jf none 0 0] 25));have HG0:=qaa (qa0 w 25 #[jf none 0 0,jf none 0 0]);have HQ:=qaa ((za1 s (w.alloc (.cells #[jf none 0 0,jf none 0 0] 25)) U).mono fun e w' h=>zc2 (by
  rw[hO] at h;exact h))
 have HOK:=qaa (zb9 hs hO);have HD:=qaa hd;have HU:=qaa hu;clear hO hs hd hu;go_enter qf5,qf0
 go_upto_region 4 with(go_at_call 77;(with_reducible refine HQ.out.mono ?_);rintro e w1 ⟨va,vc,na,nc,ca,cc,rfl,hF,hb⟩;have hn:=zaa w1 (.cells #[jf va rs.length vc,jf na f.nodes.length nc,jf ca f.calls.length cc] 133);have hbn:=hb.trans (hn.mono hb.size);have HF1:=qaa (hF.below hn).file;have HX1:=qaa (qa0 w1 133 #[jf va rs.length vc,jf na f.nodes.length nc,jf ca f.calls.length cc]);have HG1:=qaa (HG0.out.below hbn);have HB1:=qaa (HB0.out.trans (hbn.mono HB0.out.size));clear hF hb hn hbn)
 obtain⟨W1,hW1⟩:∃W1,w1.alloc (.cells #[jf va rs.length vc,jf na f.nodes.length nc,jf ca f.calls.length cc] 133)=W1:=⟨_,rfl⟩;rw[hW1] at HF1 HX1 HG1 HB1;obtain⟨F,hF⟩:∃F,w1.heap.size=F:=⟨_,rfl⟩;rw[hF] at HX1;rw[hW1,hF];clear hW1 hF;have c0:=HX1.out.cell (o:=0) (u:=jf va rs.length vc) rfl;have c1:=HX1.out.cell (o:=1) (u:=jf na f.nodes.length nc) rfl;have c2:=HX1.out.cell (o:=2) (u:=jf ca f.calls.length cc) rfl;have cl:=HX1.out.lt
 go_upto_region 5 with(go_at_call 78;(with_reducible refine(zeu _ _ _ rs f _ HF1.out HOK.out).mono ?_);intro e w2 hr;obtain⟨he,hb⟩:=zx9 HD.out HU.out hr;subst he;clear hr;have hn:=zaa w2 (.cells #[jf none 0 0,jf none 0 0,jh (strOf x.1),je jd 3,je jd (x.2:Int)] 137);have hbn:=hb.trans (hn.mono hb.size);have HZ2:=qaa (qa0 w2 137 #[jf none 0 0,jf none 0 0,jh (strOf x.1),je jd 3,je jd (x.2:Int)]);have HG2:=qaa (HG1.out.below hbn);have HB2:=qaa (HB1.out.trans (hbn.mono HB1.out.size));clear hb hn hbn c0 c1 c2 cl)
 obtain⟨W2,hW2⟩:∃W2,w2.alloc (.cells #[jf none 0 0,jf none 0 0,jh (strOf x.1),je jd 3,je jd (x.2:Int)] 137)=W2:=⟨_,rfl⟩;obtain⟨Z,hZ⟩:∃Z,w2.heap.size=Z:=⟨_,rfl⟩;rw[hW2] at HZ2 HG2 HB2;rw[hZ] at HZ2;rw[hW2,hZ];clear hW2 hZ;have z2:=HZ2.out.cell (o:=3) (u:=je jd 3) rfl;have zl:=HZ2.out.lt;have g0:=HG2.out.cell (o:=0) (u:=jf none 0 0) rfl;have g1:=HG2.out.cell (o:=1) (u:=jf none 0 0) rfl;have gf:=HG2.out.free;have gl:=HG2.out.lt
 go_upto_region 6 with fail
 go_region
 all_goals
  go_wp2;refine bodyPost_ret (v:=jk #[.agg #[jf none 0 0,jf none 0 0],je jd 3]) (by simp[results,qfl,go_sem,g0,g1]) rfl ?_;exact⟨rfl,zeg (Below.drew HB2.out) (qac _) _ _⟩
theorem z52 (s:ByteArray)(w:World)(hs:s.size<=1050000)(hO:zaz (bts s)=.ok rs f)(hd:dupO rs=none)(hu:undO (nmR rs) f=none)(hk:chkC (chkL (zam rs) (zan (nmR rs) (nmC f) f.nodes))≠0):Calls qab 49 #[jh s] w (RErr (chkC (chkL (zam rs) (zan (nmR rs) (nmC f) f.nodes))) w):=by
 have HB0:=qaa (zaa w (.cells #[jf none 0 0,jf none 0 0] 25));have HG0:=qaa (qa0 w 25 #[jf none 0 0,jf none 0 0]);have HQ:=qaa ((za1 s (w.alloc (.cells #[jf none 0 0,jf none 0 0] 25)) U).mono fun e w' h=>zc2 (by
  rw[hO] at h;exact h))
 have HOK:=qaa (zb9 hs hO);have HD:=qaa hd;have HU:=qaa hu;have hk2:=zah hk;clear hO hs hd hu hk;go_enter qf5,qf0
 go_upto_region 4 with(go_at_call 77;(with_reducible refine HQ.out.mono ?_);rintro e w1 ⟨va,vc,na,nc,ca,cc,rfl,hF,hb⟩;have hn:=zaa w1 (.cells #[jf va rs.length vc,jf na f.nodes.length nc,jf ca f.calls.length cc] 133);have hbn:=hb.trans (hn.mono hb.size);have HF1:=qaa (hF.below hn).file;have HX1:=qaa (qa0 w1 133 #[jf va rs.length vc,jf na f.nodes.length nc,jf ca f.calls.length cc]);have HG1:=qaa (HG0.out.below hbn);have HB1:=qaa (HB0.out.trans (hbn.mono HB0.out.size));clear hF hb hn hbn)
 obtain⟨W1,hW1⟩:∃W1,w1.alloc (.cells #[jf va rs.length vc,jf na f.nodes.length nc,jf ca f.calls.length cc] 133)=W1:=⟨_,rfl⟩;rw[hW1] at HF1 HX1 HG1 HB1;obtain⟨F,hF⟩:∃F,w1.heap.size=F:=⟨_,rfl⟩;rw[hF] at HX1;rw[hW1,hF];clear hW1 hF;have c0:=HX1.out.cell (o:=0) (u:=jf va rs.length vc) rfl;have c1:=HX1.out.cell (o:=1) (u:=jf na f.nodes.length nc) rfl;have c2:=HX1.out.cell (o:=2) (u:=jf ca f.calls.length cc) rfl;have cl:=HX1.out.lt
 go_upto_region 5 with(go_at_call 78;(with_reducible refine(zeu _ _ _ rs f _ HF1.out HOK.out).mono ?_);intro e w2 hr;obtain⟨ra2,rc2,na2,nc2,he,hR,hN,hb⟩:=zya HD.out HU.out hr;subst he;clear hr;have hn:=zaa w2 (.cells #[jf ra2 (zam rs).length rc2,jf na2 (zan (nmR rs) (nmC f) f.nodes).length nc2,jh ⟨#[]⟩,je jd 0,je jd 0] 137);have hbn:=hb.trans (hn.mono hb.size);have HR2:=qaa (hR.kept hn (qac _));have HN2:=qaa (hN.kept hn (qac _));have HZ2:=qaa (qa0 w2 137 #[jf ra2 (zam rs).length rc2,jf na2 (zan (nmR rs) (nmC f) f.nodes).length nc2,jh ⟨#[]⟩,je jd 0,je jd 0]);have HG2:=qaa (HG1.out.below hbn);have HB2:=qaa (HB1.out.trans (hbn.mono HB1.out.size));clear hR hN hb hn hbn c0 c1 c2 cl)
 obtain⟨W2,hW2⟩:∃W2,w2.alloc (.cells #[jf ra2 (zam rs).length rc2,jf na2 (zan (nmR rs) (nmC f) f.nodes).length nc2,jh ⟨#[]⟩,je jd 0,je jd 0] 137)=W2:=⟨_,rfl⟩;obtain⟨Z,hZ⟩:∃Z,w2.heap.size=Z:=⟨_,rfl⟩;rw[hW2] at HR2 HN2 HZ2 HG2 HB2;rw[hZ] at HZ2;rw[hW2,hZ];clear hW2 hZ;have z0:=HZ2.out.cell (o:=0) (u:=jf ra2 (zam rs).length rc2) rfl;have z1:=HZ2.out.cell (o:=1) (u:=jf na2 (zan (nmR rs) (nmC f) f.nodes).length nc2) rfl;have z3:=HZ2.out.cell (o:=3) (u:=je jd 0) rfl;have zl:=HZ2.out.lt;have hck:=zho _ _ _ _ W2 HR2.out HN2.out (zhk HOK.out);unfold RChkIs at hck;rw[z3c] at hck;have HCK:=qaa hck;clear hck;obtain⟨t1,ht1⟩:∃t,(chkT (chkL (zam rs) (zan (nmR rs) (nmC f) f.nodes))).1=t:=⟨_,rfl⟩;obtain⟨t2,ht2⟩:∃t,(chkT (chkL (zam rs) (zan (nmR rs) (nmC f) f.nodes))).2.2=t:=⟨_,rfl⟩;obtain⟨c,hcc⟩:∃c,chkC (chkL (zam rs) (zan (nmR rs) (nmC f) f.nodes))=c:=⟨_,rfl⟩;rw[ht1,ht2,hcc] at HCK;rw[hcc] at hk2;have HCC:=qaa hcc;clear ht1 ht2 hcc
 go_wp2_with (go_at_call 51;(with_reducible refine HCK.out.mono ?_);rintro e w3 ⟨rfl,hb⟩;have HG3:=qaa (HG2.out.below hb);have HB3:=qaa (HB2.out.trans (hb.mono HB2.out.size));clear hb z0 z1 z3 zl;have g0:=HG3.out.cell (o:=0) (u:=jf none 0 0) rfl;have g1:=HG3.out.cell (o:=1) (u:=jf none 0 0) rfl;have gf:=HG3.out.free;have gl:=HG3.out.lt)
 refine bodyPost_ret (v:=jk #[.agg #[jf none 0 0,jf none 0 0],je jd c]) (by simp[results,qfl,go_sem,g0,g1]) rfl ?_;exact⟨by rw[HCC.out],zeg HB3.out (qac _) _ _⟩
theorem z3d (s:ByteArray)(w:World)(hs:s.size<=1050000)(hO:zaz (bts s)=.ok rs f)(hd:dupO rs=none)(hu:undO (nmR rs) f=none)(hk:chkL (zam rs) (zan (nmR rs) (nmC f) f.nodes)=.ok):Calls qab 49 #[jh s] w (zml (zam rs) (zan (nmR rs) (nmC f) f.nodes) w):=by
 have HB0:=qaa (zaa w (.cells #[jf none 0 0,jf none 0 0] 25));have HG0:=qaa (qa0 w 25 #[jf none 0 0,jf none 0 0]);have HQ:=qaa ((za1 s (w.alloc (.cells #[jf none 0 0,jf none 0 0] 25)) U).mono fun e w' h=>zc2 (by
  rw[hO] at h;exact h))
 have HOK:=qaa (zb9 hs hO);have HD:=qaa hd;have HU:=qaa hu;have HKO:=qaa hk;clear hO hs hd hu hk;go_enter qf5,qf0
 go_upto_region 4 with(go_at_call 77;(with_reducible refine HQ.out.mono ?_);rintro e w1 ⟨va,vc,na,nc,ca,cc,rfl,hF,hb⟩;have hn:=zaa w1 (.cells #[jf va rs.length vc,jf na f.nodes.length nc,jf ca f.calls.length cc] 133);have hbn:=hb.trans (hn.mono hb.size);have HF1:=qaa (hF.below hn).file;have HX1:=qaa (qa0 w1 133 #[jf va rs.length vc,jf na f.nodes.length nc,jf ca f.calls.length cc]);have HG1:=qaa (HG0.out.below hbn);have HB1:=qaa (HB0.out.trans (hbn.mono HB0.out.size));clear hF hb hn hbn)
 obtain⟨W1,hW1⟩:∃W1,w1.alloc (.cells #[jf va rs.length vc,jf na f.nodes.length nc,jf ca f.calls.length cc] 133)=W1:=⟨_,rfl⟩;rw[hW1] at HF1 HX1 HG1 HB1;obtain⟨F,hF⟩:∃F,w1.heap.size=F:=⟨_,rfl⟩;rw[hF] at HX1;rw[hW1,hF];clear hW1 hF;have c0:=HX1.out.cell (o:=0) (u:=jf va rs.length vc) rfl;have c1:=HX1.out.cell (o:=1) (u:=jf na f.nodes.length nc) rfl;have c2:=HX1.out.cell (o:=2) (u:=jf ca f.calls.length cc) rfl;have cl:=HX1.out.lt
 go_upto_region 5 with(go_at_call 78;(with_reducible refine(zeu _ _ _ rs f _ HF1.out HOK.out).mono ?_);intro e w2 hr;obtain⟨ra2,rc2,na2,nc2,he,hR,hN,hb⟩:=zya HD.out HU.out hr;subst he;clear hr;have hn:=zaa w2 (.cells #[jf ra2 (zam rs).length rc2,jf na2 (zan (nmR rs) (nmC f) f.nodes).length nc2,jh ⟨#[]⟩,je jd 0,je jd 0] 137);have hbn:=hb.trans (hn.mono hb.size);have HR2:=qaa (hR.kept hn (qac _));have HN2:=qaa (hN.kept hn (qac _));have HZ2:=qaa (qa0 w2 137 #[jf ra2 (zam rs).length rc2,jf na2 (zan (nmR rs) (nmC f) f.nodes).length nc2,jh ⟨#[]⟩,je jd 0,je jd 0]);have HG2:=qaa (HG1.out.below hbn);have HB2:=qaa (HB1.out.trans (hbn.mono HB1.out.size));clear hR hN hb hn hbn c0 c1 c2 cl)
 obtain⟨W2,hW2⟩:∃W2,w2.alloc (.cells #[jf ra2 (zam rs).length rc2,jf na2 (zan (nmR rs) (nmC f) f.nodes).length nc2,jh ⟨#[]⟩,je jd 0,je jd 0] 137)=W2:=⟨_,rfl⟩;obtain⟨Z,hZ⟩:∃Z,w2.heap.size=Z:=⟨_,rfl⟩;rw[hW2] at HR2 HN2 HZ2 HG2 HB2;rw[hZ] at HZ2;rw[hW2,hZ];clear hW2 hZ;have z0:=HZ2.out.cell (o:=0) (u:=jf ra2 (zam rs).length rc2) rfl;have z1:=HZ2.out.cell (o:=1) (u:=jf na2 (zan (nmR rs) (nmC f) f.nodes).length nc2) rfl;have z3:=HZ2.out.cell (o:=3) (u:=je jd 0) rfl;have zl:=HZ2.out.lt;have hck:=zho _ _ _ _ W2 HR2.out HN2.out (zhk HOK.out);unfold RChkIs at hck;rw[z3c] at hck;have HCK:=qaa hck;clear hck;rw[HKO.out] at HCK;have HCK:Hid (Calls qab 51 #[.agg #[jf ra2 (zam rs).length rc2,jf na2 (zan (nmR rs) (nmC f) f.nodes).length nc2]] W2 fun e w'=>e=.returned (jk #[jh ⟨#[]⟩,je jd 0,je jd 0])/\Below W2.heap.size W2 w'):=HCK
 go_wp2_with (go_at_call 51;(with_reducible refine HCK.out.mono ?_);rintro e w3 ⟨rfl,hb⟩;have HR3:=qaa (HR2.out.kept hb (qac _));have HN3:=qaa (HN2.out.kept hb (qac _));have HZ3:=qaa (HZ2.out.below hb);have HG3:=qaa (HG2.out.below hb);have HB3:=qaa (HB2.out.trans (hb.mono HB2.out.size));clear hb z0 z1 z3 zl;have g0:=HG3.out.cell (o:=0) (u:=jf none 0 0) rfl;have g1:=HG3.out.cell (o:=1) (u:=jf none 0 0) rfl;have gf:=HG3.out.free;have gl:=HG3.out.lt;have z0:=HZ3.out.cell (o:=0) (u:=jf ra2 (zam rs).length rc2) rfl;have z1:=HZ3.out.cell (o:=1) (u:=jf na2 (zan (nmR rs) (nmC f) f.nodes).length nc2) rfl;have zl:=HZ3.out.lt)
 refine bodyPost_ret (v:=jk #[.agg #[jf ra2 (zam rs).length rc2,jf na2 (zan (nmR rs) (nmC f) f.nodes).length nc2],je jd 0]) (by simp[results,qfl,go_sem,g0,g1]) rfl ?_;exact⟨ra2,rc2,na2,nc2,rfl,HR3.out.off HG3.out (fun b hb=>zou _ hb _ _),HN3.out.off HG3.out (fun b hb=>zou _ hb _ _),zeg HB3.out (qac _) _ _⟩
end
section
open Go.RowKit
theorem z1r {x:List Nat × Nat}(hd:dupO rs=some x):grmC (.ok rs f)=2:=by
 unfold grmC;dsimp only;rw[hd]
theorem z1s {x:List Nat × Nat}(hd:dupO rs=none)(hu:undO (nmR rs) f=some x):grmC (.ok rs f)=3:=by
 unfold grmC;dsimp only;rw[hd];dsimp only;rw[hu]
theorem z1t (hd:dupO rs=none)(hu:undO (nmR rs) f=none):grmC (.ok rs f)=chkC (chkL (zam rs) (zan (nmR rs) (nmC f) f.nodes)):=by
 unfold grmC;dsimp only;rw[hd];dsimp only;rw[hu]
theorem z8v (dp:Bool):erC dp≠0:=by cases dp<;>decide
theorem zyo {c:Chk}(h:c≠.ok):chkC c≠0:=by
 cases c with
 |ok=>exact absurd rfl h
 |large=>exact(by decide:(4:Int)≠0)
 |order=>exact(by decide:(10:Int)≠0)
 |rules i=>exact(by decide:(10:Int)≠0)
 |nodes i=>exact(by decide:(10:Int)≠0)
 |deep i=>exact(by decide:(5:Int)≠0)
theorem zyp (s:ByteArray)(w:World)(hl:SignsAt w)(hs:s.size<=1050000) :
  (grmC (zaz (bts s))≠0/\(∀W,Below w.heap.size w W->Calls qab 15 #[jh s] W (GErrC (grmC (zaz (bts s))) W))/\∀W,Calls qab 49 #[jh s] W (RErr (grmC (zaz (bts s))) W)) ∨
  (∃rs f,zaz (bts s)=.ok rs f/\dupO rs=none/\undO (nmR rs) f=none/\FileOk rs f/\chkL (zam rs) (zan (nmR rs) (nmC f) f.nodes)=.ok/\(∀W,Below w.heap.size w W->Calls qab 15 #[jh s] W (GramOk (zam rs) (zan (nmR rs) (nmC f) f.nodes) W))/\∀W,Calls qab 49 #[jh s] W (zml (zam rs) (zan (nmR rs) (nmC f) f.nodes) W)):=by
 have hlk:=fun(W:World) (hb:Below w.heap.size w W)=>hl.kept hb (qac _)
 cases hO:zaz (bts s) with
 |bad a dp=>
  refine .inl ⟨z8v dp,fun W hb=>(z5j s W (hlk W hb) hs hO).mono fun e w' h=>⟨_,h,rfl⟩,fun W=>z5z s W hs hO⟩
 |ok rs f=>
  cases hd:dupO rs with
  |some x=>
   rw[z1r hd];exact .inl ⟨ja,fun W hb=>(z5k s W (hlk W hb) hs hO x hd).mono fun e w' ⟨b,h⟩=>⟨_,h,rfl⟩,fun W=>z50 s W hs hO x hd⟩
  |none=>
   cases hu:undO (nmR rs) f with
   |some x=>
    rw[z1s hd hu];exact .inl ⟨ja,fun W hb=>(z5l s W (hlk W hb) hs hO x hd hu).mono fun e w' ⟨b,h⟩=>⟨_,h,rfl⟩,fun W=>z51 s W hs hO x hd hu⟩
   |none=>
    by_cases hk:chkL (zam rs) (zan (nmR rs) (nmC f) f.nodes)=.ok
    ·exact .inr ⟨rs,f,rfl,hd,hu,zb9 hs hO,hk,fun W hb=>zxz s W (hlk W hb) hs hO hd hu hk,fun W=>z3d s W hs hO hd hu hk⟩
    ·rw[z1t hd hu]
     exact .inl ⟨zyo hk,fun W hb=>z5n s W (hlk W hb) hs hO hd hu hk,fun W=>z52 s W hs hO hd hu (zyo hk)⟩
end
