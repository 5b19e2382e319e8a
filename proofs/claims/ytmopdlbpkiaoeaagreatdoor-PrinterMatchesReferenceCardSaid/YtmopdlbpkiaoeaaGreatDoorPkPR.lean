/- The reference's text of a node. Written by wip/gen/prntxt.py. The reference's text of a sequence and of a choice. Written by wip/gen/prnseq.py. The reference's  -/
import Derived.Deep.Cut
import Derived.Deep.RegionHeld3
import Derived.Test.YtmopdlbpkiaoeaaGreatDoorPkGA
import Derived.Test.YtmopdlbpkiaoeaaGreatDoorPkPrnRCls
set_option maxRecDepth 100000
set_option maxHeartbeats 8000000
namespace Go.Proofs.YtmopdlbpkiaoeaaGreatDoor
section
open Go.RowKit
theorem NodesAt.nth {w:World}{a:Option Addr}{m c:Nat}{ns:List PN}(h:NodesAt w (.slice a m c) ns){i:Nat}{x:PN}(hx:ns[i]?=some x):∃b off,a=some ⟨b,off,none⟩/\NodeAt w b (off+i*7) x:=by
 obtain⟨-,a',c',hv,hp⟩:=h;injection hv with h1 h2 h3;subst h1;rcases hp with hp|⟨b,o,rfl,hc⟩
 ·rw[hp] at hx;cases hx
 ·exact⟨b,o,rfl,hc i x hx⟩
theorem RulesIn.nth {w:World}{a:Option Addr}{m c:Nat}{rs:List PR}(h:RulesIn w (.slice a m c) rs){i:Nat}{x:PR}(hx:rs[i]?=some x):∃b off,a=some ⟨b,off,none⟩/\RuleAt w b (off+i*2) x:=by
 obtain⟨-,a',c',hv,hp⟩:=h;injection hv with h1 h2 h3;subst h1;rcases hp with hp|⟨b,o,rfl,hc⟩
 ·rw[hp] at hx;cases hx
 ·exact⟨b,o,rfl,hc i x hx⟩
def RTx (gv:Value)(i pl:Int)(W:World)(r:List Nat):Prop:=Calls Tryz.prog 32 #[gv,.int .i64 i,.int .i64 pl] W fun e w'=>e=.returned (.string (strOf r))/\Below W.heap.size W w'
theorem z86 (a b:List Nat)(h:a.length+b.length<=2000000):∀w,(Op.stringOp .add (strOf a) (strOf b)).run Tryz.prog w=.ok (.string (strOf (a++b))) w:=fun w=>by
 rw[zmq];exact run_string_add_sum w _ _ (by rw[zb0,zb0];omega)
theorem yaev (rs:List PR)(ns:List PN)(ra na:Option Addr)(rn rc nn nc i:Nat)(pl:Int)(n:PN)(W:World)(hn:ns[i]?=some n)(hnn:nn=ns.length)(hN:NodesAt W (.slice na nn nc) ns)(hRR:RulesIn W (.slice ra rn rc) rs)(hop:n.op=0):RTx (.agg #[.slice ra rn rc,.slice na nn nc]) i pl W [39,39]:=by
 unfold RTx;have HRR:=Lib.hid hRR;clear hRR;obtain⟨nb,no,rfl,kv,c0,c1,c2,c3,c4,c5,c6,hK,hkl⟩:=hN.nth hn;obtain⟨ka,kc,rfl,-⟩:∃ka kc,kv=.slice ka n.kids.length kc/\True:=by
  obtain⟨a,c,e,-⟩:=hK;exact⟨a,c,e,trivial⟩
 obtain⟨kn,hkn⟩:∃kn,n.kids.length=kn:=⟨_,rfl⟩;have hil:(i:Int)<(nn:Int):=by have:=(List.getElem?_eq_some_iff.1 hn).1;omega
 have hlt:=zai c0;rw[hkn] at c1 hK;have HKN:=Lib.hid hkn;have HKK:=Lib.hid hK;clear hnn hkn hkl hK;have HG:=Lib.hid (Bl.new W 25 #[.slice ra rn rc,.slice (some ⟨nb,no,none⟩) nn nc]);have hB1:=zaa W (.cells #[.slice ra rn rc,.slice (some ⟨nb,no,none⟩) nn nc] 25);have HB1:=Lib.hid hB1;rw[hop] at c0;go_enter Tryz.func32,Tryz.ntmps32
 go_upto_region 1 with fail
 obtain⟨W1,hW1⟩:∃W1,W.alloc (.cells #[.slice ra rn rc,.slice (some ⟨nb,no,none⟩) nn nc] 25)=W1:=⟨_,rfl⟩;rw[hW1] at HG HB1 hB1;rw[hW1];have hcc:=(bcell hB1).1;have d0:=(hcc nb (no+i*7) hlt).trans c0;have d1:=(hcc nb (no+i*7+1) hlt).trans c1;have d2:=(hcc nb (no+i*7+2) hlt).trans c2;have d3:=(hcc nb (no+i*7+3) hlt).trans c3;have d4:=(hcc nb (no+i*7+4) hlt).trans c4;have d5:=(hcc nb (no+i*7+5) hlt).trans c5;have d6:=(hcc nb (no+i*7+6) hlt).trans c6;have g0:=HG.out.cell (o:=0) (u:=.slice ra rn rc) rfl;have g1:=HG.out.cell (o:=1) (u:=.slice (some ⟨nb,no,none⟩) nn nc) rfl;have gl:=HG.out.lt;clear hcc c0 c1 c2 c3 c4 c5 c6 hW1
 go_upto_region 2 with fail
 have HX:=Lib.hid (Bl.new W1 54 #[.int .i64 0,.slice ka kn kc,.int .i64 n.rule,.int .u64 n.s0,.int .u64 n.s1,.int .u64 n.s2,.int .u64 n.s3]);have hn2:=zaa W1 (.cells #[.int .i64 0,.slice ka kn kc,.int .i64 n.rule,.int .u64 n.s0,.int .u64 n.s1,.int .u64 n.s2,.int .u64 n.s3] 54);have HG2:=Lib.hid (HG.out.below hn2);have HB2:=Lib.hid (HB1.out.trans (hn2.mono HB1.out.size));have HKK2:=Lib.hid ((HKK.out.kept HB1.out (Nat.le_refl _)).kept hn2 (Nat.le_refl _));have HR2:=Lib.hid ((HRR.out.kept HB1.out (Nat.le_refl _)).kept hn2 (Nat.le_refl _));obtain⟨W2,hW2⟩:∃W2,W1.alloc (.cells #[.int .i64 0,.slice ka kn kc,.int .i64 n.rule,.int .u64 n.s0,.int .u64 n.s1,.int .u64 n.s2,.int .u64 n.s3] 54)=W2:=⟨_,rfl⟩;obtain⟨B1,hB1q⟩:∃B1,W1.heap.size=B1:=⟨_,rfl⟩;obtain⟨B0,hB0q⟩:∃B0,W.heap.size=B0:=⟨_,rfl⟩;rw[hW2] at HX HG2 HB2 HKK2 HR2;rw[hB1q] at HX;rw[hB0q] at HG2;rw[hW2,hB1q,hB0q];clear hW2 hB1q hB0q hn2 d0 d1 d2 d3 d4 d5 d6 g0 g1 gl hB1 HB1 HG HKK;have x0:=HX.out.cell (o:=0) (u:=.int .i64 0) rfl;have x1:=HX.out.cell (o:=1) (u:=.slice ka kn kc) rfl;have x2:=HX.out.cell (o:=2) (u:=.int .i64 n.rule) rfl;have x3:=HX.out.cell (o:=3) (u:=.int .u64 n.s0) rfl;have x4:=HX.out.cell (o:=4) (u:=.int .u64 n.s1) rfl;have x5:=HX.out.cell (o:=5) (u:=.int .u64 n.s2) rfl;have x6:=HX.out.cell (o:=6) (u:=.int .u64 n.s3) rfl;have xl:=HX.out.lt;have y0:=HG2.out.cell (o:=0) (u:=.slice ra rn rc) rfl;have y1:=HG2.out.cell (o:=1) (u:=.slice (some ⟨nb,no,none⟩) nn nc) rfl;have yl:=HG2.out.lt;go_wp2;go_ret;exact⟨rfl,HB2.out⟩
theorem yaew (rs:List PR)(ns:List PN)(ra na:Option Addr)(rn rc nn nc i:Nat)(pl:Int)(n:PN)(W:World)(hn:ns[i]?=some n)(hnn:nn=ns.length)(hN:NodesAt W (.slice na nn nc) ns)(hRR:RulesIn W (.slice ra rn rc) rs)(hop:n.op=1)(hw:z87 n):RTx (.agg #[.slice ra rn rc,.slice na nn nc]) i pl W (cxN n):=by
 unfold RTx;have HRR:=Lib.hid hRR;clear hRR;have HQ:=Lib.hid (yaby hw);obtain⟨nb,no,rfl,kv,c0,c1,c2,c3,c4,c5,c6,hK,hkl⟩:=hN.nth hn;obtain⟨ka,kc,rfl,-⟩:∃ka kc,kv=.slice ka n.kids.length kc/\True:=by
  obtain⟨a,c,e,-⟩:=hK;exact⟨a,c,e,trivial⟩
 obtain⟨kn,hkn⟩:∃kn,n.kids.length=kn:=⟨_,rfl⟩;have hil:(i:Int)<(nn:Int):=by have:=(List.getElem?_eq_some_iff.1 hn).1;omega
 have hlt:=zai c0;rw[hkn] at c1 hK;have HKN:=Lib.hid hkn;have HKK:=Lib.hid hK;clear hnn hkn hkl hK;have HG:=Lib.hid (Bl.new W 25 #[.slice ra rn rc,.slice (some ⟨nb,no,none⟩) nn nc]);have hB1:=zaa W (.cells #[.slice ra rn rc,.slice (some ⟨nb,no,none⟩) nn nc] 25);have HB1:=Lib.hid hB1;rw[hop] at c0;go_enter Tryz.func32,Tryz.ntmps32
 go_upto_region 1 with fail
 obtain⟨W1,hW1⟩:∃W1,W.alloc (.cells #[.slice ra rn rc,.slice (some ⟨nb,no,none⟩) nn nc] 25)=W1:=⟨_,rfl⟩;rw[hW1] at HG HB1 hB1;rw[hW1];have hcc:=(bcell hB1).1;have d0:=(hcc nb (no+i*7) hlt).trans c0;have d1:=(hcc nb (no+i*7+1) hlt).trans c1;have d2:=(hcc nb (no+i*7+2) hlt).trans c2;have d3:=(hcc nb (no+i*7+3) hlt).trans c3;have d4:=(hcc nb (no+i*7+4) hlt).trans c4;have d5:=(hcc nb (no+i*7+5) hlt).trans c5;have d6:=(hcc nb (no+i*7+6) hlt).trans c6;have g0:=HG.out.cell (o:=0) (u:=.slice ra rn rc) rfl;have g1:=HG.out.cell (o:=1) (u:=.slice (some ⟨nb,no,none⟩) nn nc) rfl;have gl:=HG.out.lt;clear hcc c0 c1 c2 c3 c4 c5 c6 hW1
 go_upto_region 2 with fail
 have HX:=Lib.hid (Bl.new W1 54 #[.int .i64 1,.slice ka kn kc,.int .i64 n.rule,.int .u64 n.s0,.int .u64 n.s1,.int .u64 n.s2,.int .u64 n.s3]);have hn2:=zaa W1 (.cells #[.int .i64 1,.slice ka kn kc,.int .i64 n.rule,.int .u64 n.s0,.int .u64 n.s1,.int .u64 n.s2,.int .u64 n.s3] 54);have HG2:=Lib.hid (HG.out.below hn2);have HB2:=Lib.hid (HB1.out.trans (hn2.mono HB1.out.size));have HKK2:=Lib.hid ((HKK.out.kept HB1.out (Nat.le_refl _)).kept hn2 (Nat.le_refl _));have HR2:=Lib.hid ((HRR.out.kept HB1.out (Nat.le_refl _)).kept hn2 (Nat.le_refl _));obtain⟨W2,hW2⟩:∃W2,W1.alloc (.cells #[.int .i64 1,.slice ka kn kc,.int .i64 n.rule,.int .u64 n.s0,.int .u64 n.s1,.int .u64 n.s2,.int .u64 n.s3] 54)=W2:=⟨_,rfl⟩;obtain⟨B1,hB1q⟩:∃B1,W1.heap.size=B1:=⟨_,rfl⟩;obtain⟨B0,hB0q⟩:∃B0,W.heap.size=B0:=⟨_,rfl⟩;rw[hW2] at HX HG2 HB2 HKK2 HR2;rw[hB1q] at HX;rw[hB0q] at HG2;rw[hW2,hB1q,hB0q];clear hW2 hB1q hB0q hn2 d0 d1 d2 d3 d4 d5 d6 g0 g1 gl hB1 HB1 HG HKK;have x0:=HX.out.cell (o:=0) (u:=.int .i64 1) rfl;have x1:=HX.out.cell (o:=1) (u:=.slice ka kn kc) rfl;have x2:=HX.out.cell (o:=2) (u:=.int .i64 n.rule) rfl;have x3:=HX.out.cell (o:=3) (u:=.int .u64 n.s0) rfl;have x4:=HX.out.cell (o:=4) (u:=.int .u64 n.s1) rfl;have x5:=HX.out.cell (o:=5) (u:=.int .u64 n.s2) rfl;have x6:=HX.out.cell (o:=6) (u:=.int .u64 n.s3) rfl;have xl:=HX.out.lt;have y0:=HG2.out.cell (o:=0) (u:=.slice ra rn rc) rfl;have y1:=HG2.out.cell (o:=1) (u:=.slice (some ⟨nb,no,none⟩) nn nc) rfl;have yl:=HG2.out.lt;obtain⟨q0,q1,q2,q3⟩:=HQ.out;rw[q0] at x3;rw[q1] at x4;rw[q2] at x5;rw[q3] at x6;clear q0 q1 q2 q3
 go_wp2_with (go_at_call 20;(with_reducible refine(yabi (bitF n) _).mono ?_);rintro e w3 ⟨rfl,hb⟩;have HB3:=Lib.hid (HB2.out.trans (hb.mono HB2.out.size));clear hb)
 go_ret;exact⟨rfl,HB3.out⟩
theorem yage (rs:List PR)(ns:List PN)(ra na:Option Addr)(rn rc nn nc i:Nat)(pl:Int)(n:PN)(W:World)(hn:ns[i]?=some n)(hnn:nn=ns.length)(hN:NodesAt W (.slice na nn nc) ns)(hRR:RulesIn W (.slice ra rn rc) rs)(hop:n.op=2)(r:PR)(hr:rs[n.rule.toNat]?=some r)(h0:0<=n.rule)(hrn:rn=rs.length):RTx (.agg #[.slice ra rn rc,.slice na nn nc]) i pl W (bts r.name):=by
 unfold RTx;have HRR:=Lib.hid hRR;clear hRR;have HRN:=Lib.hid hrn;clear hrn;obtain⟨nb,no,rfl,kv,c0,c1,c2,c3,c4,c5,c6,hK,hkl⟩:=hN.nth hn;obtain⟨ka,kc,rfl,-⟩:∃ka kc,kv=.slice ka n.kids.length kc/\True:=by
  obtain⟨a,c,e,-⟩:=hK;exact⟨a,c,e,trivial⟩
 obtain⟨kn,hkn⟩:∃kn,n.kids.length=kn:=⟨_,rfl⟩;have hil:(i:Int)<(nn:Int):=by have:=(List.getElem?_eq_some_iff.1 hn).1;omega
 have hlt:=zai c0;rw[hkn] at c1 hK;have HKN:=Lib.hid hkn;have HKK:=Lib.hid hK;clear hnn hkn hkl hK;have HG:=Lib.hid (Bl.new W 25 #[.slice ra rn rc,.slice (some ⟨nb,no,none⟩) nn nc]);have hB1:=zaa W (.cells #[.slice ra rn rc,.slice (some ⟨nb,no,none⟩) nn nc] 25);have HB1:=Lib.hid hB1;rw[hop] at c0;go_enter Tryz.func32,Tryz.ntmps32
 go_upto_region 1 with fail
 obtain⟨W1,hW1⟩:∃W1,W.alloc (.cells #[.slice ra rn rc,.slice (some ⟨nb,no,none⟩) nn nc] 25)=W1:=⟨_,rfl⟩;rw[hW1] at HG HB1 hB1;rw[hW1];have hcc:=(bcell hB1).1;have d0:=(hcc nb (no+i*7) hlt).trans c0;have d1:=(hcc nb (no+i*7+1) hlt).trans c1;have d2:=(hcc nb (no+i*7+2) hlt).trans c2;have d3:=(hcc nb (no+i*7+3) hlt).trans c3;have d4:=(hcc nb (no+i*7+4) hlt).trans c4;have d5:=(hcc nb (no+i*7+5) hlt).trans c5;have d6:=(hcc nb (no+i*7+6) hlt).trans c6;have g0:=HG.out.cell (o:=0) (u:=.slice ra rn rc) rfl;have g1:=HG.out.cell (o:=1) (u:=.slice (some ⟨nb,no,none⟩) nn nc) rfl;have gl:=HG.out.lt;clear hcc c0 c1 c2 c3 c4 c5 c6 hW1
 go_upto_region 2 with fail
 have HX:=Lib.hid (Bl.new W1 54 #[.int .i64 2,.slice ka kn kc,.int .i64 n.rule,.int .u64 n.s0,.int .u64 n.s1,.int .u64 n.s2,.int .u64 n.s3]);have hn2:=zaa W1 (.cells #[.int .i64 2,.slice ka kn kc,.int .i64 n.rule,.int .u64 n.s0,.int .u64 n.s1,.int .u64 n.s2,.int .u64 n.s3] 54);have HG2:=Lib.hid (HG.out.below hn2);have HB2:=Lib.hid (HB1.out.trans (hn2.mono HB1.out.size));have HKK2:=Lib.hid ((HKK.out.kept HB1.out (Nat.le_refl _)).kept hn2 (Nat.le_refl _));have HR2:=Lib.hid ((HRR.out.kept HB1.out (Nat.le_refl _)).kept hn2 (Nat.le_refl _));obtain⟨W2,hW2⟩:∃W2,W1.alloc (.cells #[.int .i64 2,.slice ka kn kc,.int .i64 n.rule,.int .u64 n.s0,.int .u64 n.s1,.int .u64 n.s2,.int .u64 n.s3] 54)=W2:=⟨_,rfl⟩;obtain⟨B1,hB1q⟩:∃B1,W1.heap.size=B1:=⟨_,rfl⟩;obtain⟨B0,hB0q⟩:∃B0,W.heap.size=B0:=⟨_,rfl⟩;rw[hW2] at HX HG2 HB2 HKK2 HR2;rw[hB1q] at HX;rw[hB0q] at HG2;rw[hW2,hB1q,hB0q];clear hW2 hB1q hB0q hn2 d0 d1 d2 d3 d4 d5 d6 g0 g1 gl hB1 HB1 HG HKK;have x0:=HX.out.cell (o:=0) (u:=.int .i64 2) rfl;have x1:=HX.out.cell (o:=1) (u:=.slice ka kn kc) rfl;have x2:=HX.out.cell (o:=2) (u:=.int .i64 n.rule) rfl;have x3:=HX.out.cell (o:=3) (u:=.int .u64 n.s0) rfl;have x4:=HX.out.cell (o:=4) (u:=.int .u64 n.s1) rfl;have x5:=HX.out.cell (o:=5) (u:=.int .u64 n.s2) rfl;have x6:=HX.out.cell (o:=6) (u:=.int .u64 n.s3) rfl;have xl:=HX.out.lt;have y0:=HG2.out.cell (o:=0) (u:=.slice ra rn rc) rfl;have y1:=HG2.out.cell (o:=1) (u:=.slice (some ⟨nb,no,none⟩) nn nc) rfl;have yl:=HG2.out.lt;obtain⟨rb,ro,rfl,r0,-⟩:=HR2.out.nth hr;obtain⟨j,hj⟩:∃j:Nat,n.rule=(j:Int):=⟨n.rule.toNat,(Int.toNat_of_nonneg h0).symm⟩;have hjl:(j:Int)<(rn:Int):=by have:=(List.getElem?_eq_some_iff.1 hr).1;have:=HRN.out;omega
 have hjt:n.rule.toNat=j:=by omega
 rw[hjt] at r0;rw[hj] at x2;clear hr hj hjt h0;go_wp2;go_ret;exact⟨by rw[zt7];rfl,HB2.out⟩
end
section
open Go.RowKit
theorem yacp {f:Int->List Nat}{l:List Int}{k:Nat}{x:Int}(h:l[k]?=some x):(l.take (k+1)).map f=(l.take k).map f++[f x]:=by
 rw[za3 l k x h,List.map_append];rfl
theorem yac2 {sep:List Nat}{f:Int->List Nat}{l:List Int}{k:Nat}{x:Int}(h:l[k]?=some x):joinT sep ((l.take (k+1)).map f)=joinT sep ((l.take k).map f)++((if k=0 then [] else sep)++f x):=by
 have hk:=(List.getElem?_eq_some_iff.1 h).1;rw[yacp h];by_cases h0:k=0
 ·subst h0
  rw[if_pos rfl];rfl
 ·rw[if_neg h0,yacu]
  intro e;have:=congrArg List.length e;rw[List.length_map,List.length_take,List.length_nil] at this;omega
theorem yabu {sep:List Nat}{f:Int->List Nat}(l:List Int)(k:Nat):(joinT sep ((l.take k).map f)).length<=(joinT sep (l.map f)).length:=by
 rw[List.map_take];exact yacv _ k
theorem yah3 (rs:List PR)(ns:List PN)(ra na:Option Addr)(rn rc nn nc i:Nat)(pl:Int)(n:PN)(W:World)(hn:ns[i]?=some n)(hnn:nn=ns.length)(hN:NodesAt W (.slice na nn nc) ns)(hRR:RulesIn W (.slice ra rn rc) rs)(hop:n.op=3)(f:Int->List Nat)(hf:(joinT [32] (n.kids.map f)).length<=1000000)(hrec:∀x,x ∈ n.kids->∀W2,Below W.heap.size W W2->RTx (.agg #[.slice ra rn rc,.slice na nn nc]) x 1 W2 (f x))(p:Bool)(hp:decide (1<=pl)=p):RTx (.agg #[.slice ra rn rc,.slice na nn nc]) i pl W (parX p (joinT [32] (n.kids.map f))):=by
 unfold RTx;have HRR:=Lib.hid hRR;clear hRR;have HREC:=Lib.hid hrec;have HF:=Lib.hid hf;have HP:=Lib.hid hp;clear hrec hf hp;obtain⟨nb,no,rfl,kv,c0,c1,c2,c3,c4,c5,c6,hK,hkl⟩:=hN.nth hn;obtain⟨ka,kc,rfl,-⟩:∃ka kc,kv=.slice ka n.kids.length kc/\True:=by
  obtain⟨a,c,e,-⟩:=hK;exact⟨a,c,e,trivial⟩
 obtain⟨kn,hkn⟩:∃kn,n.kids.length=kn:=⟨_,rfl⟩;have hil:(i:Int)<(nn:Int):=by have:=(List.getElem?_eq_some_iff.1 hn).1;omega
 have hlt:=zai c0;rw[hkn] at c1 hK;have HKN:=Lib.hid hkn;have HKK:=Lib.hid hK;have HKL:=Lib.hid (show kn<=9223372036854775807 from by unfold maxLen at hkl;omega);clear hnn hkn hkl hK;have HG:=Lib.hid (Bl.new W 25 #[.slice ra rn rc,.slice (some ⟨nb,no,none⟩) nn nc]);have hB1:=zaa W (.cells #[.slice ra rn rc,.slice (some ⟨nb,no,none⟩) nn nc] 25);have HB1:=Lib.hid hB1;rw[hop] at c0;go_enter Tryz.func32,Tryz.ntmps32
 go_upto_region 1 with fail
 obtain⟨W1,hW1⟩:∃W1,W.alloc (.cells #[.slice ra rn rc,.slice (some ⟨nb,no,none⟩) nn nc] 25)=W1:=⟨_,rfl⟩;rw[hW1] at HG HB1 hB1;rw[hW1];have hcc:=(bcell hB1).1;have d0:=(hcc nb (no+i*7) hlt).trans c0;have d1:=(hcc nb (no+i*7+1) hlt).trans c1;have d2:=(hcc nb (no+i*7+2) hlt).trans c2;have d3:=(hcc nb (no+i*7+3) hlt).trans c3;have d4:=(hcc nb (no+i*7+4) hlt).trans c4;have d5:=(hcc nb (no+i*7+5) hlt).trans c5;have d6:=(hcc nb (no+i*7+6) hlt).trans c6;have g0:=HG.out.cell (o:=0) (u:=.slice ra rn rc) rfl;have g1:=HG.out.cell (o:=1) (u:=.slice (some ⟨nb,no,none⟩) nn nc) rfl;have gl:=HG.out.lt;clear hcc c0 c1 c2 c3 c4 c5 c6 hW1
 go_upto_region 2 with fail
 have HX:=Lib.hid (Bl.new W1 54 #[.int .i64 3,.slice ka kn kc,.int .i64 n.rule,.int .u64 n.s0,.int .u64 n.s1,.int .u64 n.s2,.int .u64 n.s3]);have hn2:=zaa W1 (.cells #[.int .i64 3,.slice ka kn kc,.int .i64 n.rule,.int .u64 n.s0,.int .u64 n.s1,.int .u64 n.s2,.int .u64 n.s3] 54);have HG2:=Lib.hid (HG.out.below hn2);have HB2:=Lib.hid (HB1.out.trans (hn2.mono HB1.out.size));have HKK2:=Lib.hid ((HKK.out.kept HB1.out (Nat.le_refl _)).kept hn2 (Nat.le_refl _));have HR2:=Lib.hid ((HRR.out.kept HB1.out (Nat.le_refl _)).kept hn2 (Nat.le_refl _));obtain⟨W2,hW2⟩:∃W2,W1.alloc (.cells #[.int .i64 3,.slice ka kn kc,.int .i64 n.rule,.int .u64 n.s0,.int .u64 n.s1,.int .u64 n.s2,.int .u64 n.s3] 54)=W2:=⟨_,rfl⟩;obtain⟨B1,hB1q⟩:∃B1,W1.heap.size=B1:=⟨_,rfl⟩;obtain⟨B0,hB0q⟩:∃B0,W.heap.size=B0:=⟨_,rfl⟩;rw[hW2] at HX HG2 HB2 HKK2 HR2;rw[hB1q] at HX;rw[hB0q] at HG2;rw[hW2,hB1q,hB0q];clear hW2 hB1q hB0q hn2 d0 d1 d2 d3 d4 d5 d6 g0 g1 gl hB1 HB1 HG HKK;have x0:=HX.out.cell (o:=0) (u:=.int .i64 3) rfl;have x1:=HX.out.cell (o:=1) (u:=.slice ka kn kc) rfl;have x2:=HX.out.cell (o:=2) (u:=.int .i64 n.rule) rfl;have x3:=HX.out.cell (o:=3) (u:=.int .u64 n.s0) rfl;have x4:=HX.out.cell (o:=4) (u:=.int .u64 n.s1) rfl;have x5:=HX.out.cell (o:=5) (u:=.int .u64 n.s2) rfl;have x6:=HX.out.cell (o:=6) (u:=.int .u64 n.s3) rfl;have xl:=HX.out.lt;have y0:=HG2.out.cell (o:=0) (u:=.slice ra rn rc) rfl;have y1:=HG2.out.cell (o:=1) (u:=.slice (some ⟨nb,no,none⟩) nn nc) rfl;have yl:=HG2.out.lt;go_wp2;clear x0 x1 x2 x3 x4 x5 x6 xl y0 y1 yl
 go_loopw [8,10] (fun s c wr=>∃(k:Nat) (S:ByteArray),k<=kn/\c=.int .i64 k/\s=.string S/\S=strOf (joinT [32] ((n.kids.take k).map f))/\Below W2.heap.size W2 wr) (fun _ c _=>kn-(intOf c).toNat)
 case atStart=>exact⟨0,_,Nat.zero_le _,rfl,rfl,rfl,Below.refl _ _⟩
 case round=>
  obtain⟨k,S,hk,rfl,rfl,hS,hbw⟩:=hrel;have hb:=hbw;have u1:=(HX.out.below hb).cell (o:=1) (u:=.slice ka kn kc) rfl;have ul:=(HX.out.below hb).lt;have v0:=(HG2.out.below hb).cell (o:=0) (u:=.slice ra rn rc) rfl;have v1:=(HG2.out.below hb).cell (o:=1) (u:=.slice (some ⟨nb,no,none⟩) nn nc) rfl;have vl:=(HG2.out.below hb).lt;have HBW:=Lib.hid (HB2.out.trans (hb.mono HB2.out.size));have HBR:=Lib.hid hb;by_cases hlt2:k<kn
  ·obtain⟨x,hx⟩:∃x,n.kids[k]?=some x:=⟨_,List.getElem?_eq_getElem (by rw[HKN.out];exact hlt2)⟩
   obtain⟨kb,ko,rfl,ck⟩:=(HKK2.out.kept hbw (Nat.le_refl _)).at' hx;have hR:=HREC.out x (List.mem_of_getElem? hx);unfold RTx at hR;have HR:=Lib.hid hR;have hJ:=yabu (sep:=[32]) (f:=f) n.kids k;have hJ2:=yabu (sep:=[32]) (f:=f) n.kids (k+1);have HNX:=Lib.hid (yac2 (sep:=[32]) (f:=f) hx);rw[HNX.out] at hJ2;have hF:=HF.out;obtain⟨J,hJq⟩:∃J,joinT [32] ((n.kids.take k).map f)=J:=⟨_,rfl⟩;rw[hJq] at hS hJ hJ2 HNX;have k2:(k:Int)<(kn:Int):=by omega
   have w1:IntKind.i64.wrap ((k:Int)+1)=(k:Int)+1:=IntWalk.i64_in _ (by have:=HKL.out;omega);by_cases h0:k=0
   ·rw[if_pos h0] at HNX hJ2
    rw[List.length_append,List.length_append] at hJ2;have e1:¬(0:Int)<(k:Int):=by omega
    have s1:=z86 J (f x) (by omega);rw[<-hS] at s1;obtain⟨S1,hS1⟩:∃S1,strOf (J++f x)=S1:=⟨_,rfl⟩;obtain⟨S0,hS0⟩:∃S0,strOf (f x)=S0:=⟨_,rfl⟩;rw[hS1,hS0] at s1;rw[hS0] at HR;have HS1:=Lib.hid (show S1=strOf (joinT [32] ((n.kids.take (k+1)).map f)) from by rw[HNX.out,<-hS1];rfl);clear hS hJ hJ2 hJq hS1 hS0 hx hR hF h0 hb hbw;go_wp2
    go_region_with (go_at_call 32;(with_reducible refine(HR.out _ (Below.drew HBW.out)).mono ?_);rintro e w3 ⟨rfl,hb⟩;have HB3:=Lib.hid ((Below.drew HBR.out).trans (hb.mono HBR.out.size));clear hb)
    all_goals
     go_wp2;go_roundw
     case rel=>first|exact⟨k+1,_,by omega,by go_num,rfl,HS1.out,HB3.out⟩|exact⟨k+1,_,by omega,by go_num,rfl,HS1.out,Below.drew HB3.out⟩
     case measure=>simp[intOf];omega
   ·rw[if_neg h0] at HNX hJ2
    rw[List.length_append,List.length_append,List.length_singleton] at hJ2;have e1:(0:Int)<(k:Int):=by omega
    have s1:=z86 J [32] (by rw[List.length_singleton];omega);have s2:=z86 (J++[32]) (f x) (by rw[List.length_append,List.length_singleton];omega);rw[<-hS,show strOf [32]=⟨#[32]⟩ from rfl] at s1;obtain⟨S1,hS1⟩:∃S1,strOf (J++[32])=S1:=⟨_,rfl⟩;obtain⟨S2,hS2⟩:∃S2,strOf (J++[32]++f x)=S2:=⟨_,rfl⟩;obtain⟨S0,hS0⟩:∃S0,strOf (f x)=S0:=⟨_,rfl⟩;rw[hS1] at s1 s2;rw[hS2,hS0] at s2;rw[hS0] at HR;have HS2:=Lib.hid (show S2=strOf (joinT [32] ((n.kids.take (k+1)).map f)) from by rw[HNX.out,<-hS2,List.append_assoc]);have HK0:=Lib.hid h0;clear hS hJ hJ2 hJq hS1 hS2 hS0 hx hR hF h0 hb hbw;go_wp2
    go_region_with (go_at_call 32;(with_reducible refine(HR.out _ (Below.drew HBW.out)).mono ?_);rintro e w3 ⟨rfl,hb⟩;have HB3:=Lib.hid ((Below.drew HBR.out).trans (hb.mono HBR.out.size));clear hb)
    all_goals
     go_wp2;go_roundw
     case rel=>first|exact⟨k+1,_,by omega,by go_num,rfl,HS2.out,HB3.out⟩|exact⟨k+1,_,by omega,by go_num,rfl,HS2.out,Below.drew HB3.out⟩
     case measure=>simp[intOf];omega
  ·obtain rfl:k=kn:=by omega
   have k2:¬(k:Int)<(k:Int):=by omega
   rw[List.take_of_length_le (by rw[HKN.out];exact Nat.le_refl _)] at hS;obtain⟨J,hJq⟩:∃J,joinT [32] (n.kids.map f)=J:=⟨_,rfl⟩;have hF:=HF.out;rw[hJq] at hS hF;have t1:=z86 [40] J (by rw[List.length_singleton];omega);have t2:=z86 ([40]++J) [41] (by rw[List.length_append,List.length_singleton,List.length_singleton];omega);rw[<-hS,show strOf [40]=⟨#[40]⟩ from rfl] at t1;obtain⟨S2,hS2⟩:∃S2,strOf ([40]++J)=S2:=⟨_,rfl⟩;obtain⟨S3,hS3⟩:∃S3,strOf ([40]++J++[41])=S3:=⟨_,rfl⟩;rw[hS2] at t1 t2;rw[hS3,show strOf [41]=⟨#[41]⟩ from rfl] at t2;have HE1:=Lib.hid (show S=strOf (parX false (joinT [32] (n.kids.map f))) from by rw[hJq];exact hS);have HE3:=Lib.hid (show S3=strOf (parX true (joinT [32] (n.kids.map f))) from by rw[hJq,<-hS3];rfl);clear hS hJq hS2 hS3 hF hb hbw;cases p with
   |false=>
    have q1:¬(1:Int)<=pl:=of_decide_eq_false HP.out;go_wp2;go_ret;exact⟨congrArg (fun s=>Ending.returned (.string s)) HE1.out,HBW.out⟩
   |true=>
    have q1:(1:Int)<=pl:=of_decide_eq_true HP.out;go_wp2;go_ret;exact⟨congrArg (fun s=>Ending.returned (.string s)) HE3.out,HBW.out⟩
end
section
open Go.RowKit
theorem yagf (rs:List PR)(ns:List PN)(ra na:Option Addr)(rn rc nn nc i:Nat)(pl:Int)(n:PN)(W:World)(hn:ns[i]?=some n)(hnn:nn=ns.length)(hN:NodesAt W (.slice na nn nc) ns)(hRR:RulesIn W (.slice ra rn rc) rs)(hop:n.op=5)(k0:Int)(hks:n.kids=[k0])(f:Int->List Nat)(hf:(f k0).length<=1000000)(hrec:∀W2,Below W.heap.size W W2->RTx (.agg #[.slice ra rn rc,.slice na nn nc]) k0 3 W2 (f k0))(p:Bool)(hp:decide (pl=3)=p):RTx (.agg #[.slice ra rn rc,.slice na nn nc]) i pl W (parX p (f k0++[42])):=by
 unfold RTx;have HRR:=Lib.hid hRR;clear hRR;have HREC:=Lib.hid hrec;have HKS:=Lib.hid hks;have HF:=Lib.hid hf;have HP:=Lib.hid hp;clear hrec hks hf hp;obtain⟨nb,no,rfl,kv,c0,c1,c2,c3,c4,c5,c6,hK,hkl⟩:=hN.nth hn;obtain⟨ka,kc,rfl,-⟩:∃ka kc,kv=.slice ka n.kids.length kc/\True:=by
  obtain⟨a,c,e,-⟩:=hK;exact⟨a,c,e,trivial⟩
 obtain⟨kn,hkn⟩:∃kn,n.kids.length=kn:=⟨_,rfl⟩;have hil:(i:Int)<(nn:Int):=by have:=(List.getElem?_eq_some_iff.1 hn).1;omega
 have hlt:=zai c0;rw[hkn] at c1 hK;have HKN:=Lib.hid hkn;have HKK:=Lib.hid hK;clear hnn hkn hkl hK;have HG:=Lib.hid (Bl.new W 25 #[.slice ra rn rc,.slice (some ⟨nb,no,none⟩) nn nc]);have hB1:=zaa W (.cells #[.slice ra rn rc,.slice (some ⟨nb,no,none⟩) nn nc] 25);have HB1:=Lib.hid hB1;rw[hop] at c0;go_enter Tryz.func32,Tryz.ntmps32
 go_upto_region 1 with fail
 obtain⟨W1,hW1⟩:∃W1,W.alloc (.cells #[.slice ra rn rc,.slice (some ⟨nb,no,none⟩) nn nc] 25)=W1:=⟨_,rfl⟩;rw[hW1] at HG HB1 hB1;rw[hW1];have hcc:=(bcell hB1).1;have d0:=(hcc nb (no+i*7) hlt).trans c0;have d1:=(hcc nb (no+i*7+1) hlt).trans c1;have d2:=(hcc nb (no+i*7+2) hlt).trans c2;have d3:=(hcc nb (no+i*7+3) hlt).trans c3;have d4:=(hcc nb (no+i*7+4) hlt).trans c4;have d5:=(hcc nb (no+i*7+5) hlt).trans c5;have d6:=(hcc nb (no+i*7+6) hlt).trans c6;have g0:=HG.out.cell (o:=0) (u:=.slice ra rn rc) rfl;have g1:=HG.out.cell (o:=1) (u:=.slice (some ⟨nb,no,none⟩) nn nc) rfl;have gl:=HG.out.lt;clear hcc c0 c1 c2 c3 c4 c5 c6 hW1
 go_upto_region 2 with fail
 have HX:=Lib.hid (Bl.new W1 54 #[.int .i64 5,.slice ka kn kc,.int .i64 n.rule,.int .u64 n.s0,.int .u64 n.s1,.int .u64 n.s2,.int .u64 n.s3]);have hn2:=zaa W1 (.cells #[.int .i64 5,.slice ka kn kc,.int .i64 n.rule,.int .u64 n.s0,.int .u64 n.s1,.int .u64 n.s2,.int .u64 n.s3] 54);have HG2:=Lib.hid (HG.out.below hn2);have HB2:=Lib.hid (HB1.out.trans (hn2.mono HB1.out.size));have HKK2:=Lib.hid ((HKK.out.kept HB1.out (Nat.le_refl _)).kept hn2 (Nat.le_refl _));have HR2:=Lib.hid ((HRR.out.kept HB1.out (Nat.le_refl _)).kept hn2 (Nat.le_refl _));obtain⟨W2,hW2⟩:∃W2,W1.alloc (.cells #[.int .i64 5,.slice ka kn kc,.int .i64 n.rule,.int .u64 n.s0,.int .u64 n.s1,.int .u64 n.s2,.int .u64 n.s3] 54)=W2:=⟨_,rfl⟩;obtain⟨B1,hB1q⟩:∃B1,W1.heap.size=B1:=⟨_,rfl⟩;obtain⟨B0,hB0q⟩:∃B0,W.heap.size=B0:=⟨_,rfl⟩;rw[hW2] at HX HG2 HB2 HKK2 HR2;rw[hB1q] at HX;rw[hB0q] at HG2;rw[hW2,hB1q,hB0q];clear hW2 hB1q hB0q hn2 d0 d1 d2 d3 d4 d5 d6 g0 g1 gl hB1 HB1 HG HKK;have x0:=HX.out.cell (o:=0) (u:=.int .i64 5) rfl;have x1:=HX.out.cell (o:=1) (u:=.slice ka kn kc) rfl;have x2:=HX.out.cell (o:=2) (u:=.int .i64 n.rule) rfl;have x3:=HX.out.cell (o:=3) (u:=.int .u64 n.s0) rfl;have x4:=HX.out.cell (o:=4) (u:=.int .u64 n.s1) rfl;have x5:=HX.out.cell (o:=5) (u:=.int .u64 n.s2) rfl;have x6:=HX.out.cell (o:=6) (u:=.int .u64 n.s3) rfl;have xl:=HX.out.lt;have y0:=HG2.out.cell (o:=0) (u:=.slice ra rn rc) rfl;have y1:=HG2.out.cell (o:=1) (u:=.slice (some ⟨nb,no,none⟩) nn nc) rfl;have yl:=HG2.out.lt;have hk1:kn=1:=by rw[<-HKN.out,HKS.out];rfl
 subst hk1;obtain⟨kb,ko,rfl,ck⟩:=HKK2.out.at' (i:=0) (x:=k0) (by rw[HKS.out];rfl);rw[Nat.add_zero] at ck;unfold RTx at HREC;have s1:=z86 (f k0) [42] (by have:=HF.out;simp;omega);have e1:strOf [42]=⟨#[42]⟩:=rfl;rw[e1] at s1;obtain⟨S0,hS0⟩:∃S0,strOf (f k0)=S0:=⟨_,rfl⟩;obtain⟨S1,hS1⟩:∃S1,strOf (f k0++[42])=S1:=⟨_,rfl⟩;have t1:=z86 [40] (f k0++[42]) (by have:=HF.out;simp;omega);have t2:=z86 ([40]++(f k0++[42])) [41] (by have:=HF.out;simp;omega);rw[show strOf [40]=⟨#[40]⟩ from rfl,show strOf (f k0++[42])=S1 from hS1] at t1;rw[show strOf [41]=⟨#[41]⟩ from rfl] at t2;obtain⟨S2,hS2⟩:∃S2,strOf ([40]++(f k0++[42]))=S2:=⟨_,rfl⟩;obtain⟨S3,hS3⟩:∃S3,strOf ([40]++(f k0++[42])++[41])=S3:=⟨_,rfl⟩;rw[hS2] at t1 t2;rw[hS3] at t2;rw[hS0] at s1 HREC;replace s1:∀w,(Op.stringOp .add S0 ⟨#[42]⟩).run Tryz.prog w=.ok (.string S1) w:=fun w=>by rw[<-hS1];exact s1 w
 have HS1:=Lib.hid hS1;have HS3:=Lib.hid hS3;clear hS0 hS1 hS2 hS3 e1;cases p with
 |false=>
  have q1:(pl == 3)=false:=by have:=of_decide_eq_false HP.out;rw[beq_eq_false_iff_ne];omega
  go_upto_region 30 with fail
  go_region_with (go_at_call 32;(with_reducible refine(HREC.out _ (Below.drew HB2.out)).mono ?_);rintro e w3 ⟨rfl,hb⟩;have HB3:=Lib.hid ((Below.drew HB2.out).trans (hb.mono HB2.out.size));clear hb)
  all_goals
   go_wp2;go_ret
   first|exact⟨congrArg (fun s=>Ending.returned (.string s)) HS1.out.symm,HB3.out⟩|exact⟨congrArg (fun s=>Ending.returned (.string s)) HS1.out.symm,Below.drew HB3.out⟩
 |true=>
  have q1:(pl == 3)=true:=by have:=of_decide_eq_true HP.out;rw[this];rfl
  go_upto_region 30 with fail
  go_region_with (go_at_call 32;(with_reducible refine(HREC.out _ (Below.drew HB2.out)).mono ?_);rintro e w3 ⟨rfl,hb⟩;have HB3:=Lib.hid ((Below.drew HB2.out).trans (hb.mono HB2.out.size));clear hb)
  all_goals
   go_wp2;go_ret
   first|exact⟨congrArg (fun s=>Ending.returned (.string s)) HS3.out.symm,HB3.out⟩|exact⟨congrArg (fun s=>Ending.returned (.string s)) HS3.out.symm,Below.drew HB3.out⟩
theorem yagg (rs:List PR)(ns:List PN)(ra na:Option Addr)(rn rc nn nc i:Nat)(pl:Int)(n:PN)(W:World)(hn:ns[i]?=some n)(hnn:nn=ns.length)(hN:NodesAt W (.slice na nn nc) ns)(hRR:RulesIn W (.slice ra rn rc) rs)(hop:n.op=6)(k0:Int)(hks:n.kids=[k0])(f:Int->List Nat)(hf:(f k0).length<=1000000)(hrec:∀W2,Below W.heap.size W W2->RTx (.agg #[.slice ra rn rc,.slice na nn nc]) k0 3 W2 (f k0))(p:Bool)(hp:decide (pl=3)=p):RTx (.agg #[.slice ra rn rc,.slice na nn nc]) i pl W (parX p (f k0++[43])):=by
 unfold RTx;have HRR:=Lib.hid hRR;clear hRR;have HREC:=Lib.hid hrec;have HKS:=Lib.hid hks;have HF:=Lib.hid hf;have HP:=Lib.hid hp;clear hrec hks hf hp;obtain⟨nb,no,rfl,kv,c0,c1,c2,c3,c4,c5,c6,hK,hkl⟩:=hN.nth hn;obtain⟨ka,kc,rfl,-⟩:∃ka kc,kv=.slice ka n.kids.length kc/\True:=by
  obtain⟨a,c,e,-⟩:=hK;exact⟨a,c,e,trivial⟩
 obtain⟨kn,hkn⟩:∃kn,n.kids.length=kn:=⟨_,rfl⟩;have hil:(i:Int)<(nn:Int):=by have:=(List.getElem?_eq_some_iff.1 hn).1;omega
 have hlt:=zai c0;rw[hkn] at c1 hK;have HKN:=Lib.hid hkn;have HKK:=Lib.hid hK;clear hnn hkn hkl hK;have HG:=Lib.hid (Bl.new W 25 #[.slice ra rn rc,.slice (some ⟨nb,no,none⟩) nn nc]);have hB1:=zaa W (.cells #[.slice ra rn rc,.slice (some ⟨nb,no,none⟩) nn nc] 25);have HB1:=Lib.hid hB1;rw[hop] at c0;go_enter Tryz.func32,Tryz.ntmps32
 go_upto_region 1 with fail
 obtain⟨W1,hW1⟩:∃W1,W.alloc (.cells #[.slice ra rn rc,.slice (some ⟨nb,no,none⟩) nn nc] 25)=W1:=⟨_,rfl⟩;rw[hW1] at HG HB1 hB1;rw[hW1];have hcc:=(bcell hB1).1;have d0:=(hcc nb (no+i*7) hlt).trans c0;have d1:=(hcc nb (no+i*7+1) hlt).trans c1;have d2:=(hcc nb (no+i*7+2) hlt).trans c2;have d3:=(hcc nb (no+i*7+3) hlt).trans c3;have d4:=(hcc nb (no+i*7+4) hlt).trans c4;have d5:=(hcc nb (no+i*7+5) hlt).trans c5;have d6:=(hcc nb (no+i*7+6) hlt).trans c6;have g0:=HG.out.cell (o:=0) (u:=.slice ra rn rc) rfl;have g1:=HG.out.cell (o:=1) (u:=.slice (some ⟨nb,no,none⟩) nn nc) rfl;have gl:=HG.out.lt;clear hcc c0 c1 c2 c3 c4 c5 c6 hW1
 go_upto_region 2 with fail
 have HX:=Lib.hid (Bl.new W1 54 #[.int .i64 6,.slice ka kn kc,.int .i64 n.rule,.int .u64 n.s0,.int .u64 n.s1,.int .u64 n.s2,.int .u64 n.s3]);have hn2:=zaa W1 (.cells #[.int .i64 6,.slice ka kn kc,.int .i64 n.rule,.int .u64 n.s0,.int .u64 n.s1,.int .u64 n.s2,.int .u64 n.s3] 54);have HG2:=Lib.hid (HG.out.below hn2);have HB2:=Lib.hid (HB1.out.trans (hn2.mono HB1.out.size));have HKK2:=Lib.hid ((HKK.out.kept HB1.out (Nat.le_refl _)).kept hn2 (Nat.le_refl _));have HR2:=Lib.hid ((HRR.out.kept HB1.out (Nat.le_refl _)).kept hn2 (Nat.le_refl _));obtain⟨W2,hW2⟩:∃W2,W1.alloc (.cells #[.int .i64 6,.slice ka kn kc,.int .i64 n.rule,.int .u64 n.s0,.int .u64 n.s1,.int .u64 n.s2,.int .u64 n.s3] 54)=W2:=⟨_,rfl⟩;obtain⟨B1,hB1q⟩:∃B1,W1.heap.size=B1:=⟨_,rfl⟩;obtain⟨B0,hB0q⟩:∃B0,W.heap.size=B0:=⟨_,rfl⟩;rw[hW2] at HX HG2 HB2 HKK2 HR2;rw[hB1q] at HX;rw[hB0q] at HG2;rw[hW2,hB1q,hB0q];clear hW2 hB1q hB0q hn2 d0 d1 d2 d3 d4 d5 d6 g0 g1 gl hB1 HB1 HG HKK;have x0:=HX.out.cell (o:=0) (u:=.int .i64 6) rfl;have x1:=HX.out.cell (o:=1) (u:=.slice ka kn kc) rfl;have x2:=HX.out.cell (o:=2) (u:=.int .i64 n.rule) rfl;have x3:=HX.out.cell (o:=3) (u:=.int .u64 n.s0) rfl;have x4:=HX.out.cell (o:=4) (u:=.int .u64 n.s1) rfl;have x5:=HX.out.cell (o:=5) (u:=.int .u64 n.s2) rfl;have x6:=HX.out.cell (o:=6) (u:=.int .u64 n.s3) rfl;have xl:=HX.out.lt;have y0:=HG2.out.cell (o:=0) (u:=.slice ra rn rc) rfl;have y1:=HG2.out.cell (o:=1) (u:=.slice (some ⟨nb,no,none⟩) nn nc) rfl;have yl:=HG2.out.lt;have hk1:kn=1:=by rw[<-HKN.out,HKS.out];rfl
 subst hk1;obtain⟨kb,ko,rfl,ck⟩:=HKK2.out.at' (i:=0) (x:=k0) (by rw[HKS.out];rfl);rw[Nat.add_zero] at ck;unfold RTx at HREC;have s1:=z86 (f k0) [43] (by have:=HF.out;simp;omega);have e1:strOf [43]=⟨#[43]⟩:=rfl;rw[e1] at s1;obtain⟨S0,hS0⟩:∃S0,strOf (f k0)=S0:=⟨_,rfl⟩;obtain⟨S1,hS1⟩:∃S1,strOf (f k0++[43])=S1:=⟨_,rfl⟩;have t1:=z86 [40] (f k0++[43]) (by have:=HF.out;simp;omega);have t2:=z86 ([40]++(f k0++[43])) [41] (by have:=HF.out;simp;omega);rw[show strOf [40]=⟨#[40]⟩ from rfl,show strOf (f k0++[43])=S1 from hS1] at t1;rw[show strOf [41]=⟨#[41]⟩ from rfl] at t2;obtain⟨S2,hS2⟩:∃S2,strOf ([40]++(f k0++[43]))=S2:=⟨_,rfl⟩;obtain⟨S3,hS3⟩:∃S3,strOf ([40]++(f k0++[43])++[41])=S3:=⟨_,rfl⟩;rw[hS2] at t1 t2;rw[hS3] at t2;rw[hS0] at s1 HREC;replace s1:∀w,(Op.stringOp .add S0 ⟨#[43]⟩).run Tryz.prog w=.ok (.string S1) w:=fun w=>by rw[<-hS1];exact s1 w
 have HS1:=Lib.hid hS1;have HS3:=Lib.hid hS3;clear hS0 hS1 hS2 hS3 e1;cases p with
 |false=>
  have q1:(pl == 3)=false:=by have:=of_decide_eq_false HP.out;rw[beq_eq_false_iff_ne];omega
  go_upto_region 33 with fail
  go_region_with (go_at_call 32;(with_reducible refine(HREC.out _ (Below.drew HB2.out)).mono ?_);rintro e w3 ⟨rfl,hb⟩;have HB3:=Lib.hid ((Below.drew HB2.out).trans (hb.mono HB2.out.size));clear hb)
  all_goals
   go_wp2;go_ret
   first|exact⟨congrArg (fun s=>Ending.returned (.string s)) HS1.out.symm,HB3.out⟩|exact⟨congrArg (fun s=>Ending.returned (.string s)) HS1.out.symm,Below.drew HB3.out⟩
 |true=>
  have q1:(pl == 3)=true:=by have:=of_decide_eq_true HP.out;rw[this];rfl
  go_upto_region 33 with fail
  go_region_with (go_at_call 32;(with_reducible refine(HREC.out _ (Below.drew HB2.out)).mono ?_);rintro e w3 ⟨rfl,hb⟩;have HB3:=Lib.hid ((Below.drew HB2.out).trans (hb.mono HB2.out.size));clear hb)
  all_goals
   go_wp2;go_ret
   first|exact⟨congrArg (fun s=>Ending.returned (.string s)) HS3.out.symm,HB3.out⟩|exact⟨congrArg (fun s=>Ending.returned (.string s)) HS3.out.symm,Below.drew HB3.out⟩
end
section
open Go.RowKit
theorem yah4 (rs:List PR)(ns:List PN)(ra na:Option Addr)(rn rc nn nc i:Nat)(pl:Int)(n:PN)(W:World)(hn:ns[i]?=some n)(hnn:nn=ns.length)(hN:NodesAt W (.slice na nn nc) ns)(hRR:RulesIn W (.slice ra rn rc) rs)(hop:n.op=7)(k0:Int)(hks:n.kids=[k0])(f:Int->List Nat)(hf:(f k0).length<=1000000)(hrec:∀W2,Below W.heap.size W W2->RTx (.agg #[.slice ra rn rc,.slice na nn nc]) k0 3 W2 (f k0))(p:Bool)(hp:decide (pl=3)=p):RTx (.agg #[.slice ra rn rc,.slice na nn nc]) i pl W (parX p (f k0++[63])):=by
 unfold RTx;have HRR:=Lib.hid hRR;clear hRR;have HREC:=Lib.hid hrec;have HKS:=Lib.hid hks;have HF:=Lib.hid hf;have HP:=Lib.hid hp;clear hrec hks hf hp;obtain⟨nb,no,rfl,kv,c0,c1,c2,c3,c4,c5,c6,hK,hkl⟩:=hN.nth hn;obtain⟨ka,kc,rfl,-⟩:∃ka kc,kv=.slice ka n.kids.length kc/\True:=by
  obtain⟨a,c,e,-⟩:=hK;exact⟨a,c,e,trivial⟩
 obtain⟨kn,hkn⟩:∃kn,n.kids.length=kn:=⟨_,rfl⟩;have hil:(i:Int)<(nn:Int):=by have:=(List.getElem?_eq_some_iff.1 hn).1;omega
 have hlt:=zai c0;rw[hkn] at c1 hK;have HKN:=Lib.hid hkn;have HKK:=Lib.hid hK;clear hnn hkn hkl hK;have HG:=Lib.hid (Bl.new W 25 #[.slice ra rn rc,.slice (some ⟨nb,no,none⟩) nn nc]);have hB1:=zaa W (.cells #[.slice ra rn rc,.slice (some ⟨nb,no,none⟩) nn nc] 25);have HB1:=Lib.hid hB1;rw[hop] at c0;go_enter Tryz.func32,Tryz.ntmps32
 go_upto_region 1 with fail
 obtain⟨W1,hW1⟩:∃W1,W.alloc (.cells #[.slice ra rn rc,.slice (some ⟨nb,no,none⟩) nn nc] 25)=W1:=⟨_,rfl⟩;rw[hW1] at HG HB1 hB1;rw[hW1];have hcc:=(bcell hB1).1;have d0:=(hcc nb (no+i*7) hlt).trans c0;have d1:=(hcc nb (no+i*7+1) hlt).trans c1;have d2:=(hcc nb (no+i*7+2) hlt).trans c2;have d3:=(hcc nb (no+i*7+3) hlt).trans c3;have d4:=(hcc nb (no+i*7+4) hlt).trans c4;have d5:=(hcc nb (no+i*7+5) hlt).trans c5;have d6:=(hcc nb (no+i*7+6) hlt).trans c6;have g0:=HG.out.cell (o:=0) (u:=.slice ra rn rc) rfl;have g1:=HG.out.cell (o:=1) (u:=.slice (some ⟨nb,no,none⟩) nn nc) rfl;have gl:=HG.out.lt;clear hcc c0 c1 c2 c3 c4 c5 c6 hW1
 go_upto_region 2 with fail
 have HX:=Lib.hid (Bl.new W1 54 #[.int .i64 7,.slice ka kn kc,.int .i64 n.rule,.int .u64 n.s0,.int .u64 n.s1,.int .u64 n.s2,.int .u64 n.s3]);have hn2:=zaa W1 (.cells #[.int .i64 7,.slice ka kn kc,.int .i64 n.rule,.int .u64 n.s0,.int .u64 n.s1,.int .u64 n.s2,.int .u64 n.s3] 54);have HG2:=Lib.hid (HG.out.below hn2);have HB2:=Lib.hid (HB1.out.trans (hn2.mono HB1.out.size));have HKK2:=Lib.hid ((HKK.out.kept HB1.out (Nat.le_refl _)).kept hn2 (Nat.le_refl _));have HR2:=Lib.hid ((HRR.out.kept HB1.out (Nat.le_refl _)).kept hn2 (Nat.le_refl _));obtain⟨W2,hW2⟩:∃W2,W1.alloc (.cells #[.int .i64 7,.slice ka kn kc,.int .i64 n.rule,.int .u64 n.s0,.int .u64 n.s1,.int .u64 n.s2,.int .u64 n.s3] 54)=W2:=⟨_,rfl⟩;obtain⟨B1,hB1q⟩:∃B1,W1.heap.size=B1:=⟨_,rfl⟩;obtain⟨B0,hB0q⟩:∃B0,W.heap.size=B0:=⟨_,rfl⟩;rw[hW2] at HX HG2 HB2 HKK2 HR2;rw[hB1q] at HX;rw[hB0q] at HG2;rw[hW2,hB1q,hB0q];clear hW2 hB1q hB0q hn2 d0 d1 d2 d3 d4 d5 d6 g0 g1 gl hB1 HB1 HG HKK;have x0:=HX.out.cell (o:=0) (u:=.int .i64 7) rfl;have x1:=HX.out.cell (o:=1) (u:=.slice ka kn kc) rfl;have x2:=HX.out.cell (o:=2) (u:=.int .i64 n.rule) rfl;have x3:=HX.out.cell (o:=3) (u:=.int .u64 n.s0) rfl;have x4:=HX.out.cell (o:=4) (u:=.int .u64 n.s1) rfl;have x5:=HX.out.cell (o:=5) (u:=.int .u64 n.s2) rfl;have x6:=HX.out.cell (o:=6) (u:=.int .u64 n.s3) rfl;have xl:=HX.out.lt;have y0:=HG2.out.cell (o:=0) (u:=.slice ra rn rc) rfl;have y1:=HG2.out.cell (o:=1) (u:=.slice (some ⟨nb,no,none⟩) nn nc) rfl;have yl:=HG2.out.lt;have hk1:kn=1:=by rw[<-HKN.out,HKS.out];rfl
 subst hk1;obtain⟨kb,ko,rfl,ck⟩:=HKK2.out.at' (i:=0) (x:=k0) (by rw[HKS.out];rfl);rw[Nat.add_zero] at ck;unfold RTx at HREC;have s1:=z86 (f k0) [63] (by have:=HF.out;simp;omega);have e1:strOf [63]=⟨#[63]⟩:=rfl;rw[e1] at s1;obtain⟨S0,hS0⟩:∃S0,strOf (f k0)=S0:=⟨_,rfl⟩;obtain⟨S1,hS1⟩:∃S1,strOf (f k0++[63])=S1:=⟨_,rfl⟩;have t1:=z86 [40] (f k0++[63]) (by have:=HF.out;simp;omega);have t2:=z86 ([40]++(f k0++[63])) [41] (by have:=HF.out;simp;omega);rw[show strOf [40]=⟨#[40]⟩ from rfl,show strOf (f k0++[63])=S1 from hS1] at t1;rw[show strOf [41]=⟨#[41]⟩ from rfl] at t2;obtain⟨S2,hS2⟩:∃S2,strOf ([40]++(f k0++[63]))=S2:=⟨_,rfl⟩;obtain⟨S3,hS3⟩:∃S3,strOf ([40]++(f k0++[63])++[41])=S3:=⟨_,rfl⟩;rw[hS2] at t1 t2;rw[hS3] at t2;rw[hS0] at s1 HREC;replace s1:∀w,(Op.stringOp .add S0 ⟨#[63]⟩).run Tryz.prog w=.ok (.string S1) w:=fun w=>by rw[<-hS1];exact s1 w
 have HS1:=Lib.hid hS1;have HS3:=Lib.hid hS3;clear hS0 hS1 hS2 hS3 e1;cases p with
 |false=>
  have q1:(pl == 3)=false:=by have:=of_decide_eq_false HP.out;rw[beq_eq_false_iff_ne];omega
  go_upto_region 36 with fail
  go_region_with (go_at_call 32;(with_reducible refine(HREC.out _ (Below.drew HB2.out)).mono ?_);rintro e w3 ⟨rfl,hb⟩;have HB3:=Lib.hid ((Below.drew HB2.out).trans (hb.mono HB2.out.size));clear hb)
  all_goals
   go_wp2;go_ret
   first|exact⟨congrArg (fun s=>Ending.returned (.string s)) HS1.out.symm,HB3.out⟩|exact⟨congrArg (fun s=>Ending.returned (.string s)) HS1.out.symm,Below.drew HB3.out⟩
 |true=>
  have q1:(pl == 3)=true:=by have:=of_decide_eq_true HP.out;rw[this];rfl
  go_upto_region 36 with fail
  go_region_with (go_at_call 32;(with_reducible refine(HREC.out _ (Below.drew HB2.out)).mono ?_);rintro e w3 ⟨rfl,hb⟩;have HB3:=Lib.hid ((Below.drew HB2.out).trans (hb.mono HB2.out.size));clear hb)
  all_goals
   go_wp2;go_ret
   first|exact⟨congrArg (fun s=>Ending.returned (.string s)) HS3.out.symm,HB3.out⟩|exact⟨congrArg (fun s=>Ending.returned (.string s)) HS3.out.symm,Below.drew HB3.out⟩
end
section
open Go.RowKit
theorem yah5 (rs:List PR)(ns:List PN)(ra na:Option Addr)(rn rc nn nc i:Nat)(pl:Int)(n:PN)(W:World)(hn:ns[i]?=some n)(hnn:nn=ns.length)(hN:NodesAt W (.slice na nn nc) ns)(hRR:RulesIn W (.slice ra rn rc) rs)(hop:n.op=8)(k0:Int)(hks:n.kids=[k0])(f:Int->List Nat)(hf:(f k0).length<=1000000)(hrec:∀W2,Below W.heap.size W W2->RTx (.agg #[.slice ra rn rc,.slice na nn nc]) k0 2 W2 (f k0))(p:Bool)(hp:decide (2<=pl)=p):RTx (.agg #[.slice ra rn rc,.slice na nn nc]) i pl W (parX p (38::f k0)):=by
 unfold RTx;have HRR:=Lib.hid hRR;clear hRR;have HREC:=Lib.hid hrec;have HKS:=Lib.hid hks;have HF:=Lib.hid hf;have HP:=Lib.hid hp;clear hrec hks hf hp;obtain⟨nb,no,rfl,kv,c0,c1,c2,c3,c4,c5,c6,hK,hkl⟩:=hN.nth hn;obtain⟨ka,kc,rfl,-⟩:∃ka kc,kv=.slice ka n.kids.length kc/\True:=by
  obtain⟨a,c,e,-⟩:=hK;exact⟨a,c,e,trivial⟩
 obtain⟨kn,hkn⟩:∃kn,n.kids.length=kn:=⟨_,rfl⟩;have hil:(i:Int)<(nn:Int):=by have:=(List.getElem?_eq_some_iff.1 hn).1;omega
 have hlt:=zai c0;rw[hkn] at c1 hK;have HKN:=Lib.hid hkn;have HKK:=Lib.hid hK;clear hnn hkn hkl hK;have HG:=Lib.hid (Bl.new W 25 #[.slice ra rn rc,.slice (some ⟨nb,no,none⟩) nn nc]);have hB1:=zaa W (.cells #[.slice ra rn rc,.slice (some ⟨nb,no,none⟩) nn nc] 25);have HB1:=Lib.hid hB1;rw[hop] at c0;go_enter Tryz.func32,Tryz.ntmps32
 go_upto_region 1 with fail
 obtain⟨W1,hW1⟩:∃W1,W.alloc (.cells #[.slice ra rn rc,.slice (some ⟨nb,no,none⟩) nn nc] 25)=W1:=⟨_,rfl⟩;rw[hW1] at HG HB1 hB1;rw[hW1];have hcc:=(bcell hB1).1;have d0:=(hcc nb (no+i*7) hlt).trans c0;have d1:=(hcc nb (no+i*7+1) hlt).trans c1;have d2:=(hcc nb (no+i*7+2) hlt).trans c2;have d3:=(hcc nb (no+i*7+3) hlt).trans c3;have d4:=(hcc nb (no+i*7+4) hlt).trans c4;have d5:=(hcc nb (no+i*7+5) hlt).trans c5;have d6:=(hcc nb (no+i*7+6) hlt).trans c6;have g0:=HG.out.cell (o:=0) (u:=.slice ra rn rc) rfl;have g1:=HG.out.cell (o:=1) (u:=.slice (some ⟨nb,no,none⟩) nn nc) rfl;have gl:=HG.out.lt;clear hcc c0 c1 c2 c3 c4 c5 c6 hW1
 go_upto_region 2 with fail
 have HX:=Lib.hid (Bl.new W1 54 #[.int .i64 8,.slice ka kn kc,.int .i64 n.rule,.int .u64 n.s0,.int .u64 n.s1,.int .u64 n.s2,.int .u64 n.s3]);have hn2:=zaa W1 (.cells #[.int .i64 8,.slice ka kn kc,.int .i64 n.rule,.int .u64 n.s0,.int .u64 n.s1,.int .u64 n.s2,.int .u64 n.s3] 54);have HG2:=Lib.hid (HG.out.below hn2);have HB2:=Lib.hid (HB1.out.trans (hn2.mono HB1.out.size));have HKK2:=Lib.hid ((HKK.out.kept HB1.out (Nat.le_refl _)).kept hn2 (Nat.le_refl _));have HR2:=Lib.hid ((HRR.out.kept HB1.out (Nat.le_refl _)).kept hn2 (Nat.le_refl _));obtain⟨W2,hW2⟩:∃W2,W1.alloc (.cells #[.int .i64 8,.slice ka kn kc,.int .i64 n.rule,.int .u64 n.s0,.int .u64 n.s1,.int .u64 n.s2,.int .u64 n.s3] 54)=W2:=⟨_,rfl⟩;obtain⟨B1,hB1q⟩:∃B1,W1.heap.size=B1:=⟨_,rfl⟩;obtain⟨B0,hB0q⟩:∃B0,W.heap.size=B0:=⟨_,rfl⟩;rw[hW2] at HX HG2 HB2 HKK2 HR2;rw[hB1q] at HX;rw[hB0q] at HG2;rw[hW2,hB1q,hB0q];clear hW2 hB1q hB0q hn2 d0 d1 d2 d3 d4 d5 d6 g0 g1 gl hB1 HB1 HG HKK;have x0:=HX.out.cell (o:=0) (u:=.int .i64 8) rfl;have x1:=HX.out.cell (o:=1) (u:=.slice ka kn kc) rfl;have x2:=HX.out.cell (o:=2) (u:=.int .i64 n.rule) rfl;have x3:=HX.out.cell (o:=3) (u:=.int .u64 n.s0) rfl;have x4:=HX.out.cell (o:=4) (u:=.int .u64 n.s1) rfl;have x5:=HX.out.cell (o:=5) (u:=.int .u64 n.s2) rfl;have x6:=HX.out.cell (o:=6) (u:=.int .u64 n.s3) rfl;have xl:=HX.out.lt;have y0:=HG2.out.cell (o:=0) (u:=.slice ra rn rc) rfl;have y1:=HG2.out.cell (o:=1) (u:=.slice (some ⟨nb,no,none⟩) nn nc) rfl;have yl:=HG2.out.lt;have hk1:kn=1:=by rw[<-HKN.out,HKS.out];rfl
 subst hk1;obtain⟨kb,ko,rfl,ck⟩:=HKK2.out.at' (i:=0) (x:=k0) (by rw[HKS.out];rfl);rw[Nat.add_zero] at ck;unfold RTx at HREC;have s1:=z86 [38] (f k0) (by have:=HF.out;simp;omega);have e1:strOf [38]=⟨#[38]⟩:=rfl;rw[e1] at s1;obtain⟨S0,hS0⟩:∃S0,strOf (f k0)=S0:=⟨_,rfl⟩;obtain⟨S1,hS1⟩:∃S1,strOf (38::f k0)=S1:=⟨_,rfl⟩;have t1:=z86 [40] (38::f k0) (by have:=HF.out;simp;omega);have t2:=z86 ([40]++(38::f k0)) [41] (by have:=HF.out;simp;omega);rw[show strOf [40]=⟨#[40]⟩ from rfl,show strOf (38::f k0)=S1 from hS1] at t1;rw[show strOf [41]=⟨#[41]⟩ from rfl] at t2;obtain⟨S2,hS2⟩:∃S2,strOf ([40]++(38::f k0))=S2:=⟨_,rfl⟩;obtain⟨S3,hS3⟩:∃S3,strOf ([40]++(38::f k0)++[41])=S3:=⟨_,rfl⟩;rw[hS2] at t1 t2;rw[hS3] at t2;rw[hS0] at s1 HREC;replace s1:∀w,(Op.stringOp .add ⟨#[38]⟩ S0).run Tryz.prog w=.ok (.string S1) w:=fun w=>by rw[<-hS1];exact s1 w
 have HS1:=Lib.hid hS1;have HS3:=Lib.hid hS3;clear hS0 hS1 hS2 hS3 e1;cases p with
 |false=>
  have q1:¬(2:Int)<=pl:=by have:=of_decide_eq_false HP.out;omega
  go_upto_region 39 with fail
  go_region_with (go_at_call 32;(with_reducible refine(HREC.out _ (Below.drew HB2.out)).mono ?_);rintro e w3 ⟨rfl,hb⟩;have HB3:=Lib.hid ((Below.drew HB2.out).trans (hb.mono HB2.out.size));clear hb)
  all_goals
   go_wp2;go_ret
   first|exact⟨congrArg (fun s=>Ending.returned (.string s)) HS1.out.symm,HB3.out⟩|exact⟨congrArg (fun s=>Ending.returned (.string s)) HS1.out.symm,Below.drew HB3.out⟩
 |true=>
  have q1:(2:Int)<=pl:=by have:=of_decide_eq_true HP.out;omega
  go_upto_region 39 with fail
  go_region_with (go_at_call 32;(with_reducible refine(HREC.out _ (Below.drew HB2.out)).mono ?_);rintro e w3 ⟨rfl,hb⟩;have HB3:=Lib.hid ((Below.drew HB2.out).trans (hb.mono HB2.out.size));clear hb)
  all_goals
   go_wp2;go_ret
   first|exact⟨congrArg (fun s=>Ending.returned (.string s)) HS3.out.symm,HB3.out⟩|exact⟨congrArg (fun s=>Ending.returned (.string s)) HS3.out.symm,Below.drew HB3.out⟩
theorem yah6 (rs:List PR)(ns:List PN)(ra na:Option Addr)(rn rc nn nc i:Nat)(pl:Int)(n:PN)(W:World)(hn:ns[i]?=some n)(hnn:nn=ns.length)(hN:NodesAt W (.slice na nn nc) ns)(hRR:RulesIn W (.slice ra rn rc) rs)(hop:n.op=9)(k0:Int)(hks:n.kids=[k0])(f:Int->List Nat)(hf:(f k0).length<=1000000)(hrec:∀W2,Below W.heap.size W W2->RTx (.agg #[.slice ra rn rc,.slice na nn nc]) k0 2 W2 (f k0))(p:Bool)(hp:decide (2<=pl)=p):RTx (.agg #[.slice ra rn rc,.slice na nn nc]) i pl W (parX p (33::f k0)):=by
 unfold RTx;have HRR:=Lib.hid hRR;clear hRR;have HREC:=Lib.hid hrec;have HKS:=Lib.hid hks;have HF:=Lib.hid hf;have HP:=Lib.hid hp;clear hrec hks hf hp;obtain⟨nb,no,rfl,kv,c0,c1,c2,c3,c4,c5,c6,hK,hkl⟩:=hN.nth hn;obtain⟨ka,kc,rfl,-⟩:∃ka kc,kv=.slice ka n.kids.length kc/\True:=by
  obtain⟨a,c,e,-⟩:=hK;exact⟨a,c,e,trivial⟩
 obtain⟨kn,hkn⟩:∃kn,n.kids.length=kn:=⟨_,rfl⟩;have hil:(i:Int)<(nn:Int):=by have:=(List.getElem?_eq_some_iff.1 hn).1;omega
 have hlt:=zai c0;rw[hkn] at c1 hK;have HKN:=Lib.hid hkn;have HKK:=Lib.hid hK;clear hnn hkn hkl hK;have HG:=Lib.hid (Bl.new W 25 #[.slice ra rn rc,.slice (some ⟨nb,no,none⟩) nn nc]);have hB1:=zaa W (.cells #[.slice ra rn rc,.slice (some ⟨nb,no,none⟩) nn nc] 25);have HB1:=Lib.hid hB1;rw[hop] at c0;go_enter Tryz.func32,Tryz.ntmps32
 go_upto_region 1 with fail
 obtain⟨W1,hW1⟩:∃W1,W.alloc (.cells #[.slice ra rn rc,.slice (some ⟨nb,no,none⟩) nn nc] 25)=W1:=⟨_,rfl⟩;rw[hW1] at HG HB1 hB1;rw[hW1];have hcc:=(bcell hB1).1;have d0:=(hcc nb (no+i*7) hlt).trans c0;have d1:=(hcc nb (no+i*7+1) hlt).trans c1;have d2:=(hcc nb (no+i*7+2) hlt).trans c2;have d3:=(hcc nb (no+i*7+3) hlt).trans c3;have d4:=(hcc nb (no+i*7+4) hlt).trans c4;have d5:=(hcc nb (no+i*7+5) hlt).trans c5;have d6:=(hcc nb (no+i*7+6) hlt).trans c6;have g0:=HG.out.cell (o:=0) (u:=.slice ra rn rc) rfl;have g1:=HG.out.cell (o:=1) (u:=.slice (some ⟨nb,no,none⟩) nn nc) rfl;have gl:=HG.out.lt;clear hcc c0 c1 c2 c3 c4 c5 c6 hW1
 go_upto_region 2 with fail
 have HX:=Lib.hid (Bl.new W1 54 #[.int .i64 9,.slice ka kn kc,.int .i64 n.rule,.int .u64 n.s0,.int .u64 n.s1,.int .u64 n.s2,.int .u64 n.s3]);have hn2:=zaa W1 (.cells #[.int .i64 9,.slice ka kn kc,.int .i64 n.rule,.int .u64 n.s0,.int .u64 n.s1,.int .u64 n.s2,.int .u64 n.s3] 54);have HG2:=Lib.hid (HG.out.below hn2);have HB2:=Lib.hid (HB1.out.trans (hn2.mono HB1.out.size));have HKK2:=Lib.hid ((HKK.out.kept HB1.out (Nat.le_refl _)).kept hn2 (Nat.le_refl _));have HR2:=Lib.hid ((HRR.out.kept HB1.out (Nat.le_refl _)).kept hn2 (Nat.le_refl _));obtain⟨W2,hW2⟩:∃W2,W1.alloc (.cells #[.int .i64 9,.slice ka kn kc,.int .i64 n.rule,.int .u64 n.s0,.int .u64 n.s1,.int .u64 n.s2,.int .u64 n.s3] 54)=W2:=⟨_,rfl⟩;obtain⟨B1,hB1q⟩:∃B1,W1.heap.size=B1:=⟨_,rfl⟩;obtain⟨B0,hB0q⟩:∃B0,W.heap.size=B0:=⟨_,rfl⟩;rw[hW2] at HX HG2 HB2 HKK2 HR2;rw[hB1q] at HX;rw[hB0q] at HG2;rw[hW2,hB1q,hB0q];clear hW2 hB1q hB0q hn2 d0 d1 d2 d3 d4 d5 d6 g0 g1 gl hB1 HB1 HG HKK;have x0:=HX.out.cell (o:=0) (u:=.int .i64 9) rfl;have x1:=HX.out.cell (o:=1) (u:=.slice ka kn kc) rfl;have x2:=HX.out.cell (o:=2) (u:=.int .i64 n.rule) rfl;have x3:=HX.out.cell (o:=3) (u:=.int .u64 n.s0) rfl;have x4:=HX.out.cell (o:=4) (u:=.int .u64 n.s1) rfl;have x5:=HX.out.cell (o:=5) (u:=.int .u64 n.s2) rfl;have x6:=HX.out.cell (o:=6) (u:=.int .u64 n.s3) rfl;have xl:=HX.out.lt;have y0:=HG2.out.cell (o:=0) (u:=.slice ra rn rc) rfl;have y1:=HG2.out.cell (o:=1) (u:=.slice (some ⟨nb,no,none⟩) nn nc) rfl;have yl:=HG2.out.lt;have hk1:kn=1:=by rw[<-HKN.out,HKS.out];rfl
 subst hk1;obtain⟨kb,ko,rfl,ck⟩:=HKK2.out.at' (i:=0) (x:=k0) (by rw[HKS.out];rfl);rw[Nat.add_zero] at ck;unfold RTx at HREC;have s1:=z86 [33] (f k0) (by have:=HF.out;simp;omega);have e1:strOf [33]=⟨#[33]⟩:=rfl;rw[e1] at s1;obtain⟨S0,hS0⟩:∃S0,strOf (f k0)=S0:=⟨_,rfl⟩;obtain⟨S1,hS1⟩:∃S1,strOf (33::f k0)=S1:=⟨_,rfl⟩;have t1:=z86 [40] (33::f k0) (by have:=HF.out;simp;omega);have t2:=z86 ([40]++(33::f k0)) [41] (by have:=HF.out;simp;omega);rw[show strOf [40]=⟨#[40]⟩ from rfl,show strOf (33::f k0)=S1 from hS1] at t1;rw[show strOf [41]=⟨#[41]⟩ from rfl] at t2;obtain⟨S2,hS2⟩:∃S2,strOf ([40]++(33::f k0))=S2:=⟨_,rfl⟩;obtain⟨S3,hS3⟩:∃S3,strOf ([40]++(33::f k0)++[41])=S3:=⟨_,rfl⟩;rw[hS2] at t1 t2;rw[hS3] at t2;rw[hS0] at s1 HREC;replace s1:∀w,(Op.stringOp .add ⟨#[33]⟩ S0).run Tryz.prog w=.ok (.string S1) w:=fun w=>by rw[<-hS1];exact s1 w
 have HS1:=Lib.hid hS1;have HS3:=Lib.hid hS3;clear hS0 hS1 hS2 hS3 e1;cases p with
 |false=>
  have q1:¬(2:Int)<=pl:=by have:=of_decide_eq_false HP.out;omega
  go_upto_region 42 with fail
  go_region_with (go_at_call 32;(with_reducible refine(HREC.out _ (Below.drew HB2.out)).mono ?_);rintro e w3 ⟨rfl,hb⟩;have HB3:=Lib.hid ((Below.drew HB2.out).trans (hb.mono HB2.out.size));clear hb)
  all_goals
   go_wp2;go_ret
   first|exact⟨congrArg (fun s=>Ending.returned (.string s)) HS1.out.symm,HB3.out⟩|exact⟨congrArg (fun s=>Ending.returned (.string s)) HS1.out.symm,Below.drew HB3.out⟩
 |true=>
  have q1:(2:Int)<=pl:=by have:=of_decide_eq_true HP.out;omega
  go_upto_region 42 with fail
  go_region_with (go_at_call 32;(with_reducible refine(HREC.out _ (Below.drew HB2.out)).mono ?_);rintro e w3 ⟨rfl,hb⟩;have HB3:=Lib.hid ((Below.drew HB2.out).trans (hb.mono HB2.out.size));clear hb)
  all_goals
   go_wp2;go_ret
   first|exact⟨congrArg (fun s=>Ending.returned (.string s)) HS3.out.symm,HB3.out⟩|exact⟨congrArg (fun s=>Ending.returned (.string s)) HS3.out.symm,Below.drew HB3.out⟩
end
end Go.Proofs.YtmopdlbpkiaoeaaGreatDoor
