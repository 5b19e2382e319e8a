/- The parser: primary at a name. The parser's two maps. The parser: primary whole; suffixed, prefixed. The parser: sequence, expression. The parser: rule. The par -/
import Derived.Deep.Cut
import Derived.Maps.Keyed
import Derived.Test.YthhppmehhdlmnaaGreatDoorPzN
set_option maxRecDepth 100000
set_option maxHeartbeats 4000000
namespace Go.Proofs.YthhppmehhdlmnaaGreatDoor
section
open Go.RowKit
theorem zyr:(Tryz.prog.info? 175).map (fun i=>(i.zero,i.size,i.bytes))=some (some (.agg #[.string ⟨#[]⟩,.int .i64 0]),2,24):=by kernel_rfl
theorem zys {C:PC}{rs:List (List Nat × Nat × Int)}{ts:List Tok}{f:MF}{d:Nat}{qs:List Value}{w w1 w5:World}{n k a:Nat}{x:List Nat}{r:List (Nat × Nat)}{rv nv cv v':Value}{nd:PN}
  (hF:PFix C w) (hc:Cur C.s ts ⟨k,a,x,r⟩ n) (hB:PB C n ⟨k,a,x,r⟩ .nilIface rv nv cv d w) (hR:PRows C rs (addNY f nd) qs rv nv cv w) (hnd:nd=callN f.calls.length)
  (h1:w5.ownsRow C.w0.heap.size 175 2 v' (f.calls.length+1) (zd7 f.calls++[.string (strOf x),.int .i64 (a:Int)])) (h2:Below w.heap.size w w1) (h3:w1.grownBy w5 cv.ownBlock) :
  Kq C.w0.heap.size C.B w (w5.setCell ⟨C.B,12,none⟩ v')/\PSt C rs ts (callF f ⟨k,a,x,r⟩) d qs (w5.setCell ⟨C.B,12,none⟩ v'):=by
 subst hnd;obtain⟨-,hK,v'',ho,hB',kp⟩:=(show AppIs C 12 175 2 f.calls.length cv (zd7 f.calls) [.string (strOf x),.int .i64 (a:Int)] w (.returned (.tuple #[])) (w5.setCell ⟨C.B,12,none⟩ v') from⟨rfl,v',w1,w5,h1,h2,h3,rfl⟩).parts hR.2.1 (.inr rfl) hB;have hv:v''=v':=by
  have e1:(w5.setCell ⟨C.B,12,none⟩ v').cell? ⟨C.B,12,none⟩=some v'':=hB'.cell rfl;have e2:∃u,w5.cell? ⟨C.B,12,none⟩=some u:=by
   have hk1:=Lib.ownsRow_kind (zaa hR.2.1 h2);have hB5:=Bl.grown (Bl.below hB h2) h3 (fun g e=>by
    obtain⟨c,fz,hc⟩:=hk1 g e;exact⟨c,175,fz,hc,by decide⟩)
   exact⟨_,hB5.cell rfl⟩
  obtain⟨u,e2⟩:=e2;rw[css e2] at e1;exact(Option.some.inj e1).symm
 subst hv;refine⟨hK,hF.kept hK,n,⟨k,a,x,r⟩,rv,nv,v'',hc,hB',⟨hR.1.1,kp _ _ _ _ _ _ hR.1.2.1 (by decide) (by decide),fun j m q e1 e2=>kp _ _ _ _ _ _ (hR.1.2.2 j m q e1 e2) (by decide) (by decide)⟩,?_,hR.2.2.1,kp _ _ _ _ _ _ hR.2.2.2 (by decide) (by decide)⟩;show(w5.setCell ⟨C.B,12,none⟩ v'').ownsRow C.w0.heap.size 175 2 v'' (f.calls++[(x,a)]).length (zd7 (f.calls++[(x,a)]));rw[List.length_append,List.length_singleton];unfold zd7;rw[List.flatMap_append];simpa [nameC,zd7] using ho
section
variable (C:PC) (hSg:SignsAt C.w0) (hs:C.s.size<=1050000) {N d:Nat} (rs:List (List Nat × Nat × Int)) (qs:List Value) (f:MF) (w:World) (a:Nat) (x:List Nat) (r:List (Nat × Nat)) (tl:List Tok)
include hSg hs in
theorem zyt (hP:PSt C rs (⟨1,a,x,r⟩::tl) f d qs w)(hF:Fit 0 N rs (⟨1,a,x,r⟩::tl) f) :
  Calls Tryz.prog 197 #[.pointer (some ⟨C.B,0,none⟩)] w (DoIs C N rs d qs w (acc false tl (callF f ⟨1,a,x,r⟩))):=by
 have hP0:=hP;obtain⟨hF',n,t,rv,nv,cv,hc,hB,hR⟩:=hP;have ht:t=⟨1,a,x,r⟩:=by obtain⟨-,-,tl',e,-⟩:=hc;cases e;rfl
 subst ht;obtain⟨⟨-,-,b2,b3,b4,b5,b6,b7,b8⟩,⟨-,-,-,b12,-⟩,-,bl⟩:=seventeen hB;have hwt:wt (⟨1,a,x,r⟩::tl)=x.length+3+wt tl:=rfl;obtain⟨f1,f2,f3,f4,f5⟩:=hF;have hlen:(⟨1,a,x,r⟩::tl:List Tok).length=tl.length+1:=rfl;obtain⟨ca,cc,rfl⟩:=zad hR.2.1;obtain⟨ie,hie,hze0,hze1,hze2⟩:=info_parts zyr;obtain⟨m,hm⟩:∃m,f.calls.length=m:=⟨_,rfl⟩;have HP:=Lib.hid fun(W:World) (h:Below w.heap.size w W)=>zkd C rs _ f d qs W (callN m) none 0 (hP0.below h) (World.ownsRow_nil _ _ _ _) (by omega)
 have HA:=Lib.hid fun(W:World) (h:St C N rs d qs w (.ok (⟨1,a,x,r⟩::tl) (callF f ⟨1,a,x,r⟩)) W)=>zgx hSg hs h ⟨by show(f.nodes++[_]).length<=_;rw[List.length_append,List.length_singleton];omega,by show(f.calls++[_]).length<=_;rw[List.length_append,List.length_singleton];omega,f3⟩ (show(1:Nat)≠0 by decide)
 have hlw:=hF'.1.size;have hmb:m<=1000000000:=by omega
 have hnv:ndV (callN m) (.slice none 0 (callN m).kids.length)=.agg #[.int .i64 2,.slice none 0 0,.int .i64 (m:Int),.int .u64 0,.int .u64 0,.int .u64 0,.int .u64 0]:=rfl;have HM:=Lib.hid hm;rw[hm] at b12;obtain⟨st,hst⟩:∃y,strOf x=y:=⟨_,rfl⟩;have HST:=Lib.hid hst;rw[hst] at b4;have hTok:=Bl.new w 168 #[.int .i64 1,.int .i64 (a:Int),.string st,.int .u64 (setW (inRs r) 0),.int .u64 (setW (inRs r) 1),.int .u64 (setW (inRs r) 2),.int .u64 (setW (inRs r) 3)];obtain⟨x0,hx0⟩:∃y,setW (inRs r) 0=y:=⟨_,rfl⟩;obtain⟨x1,hx1⟩:∃y,setW (inRs r) 1=y:=⟨_,rfl⟩;obtain⟨x2,hx2⟩:∃y,setW (inRs r) 2=y:=⟨_,rfl⟩;obtain⟨x3,hx3⟩:∃y,setW (inRs r) 3=y:=⟨_,rfl⟩;rw[hx0] at b5 hTok;rw[hx1] at b6 hTok;rw[hx2] at b7 hTok;rw[hx3] at b8 hTok;have HTOK:=Lib.hid hTok;clear hP0 hR hwt f1 f2 f3 f4 f5 hSg hs hlen hm hst hTok hx0 hx1 hx2 hx3 hnv hc hB hF';go_enter Tryz.func197,Tryz.ntmps197
 go_upto_region 5 with(go_at_call 185;(refine(HP.out _ (zab w _)).mono ?_);rintro e w3 h;have h1:=h.1;subst h1;have H3:=Lib.hid h;clear h)
 clear b2 b3 b4 b5 b6 b7 b8 b12;obtain⟨-,hK3,hP3⟩:=H3.out;have hT3:=hK3.bl HTOK.out (by omega) (by decide);have hq3:St C N rs d qs w (.ok (⟨1,a,x,r⟩::tl) (addNY f (callN m))) w3:=⟨(Kq.of_below (zab w _)).trans hK3,[.slice none 0 0],hP3,fun q hq b hb=>by
  obtain rfl:=List.mem_singleton.1 hq;cases hb⟩
 have hKw:Kq C.w0.heap.size C.B w w3:=hq3.1;obtain⟨hF3,n3,t3,rv3,nv3,cv3,hc3,hB3,hR3⟩:=hP3;have ht:t3=⟨1,a,x,r⟩:=by obtain⟨-,-,tl',e,-⟩:=hc3;cases e;rfl
 subst ht;obtain⟨-,⟨-,-,-,b12,-⟩,bf,bl3⟩:=seventeen hB3;have hO3:=hR3.2.1;have hcl:(addNY f (callN m)).calls.length=m:=HM.out;rw[hcl] at hO3;obtain⟨ca3,cc3,rfl⟩:=zad hO3;have HO3:=Lib.hid hO3;have HB3:=Lib.hid hB3;have hsz3:=hK3.size;have T1:w3.cell? ⟨w.heap.size,1,none⟩=some (.int .i64 (a:Int)):=hT3.cell rfl;have T2:w3.cell? ⟨w.heap.size,2,none⟩=some (.string st):=hT3.cell rfl;have hwl:=hT3.lt;have hbase:C.w0.heap.size<=w3.heap.size:=by have:=hKw.size;omega
 have HAPP:=Lib.hid fun(v':Value) (w1 w5:World) (h1:w5.ownsRow C.w0.heap.size 175 2 v' (m+1) (zd7 (addNY f (callN m)).calls++[.string st,.int .i64 (a:Int)])) (h2:Below w3.heap.size w3 w1) (h3:w1.grownBy w5 (Value.slice ca3 m cc3).ownBlock)=>(by
  have hm:=HM.out;have hst:=HST.out;subst hst;subst hm;obtain⟨k1,k2⟩:=zys (f:=f) (nd:=callN f.calls.length) hF3 hc3 hB3 hR3 rfl h1 h2 h3;exact⟨hKw.trans k1,[.slice none 0 0],k2,fun q hq b hb=>by
   obtain rfl:=List.mem_singleton.1 hq;cases hb⟩:St C N rs d qs w (.ok (⟨1,a,x,r⟩::tl) (callF f ⟨1,a,x,r⟩)) (w5.setCell ⟨C.B,12,none⟩ v'))
 clear hq3 hO3 hR3 hc3 hF3 hKw hT3 hK3 hcl hsz3 hB3 HM HST H3 HP HTOK
 go_region_law (refine zaw (by rfl) _ _ 86 (by rfl) C.w0.heap.size 175 ie _ 2 24 Tryz.underlying86 hie hze0 hze1 hze2 (by rfl) (by decide) (.slice ca3 m cc3) m _ (by simp[Act.eval]) (by refine zaa HO3.out ?_;repeat (first|exact Below.refl _ _|refine Below.drew ?_|refine zae ?_ rfl _)) _ 1 1 [.string st,.int .i64 (a:Int)] (by simp[Act.eval];rfl) (by rfl) (by refine Bl.news (t:=175) ?_;repeat (first|(refine Bl.new' ?_;simp;done)|refine Bl.drew ?_|refine Bl.past ?_)) (by simp[Value.oneCell']) (by unfold maxLen;omega) (by omega) (by simp;omega) ?_;intro a5 c5 w5 hown5 hgrow5 hat5;have hbw5:Hid (Below w3.heap.size w3 (w3.alloc (.cells #[.string st,.int .i64 (a:Int)] 175)).drew):=Lib.hid (Below.drew (zae (Below.refl _ _) rfl _));have hg5:=(HB3.out.same hbw5.out).grown hgrow5 (fun g e=>by obtain⟨c,fz,hc⟩:=Lib.ownsRow_kind (zaa HO3.out hbw5.out) g e;exact⟨c,175,fz,hc,by decide⟩);obtain⟨-,⟨-,-,-,x12,-⟩,xf,xl⟩:=seventeen hg5;have HO5:=Lib.hid hown5;have HG5:=Lib.hid hgrow5;clear hown5 hgrow5 hat5 hg5)
 all_goals
  have HS5:=Lib.hid (HAPP.out _ _ _ HO5.out hbw5.out HG5.out);clear HAPP HO5 HG5 hbw5 HB3 HO3 b12 bf T1 T2 x12 xf
  go_wp2_with (go_at_call 125;(with_reducible refine(HA.out _ HS5.out).mono ?_);rintro e w4 h;have h1:=h.1;subst h1;have H4:=Lib.hid h.2;clear h)
  go_end0
  exact⟨rfl,H4.out⟩
end
end
section
open Go.RowKit Go.Maps
theorem zgy:Keyed Tryz.prog 3:=int_keyed Tryz.underlying3
theorem zb0 (n:Nat)(hn:n<=1000):keyOf Tryz.prog 3 (.int .i64 (n:Int))=some (.int .i64 (n:Int)):=keyOf_int_mk Tryz.underlying3 (by
 show decide _=true;rw[decide_eq_true_eq];have h1:(-9223372036854775808:Int)<=(n:Int):=by omega
 have h2:(n:Int)<=9223372036854775807:=by omega
 first
  |exact⟨h1,h2⟩
  |(simp;omega))
theorem zyu {w:World}{b:Nat}{es:Array MapEntry}{clock:Nat}(hb:w.heap[b]?=some (.map es clock))(hk:∀e ∈ es.toList,∃l,keyOf Tryz.prog 3 e.key=some l)(n:Nat)(hn:n<=1000)(h:∀e ∈ es.toList,e.key≠.int .i64 (n:Int)) :
  (Instr.lookup 101 (.map (some b)) (.int .i64 (n:Int)) true).run Tryz.prog w=.ok (.tuple #[.int .i64 0,.bool false]) w:=by
 rcases zgy.find w (zb0 n hn) es.toList hk with⟨h1,-⟩|⟨j,e,-,h2,h3⟩
 ·simp[Instr.lookup,run_underlying Tryz.underlying101,MapKept.run_getObj_map hb,zgy.check w _ (zb0 n hn),h1,Result.andThen]
 ·exact absurd h3 (h e (List.mem_of_getElem? h2))
theorem zsb {w:World}{b:Nat}{es:Array MapEntry}{clock:Nat}(hb:w.heap[b]?=some (.map es clock))(hk:∀e ∈ es.toList,∃l,keyOf Tryz.prog 3 e.key=some l)(n:Nat)(hn:n<=1000)(v:Value)(h:∃e ∈ es.toList,e.key=.int .i64 (n:Int))(hv:∀e ∈ es.toList,e.key=.int .i64 (n:Int)->e.val=v) :
  (Instr.lookup 101 (.map (some b)) (.int .i64 (n:Int)) true).run Tryz.prog w=.ok (.tuple #[v,.bool true]) w:=by
 rcases zgy.find w (zb0 n hn) es.toList hk with⟨-,h1⟩|⟨j,e,h1,h2,h3⟩
 ·obtain⟨e,he,hk⟩:=h
  exact absurd hk (h1 e he)
 ·have:=hv e (List.mem_of_getElem? h2) h3
  simp[Instr.lookup,run_underlying Tryz.underlying101,MapKept.run_getObj_map hb,zgy.check w _ (zb0 n hn),h1,this,Result.andThen]
theorem zsc:∀e ∈ [(⟨.int .i64 4,.int .i64 8,0⟩:MapEntry),⟨.int .i64 5,.int .i64 9,1⟩],∃l,keyOf Tryz.prog 3 e.key=some l:=by
 intro e he;simp at he;rcases he with rfl|rfl
 ·exact⟨_,zb0 4 (by decide)⟩
 ·exact⟨_,zb0 5 (by decide)⟩
theorem zsd:∀e ∈ [(⟨.int .i64 6,.int .i64 7,0⟩:MapEntry),⟨.int .i64 7,.int .i64 5,1⟩,⟨.int .i64 8,.int .i64 6,2⟩],∃l,keyOf Tryz.prog 3 e.key=some l:=by
 intro e he;simp at he;rcases he with rfl|rfl|rfl
 ·exact⟨_,zb0 6 (by decide)⟩
 ·exact⟨_,zb0 7 (by decide)⟩
 ·exact⟨_,zb0 8 (by decide)⟩
section
variable {w:World} {b:Nat}
theorem z83 (hb:w.heap[b]?=some preO)(n:Nat)(hn:n<=1000)(h:n≠4/\n≠5):(Instr.lookup 101 (.map (some b)) (.int .i64 (n:Int)) true).run Tryz.prog w=.ok (.tuple #[.int .i64 0,.bool false]) w:=
 zyu hb zsc n hn (fun e he=>by
  simp at he;rcases he with rfl|rfl<;>(intro e;injection e;omega))
theorem z7c (hb:w.heap[b]?=some preO)(n:Nat)(h:n=4∨n=5):(Instr.lookup 101 (.map (some b)) (.int .i64 (n:Int)) true).run Tryz.prog w=.ok (.tuple #[.int .i64 (preOp n),.bool true]) w:=
 zsb hb zsc n (by omega) _ (by rcases h with rfl|rfl<;>simp) (fun e he=>by
  simp at he;rcases he with rfl|rfl<;>(intro e;injection e with _ e;rcases h with rfl|rfl<;>first|rfl|omega))
theorem z84 (hb:w.heap[b]?=some sufO)(n:Nat)(hn:n<=1000)(h:¬(6<=n/\n<=8)):(Instr.lookup 101 (.map (some b)) (.int .i64 (n:Int)) true).run Tryz.prog w=.ok (.tuple #[.int .i64 0,.bool false]) w:=
 zyu hb zsd n hn (fun e he=>by
  simp at he;rcases he with rfl|rfl|rfl<;>(intro e;injection e;omega))
theorem z7d (hb:w.heap[b]?=some sufO)(n:Nat)(h:6<=n/\n<=8):(Instr.lookup 101 (.map (some b)) (.int .i64 (n:Int)) true).run Tryz.prog w=.ok (.tuple #[.int .i64 (sufOp n),.bool true]) w:=by
 have h:n=6∨n=7∨n=8:=by omega
 exact zsb hb zsd n (by omega) _ (by rcases h with rfl|rfl|rfl<;>simp) (fun e he=>by
  simp at he;rcases he with rfl|rfl|rfl<;>(intro e;injection e with _ e;rcases h with rfl|rfl|rfl<;>first|rfl|omega))
end
end
section
open Go.RowKit
theorem z7e (C:PC)(hSg:SignsAt C.w0)(hs:C.s.size<=1050000){rec:List Tok->MF->PO}{N N' d r:Nat}(hr:r+d=200)(hM:0<r->MOk C 162 rec 2 N N' (d+1)/\MBad C 162 (d+1) 2)(hG:Grow 0 2 rec)(hN:N+2<=N')(hN':N'<=100000000) :
  MOk C 197 (primL false r rec) 0 N N' d:=by
 intro rs qs ts f w hP hF;have up:∀ {o:PO},Calls Tryz.prog 197 #[.pointer (some ⟨C.B,0,none⟩)] w (DoIs C N rs d qs w o)->Calls Tryz.prog 197 #[.pointer (some ⟨C.B,0,none⟩)] w (DoIs C N' rs d qs w o):=fun h=>h.mono fun e w' h=>⟨h.1,h.2.mono (by omega)⟩
 obtain⟨k,a,x,r0,tl,rfl,h99,-⟩:=hP.token;unfold primL;dsimp only;by_cases h1:k=1
 ·subst h1
  rw[if_pos rfl,if_neg (by simp)];exact up (zyt C hSg hs rs qs f w a x r0 tl hP hF)
 rw[if_neg h1];by_cases h9:k=9
 ·subst h9
  rw[if_pos rfl];by_cases h0:r=0
  ·rw[if_pos h0]
   obtain rfl:d=200:=by omega
   have hb:=hF;obtain⟨f1,f2,f3,-⟩:=hb;exact zn1 C rs qs f w a x r0 tl _ hP fun W hW=>(z2j C rs qs _ f w W hW ⟨by omega,by omega,f3⟩).mono fun e w' h=>⟨h.1,h.2.mono (by omega)⟩
  ·rw[if_neg h0]
   obtain⟨m1,m2⟩:=hM (by omega);exact zn1 (N:=N) C rs qs f w a x r0 tl _ hP fun W hW=>z7a C hSg hs (by omega) m1 m2 hG hN ⟨by omega,hN'⟩ rs qs _ f w W hW hF rfl
 rw[if_neg h9];by_cases h12:k=12
 ·subst h12
  rw[if_pos rfl];exact up (z2n C hSg hs rs qs f w a x r0 tl hP hF)
 rw[if_neg h12];by_cases h13:k=13
 ·subst h13
  rw[if_pos rfl];exact up (z2m C hSg hs rs qs f w a x r0 tl hP hF)
 rw[if_neg h13];by_cases h11:k=11
 ·subst h11
  rw[if_pos rfl];exact up (z2l C hSg hs rs qs f w a x r0 tl hP hF)
 rw[if_neg h11];exact up (z7b C rs qs f w _ ⟨h1,h9,h12,h13,h11⟩ hP hF)
section
variable {C:PC} {N N':Nat} {rs:List (List Nat × Nat × Int)} {d:Nat} {qs tq:List Value} {w W w':World} {o:PO} {e:Ending} {kv:Value} {ks:MF->List Int}
theorem KSt.accepts {a:List Tok}{g:MF}(hSg:SignsAt C.w0)(hs:C.s.size<=1050000)(h:KSt C N rs d qs w kv ks (.ok a g) W)(hF:g.nodes.length<=N/\g.calls.length<=N/\rs.length<=N)(h0:kd a≠0)(hk:(ks g).length<=200000000) :
  Calls Tryz.prog 125 #[.pointer (some ⟨C.B,0,none⟩)] W fun e w'=>e=.returned (.tuple #[])/\KSt C N rs d qs w kv ks (acc false a.tail g) w':=by
 obtain⟨kq,hb,hrow,tq,hP,ht⟩:=h;refine(zgw C hSg hs rs a g d (qs++tq) W N hP h0 hF.1 hF.2.1 hF.2.2).mono fun e w' h=>⟨h.1,kq.trans h.2.1,hb,?_⟩
 obtain⟨-,hK,h2⟩:=h;obtain⟨cs,hB⟩:=hP.isB;have hrow':=hK.own hrow (by decide) (own_ne hrow hB (by decide));by_cases hc:kd a.tail=99
 ·have ha:acc false a.tail g=.bad a.tail false:=if_pos ⟨rfl,hc⟩
  rw[ha] at h2 ⊢;exact⟨⟨_,_,hk,hrow'⟩,h2⟩
 ·have ha:acc false a.tail g=.ok a.tail g:=if_neg (fun h=>hc h.2)
  rw[ha] at h2 ⊢;obtain⟨t2,h3,h4⟩:=h2;refine⟨hrow',tq++t2,by rw[<-List.append_assoc];exact h3,fun q hq b hqb=>?_⟩;rcases List.mem_append.1 hq with hq|hq
  ·exact ht q hq b hqb
  ·exact⟨Nat.le_trans kq.size (h4 q hq b hqb),zee hrow (h4 q hq b hqb)⟩
theorem KSt.node (h:KSt C N rs d qs w kv ks o W)(op:Int)(hN:N<=900000000)(hn:∀a g,o=.ok a g->g.nodes.length<=900000000) :
  Calls Tryz.prog 185 #[.pointer (some ⟨C.B,0,none⟩),.agg #[.int .i64 op,kv,.int .i64 0,.int .u64 0,.int .u64 0,.int .u64 0,.int .u64 0]] W (DoIs C (N+1) rs d qs w (o.bind fun a g=>.ok a (addNY g (mkN op (ks g))))):=by
 obtain⟨kq,hb,h⟩:=h;cases o with
 |bad a dp=>
  obtain⟨⟨k,xs,hk,hrow⟩,hP⟩:=h;obtain⟨ka,kc,rfl⟩:=zad hrow;exact(zpw C _ N d W op 0 0 0 0 0 ka k kc hP (by omega)).mono fun e w' h=>⟨h.1,kq.trans h.2.1,h.2.2⟩
 |ok a g=>
  obtain⟨hrow,tq,hP,ht⟩:=h;obtain⟨ka,kc,rfl⟩:=zad hrow;refine(zkd C rs a g d (qs++tq) W (mkN op (ks g)) ka kc hP hrow (by have:=hn a g rfl;omega)).mono fun e w' h=>⟨h.1,kq.trans h.2.1,tq++[.slice ka (ks g).length kc],?_,fun q hq b hqb=>?_⟩
  ·rw[<-List.append_assoc];exact h.2.2
  ·rcases List.mem_append.1 hq with hq|hq
   ·exact(ht q hq b hqb).1
   ·obtain rfl:=List.mem_singleton.1 hq
    exact hb b hqb
theorem KSt.fix (h:KSt C N rs d qs w kv ks o W):PFix C W:=by
 obtain⟨k,-,h⟩:=h;cases o with
 |bad a dp=>exact h.2.1
 |ok a g=>obtain⟨-,t2,h1,-⟩:=h;exact h1.1
theorem KSt.maps (h:KSt C N rs d qs w kv ks o W):W.cell? ⟨C.B,15,none⟩=some (.map (some C.mp))/\W.cell? ⟨C.B,16,none⟩=some (.map (some C.ms))/\C.B<W.heap.size:=by
 obtain⟨k,-,h⟩:=h;cases o with
 |bad a dp=>
  obtain⟨-,-,n,rv,nv,cv,m1,m2,m3,c1,c2,c3,hB,-⟩:=h;obtain⟨-,⟨-,-,-,-,-,-,h1,h2⟩,-,h3⟩:=seventeen hB;exact⟨h1,h2,h3⟩
 |ok a g=>
  obtain⟨-,t2,⟨-,n,t,rv,nv,cv,-,hB,-⟩,-⟩:=h;obtain⟨-,⟨-,-,-,-,-,-,h1,h2⟩,-,h3⟩:=seventeen hB;exact⟨h1,h2,h3⟩
theorem KSt.free (h:KSt C N rs d qs w kv ks o W):∀o,W.frozen? ⟨C.B,o,none⟩=false:=by
 obtain⟨k,-,h⟩:=h;cases o with
 |bad a dp=>obtain⟨cs,h⟩:=h.2.isB;exact h.free
 |ok a g=>obtain⟨-,t2,h1,-⟩:=h;obtain⟨cs,h⟩:=h1.isB;exact h.free
theorem zse (C:PC)(hSg:SignsAt C.w0)(hs:C.s.size<=1050000){N N1 N2:Nat}{rs:List (List Nat × Nat × Int)}{d:Nat}{qs:List Value}{w w0:World}{o:PO}
  (hK:Calls Tryz.prog 171 #[.pointer (some ⟨C.B,0,none⟩),.slice none 0 0,.func (.func 197) #[] #[]] w fun e w'=>∃kv',e=.returned kv'/\KSt C N1 rs d qs w0 kv' (fun g'=>[]++[lastI g']) o w')
  (hk:o.kind<=99) (hF:∀a g,o=.ok a g->Fit 0 N rs a g/\N<=N1/\N1+1<=N2) (hN:N1<=N2/\N2<=900000000) :
  Calls Tryz.prog 194 #[.pointer (some ⟨C.B,0,none⟩)] w (DoIs C N2 rs d qs w0 (o.bind (sufK false))):=by
 have HK:=Lib.hid hK;clear hK;by_cases h68:6<=o.kind/\o.kind<=8
 ·cases o with
  |bad a dp=>exact absurd h68.1 (show ¬6<=0 by decide)
  |ok a g=>
   obtain⟨hf,hn1,hn2⟩:=hF a g rfl;have h0:kd a≠0:=by have:6<=kd a:=h68.1;omega
   obtain⟨f1,f2,f3,f4,-⟩:=hf;have hO:(PO.ok a g).bind (sufK false)=(acc false a.tail g).bind fun a' g'=>.ok a' (addNY g' (mkN (sufOp (kd a)) ([]++[lastI g']))):=by
    show sufK false a g=_;unfold sufK;rw[if_pos (show 6<=kd a/\kd a<=8 from h68)];unfold acc;by_cases h:kd a.tail=99
    ·rw[if_pos ⟨rfl,h⟩,if_pos ⟨rfl,h⟩];rfl
    ·rw[if_neg (fun k=>h k.2),if_neg (fun k=>h k.2)];rfl
   have HO:=Lib.hid hO;have HA:=Lib.hid fun(kv:Value) (W:World) (h:KSt C N1 rs d qs w0 kv (fun g'=>[]++[lastI g']) (.ok a g) W)=>h.accepts hSg hs ⟨by omega,by omega,by omega⟩ h0 (by show 1<=_;omega)
   have HN:=Lib.hid fun(kv:Value) (W:World) (h:KSt C N1 rs d qs w0 kv (fun g'=>[]++[lastI g']) (acc false a.tail g) W)=>(h.node (sufOp (kd a)) (by omega) (fun a' g' e=>by
    unfold acc at e;split at e
    ·cases e
    ·cases e;omega)).mono fun e w' h=>(⟨h.1,h.2.mono hn2⟩:DoIs C N2 rs d qs w0 _ e w')
   have HL:=Lib.hid fun(W:World) (h:W.heap[C.ms]?=some sufO)=>z7d h (kd a) h68
   have hkk:(PO.ok a g).kind=kd a:=rfl;rw[hkk] at h68;have H68:=Lib.hid h68;obtain⟨k,hkd⟩:∃k:Int,(kd a:Int)=k:=⟨_,rfl⟩;rw[hkd] at HL;have HKD:=Lib.hid hkd;obtain⟨op,hop⟩:∃y,sufOp (kd a)=y:=⟨_,rfl⟩;rw[hop] at HL HN HO;clear hO f1 f2 f3 f4 h0 h68 hkk hkd hop hk hF hN hn1 hn2 hSg hs;go_enter Tryz.func194,Tryz.ntmps194
   go_upto_region 1 with(go_at_call 171;(with_reducible refine HK.out.mono ?_);rintro e w1 h;obtain⟨kv,rfl,h⟩:=h;obtain⟨ka,kn,kc,rfl⟩:=h.slice;have HK1:=Lib.hid h;clear h)
   have c2:=HK1.out.kind;rw[show((PO.kind (.ok a g):Nat):Int)=k from HKD.out] at c2;obtain⟨-,c16,bl⟩:=HK1.out.maps;have hl:=HL.out w1.drew HK1.out.fix.2.2.2.2.2
   go_region_with fail
   all_goals
    clear c2 c16 hl
    go_wp2_with (first
     |(go_at_call 125;(with_reducible refine(HA.out (.slice ka kn kc) _ ?_).mono ?_);(· exact HK1.out.below (Below.refl _ _).drew);rintro e w2 h;have h1:=h.1;subst h1;have H2:=Lib.hid h.2;clear h)
     |(go_at_call 185;(with_reducible refine(HN.out _ _ H2.out).mono ?_);rintro e w3 h;have h1:=h.1;subst h1;have H3:=Lib.hid h.2;clear h))
    go_end0
    exact⟨rfl,by rw[HO.out];exact H3.out⟩
 ·have hO:o.bind (sufK false)=o:=by
   cases o with
   |bad a dp=>rfl
   |ok a g=>
    show sufK false a g=_;unfold sufK;exact if_neg h68
  have HO:=Lib.hid hO;have HL:=Lib.hid fun(W:World) (h:W.heap[C.ms]?=some sufO)=>z84 h o.kind (by omega) h68
  obtain⟨k,hkd⟩:∃k:Int,(o.kind:Int)=k:=⟨_,rfl⟩;rw[hkd] at HL;have HKD:=Lib.hid hkd;have hn:=hN.1;clear hO h68 hkd hk hF hN hSg hs;go_enter Tryz.func194,Tryz.ntmps194
  go_upto_region 1 with(go_at_call 171;(with_reducible refine HK.out.mono ?_);rintro e w1 h;obtain⟨kv,rfl,h⟩:=h;obtain⟨ka,kn,kc,rfl⟩:=h.slice;have HK1:=Lib.hid h;clear h)
  have c2:=HK1.out.kind;rw[HKD.out] at c2;obtain⟨-,c16,bl⟩:=HK1.out.maps;have hl:=HL.out w1.drew HK1.out.fix.2.2.2.2.2
  go_region_with fail
  all_goals
   clear c2 c16 hl;go_wp2
   go_end0
   exact⟨rfl,by rw[HO.out];exact(HK1.out.below (Below.refl _ _).drew).st.mono hn⟩
theorem z85 (C:PC)(hSg:SignsAt C.w0)(hs:C.s.size<=1050000){rec:List Tok->MF->PO}{N N1 N2 d r:Nat}(hM:MOk C 197 (primL false r rec) 0 N N1 d)(hG:Grow 0 2 rec)(hN:N<=N1/\N1+1<=N2/\N2<=900000000):MOk C 194 (sufL false r rec) 0 N N2 d:=by
 intro rs qs ts f w hP hF;have hg:=Gr.prim (st:=false) (room:=r) hG ts f;have hgf:∀a g,primL false r rec ts f=.ok a g->Fit 0 N rs a g:=fun a g e=>by rw[e] at hg;exact hF.next hg (Nat.le_refl _)
 refine zse C hSg hs (N:=N) (N1:=N1) (zp2 hM (by omega) hF hP.lt (St.start (N:=N) hP).nokids (Nat.zero_le _) (fun a g e=>by have:=(hgf a g e).1;have:=(hgf a g e).2.2.2.1;omega)) ?_ (fun a g e=>⟨hgf a g e,by omega,by omega⟩) ⟨by omega,by omega⟩;cases e:primL false r rec ts f with
 |bad a dp=>exact Nat.zero_le _
 |ok a g=>exact(hgf a g e).kind
theorem z7f (C:PC)(hSg:SignsAt C.w0)(hs:C.s.size<=1050000)(d:Nat):MBad C 194 d 0:=by
 intro a dp N w hN hP;have:=zse C hSg hs (N:=N) (N1:=N) (N2:=N) (rs:=[]) (d:=d) (qs:=[]) (w0:=w) (zn0 (ks:=fun _=>[]) (z2o C) ⟨hN,by omega⟩ (St.nokids ⟨Kq.refl w,hP⟩) (fun a' n c' e=>by injection e;omega)) (o:=.bad a dp) (Nat.zero_le _) (fun a g e=>by cases e) ⟨Nat.le_refl _,by omega⟩;exact this.mono fun e w' h=>⟨h.1,h.2.1,h.2.2⟩
section
variable {C:PC} {N N' N1:Nat} {rs:List (List Nat × Nat × Int)} {d:Nat} {qs:List Value} {w W:World} {o:PO}
theorem zp3 {F:List Tok->MF->PO}(hM:MOk C 194 F 0 N N' d)(hB:MBad C 194 d 0)(h:St C N rs d qs w o W)(hlt:∀q,q ∈ qs->∀b,q.ownBlock=some b->b<w.heap.size)(hF:∀a g,o=.ok a g->Fit 0 N rs a g)(hg:∀a g a' g',o=.ok a g->F a g=.ok a' g'->g'.nodes.length<=900000000)(hN:N<=N'/\N'<=800000000) :
  Calls Tryz.prog 171 #[.pointer (some ⟨C.B,0,none⟩),.slice none 0 0,.func (.func 194) #[] #[]] W fun e w'=>∃kv',e=.returned kv'/\KSt C N' rs d qs w kv' (fun g'=>[]++[lastI g']) (o.bind F) w':=by
 cases o with
 |bad a dp=>
  refine(zp1 (m:=0) (ks':=fun g'=>[]++[lastI g']) hB ⟨by omega,by omega⟩ h.nokids (fun a' n c' e=>by injection e;omega)).mono ?_;rintro e w' ⟨kv',h1,h2⟩;exact⟨kv',h1,h2.mono hN.1⟩
 |ok a g=>exact ztv hM (by omega) (hF a g rfl) hlt h.nokids (Nat.zero_le _) (fun a' g' e=>hg a g a' g' rfl e)
end
theorem zyv (B k mp:Nat)(w:World)(Q:World->Prop)(hk:k<=1000/\k≠4/\k≠5)(hm:w.heap[mp]?=some preO)(b2:w.cell? ⟨B,2,none⟩=some (.int .i64 (k:Int)))(b15:w.cell? ⟨B,15,none⟩=some (.map (some mp)))
  (hE:∀W,Below w.heap.size w W->Calls Tryz.prog 194 #[.pointer (some ⟨B,0,none⟩)] W fun e w'=>e=.returned (.tuple #[])/\Q w') :
  Calls Tryz.prog 184 #[.pointer (some ⟨B,0,none⟩)] w fun e w'=>e=.returned (.tuple #[])/\Q w':=by
 have HE:=Lib.hid hE;have hl:=z83 (w:=w.drew) hm k hk.1 hk.2;obtain⟨z,hz⟩:∃z:Int,(k:Int)=z:=⟨_,rfl⟩;rw[hz] at hl b2;clear hE hk hz hm;go_enter Tryz.func184,Tryz.ntmps184;go_wp2
 go_region_with fail
 all_goals
  clear b2 b15 hl
  go_wp2_with (go_at_call 194;(with_reducible refine(HE.out _ (Below.refl _ _).drew).mono ?_);rintro e w3 h;have h1:=h.1;subst h1;have H3:=Lib.hid h.2;clear h)
  refine bodyPost_ret (results_none rfl _ _ _) rfl ?_;exact⟨rfl,H3.out⟩
end
theorem z2p (st:Bool)(r:Nat)(rec:List Tok->MF->PO)(ts:List Tok)(f:MF)(h:kd ts=4∨kd ts=5) :
  preL st r rec ts f=((acc st ts.tail f).bind (sufL st r rec)).bind fun c d=>.ok c (addNY d (mkN (preOp (kd ts)) ([]++[lastI d]))):=by
 unfold preL;rw[if_pos h];cases acc st ts.tail f with
 |bad a dp=>rfl
 |ok a g=>rfl
theorem z86 (C:PC)(hSg:SignsAt C.w0)(hs:C.s.size<=1050000){rec:List Tok->MF->PO}{N N1 N2 d r:Nat}(hM:MOk C 194 (sufL false r rec) 0 N N1 d)(hG:Grow 0 2 rec)(hN:N<=N1/\N1+1<=N2/\N2<=800000000):MOk C 184 (preL false r rec) 0 N N2 d:=by
 intro rs qs ts f w hP hF;by_cases h45:kd ts=4∨kd ts=5
 ·have hB:=z7f C hSg hs d
  have h0:kd ts≠0:=by omega
  have hF1:Fit 0 N rs ts.tail f:=hF.tail h0 (by omega);have o1F:∀a g,acc false ts.tail f=.ok a g->Fit 0 N rs a g:=fun a g h=>by
   unfold acc at h;split at h
   ·cases h
   ·cases h;exact hF1
  have hgf:∀a g a' g',acc false ts.tail f=.ok a g->sufL false r rec a g=.ok a' g'->Fit 0 N rs a' g':=fun a g a' g' h1 h2=>by
   have hg:=Gr.suf (st:=false) (room:=r) hG a g;rw[h2] at hg;exact(o1F a g h1).next hg (Nat.le_refl _)
  have HO:=Lib.hid (z2p false r rec ts f h45);have hst:=St.start (N:=N) hP;have HA:=Lib.hid fun(W:World) (h:Below w.heap.size w W)=>zgx hSg hs (hst.below h) ⟨by have:=hF.1;omega,by have:=hF.2.1;omega,hF.2.2.1⟩ h0
  have HK:=Lib.hid fun(W:World) (h:St C N rs d qs w (acc false ts.tail f) W)=>zp3 hM hB h hP.lt o1F (fun a g a' g' h1 h2=>by have:=(hgf a g a' g' h1 h2).1;have:=hF.2.2.2.1;omega) ⟨hN.1,by omega⟩
  have HN:=Lib.hid fun(kv:Value) (W:World) (h:KSt C N1 rs d qs w kv (fun g'=>[]++[lastI g']) ((acc false ts.tail f).bind (sufL false r rec)) W)=>(h.node (preOp (kd ts)) (by omega) (fun a' g' e=>by
   cases ho:acc false ts.tail f with
   |bad a dp=>rw[ho] at e;cases e
   |ok a g=>
    rw[ho] at e;have:=(hgf a g a' g' ho e).1;have:=hF.2.2.2.1;omega)).mono fun e w' h=>(⟨h.1,h.2.mono hN.2.1⟩:DoIs C N2 rs d qs w _ e w')
  have hl:=z7c (w:=w.drew) hP.1.2.2.2.2.1 (kd ts) h45;have c2:=hP.kind;obtain⟨-,c15,-⟩:True/\w.cell? ⟨C.B,15,none⟩=some (.map (some C.mp))/\True:=by
   obtain⟨-,n,t,rv,nv,cv,-,hB,-⟩:=hP;exact⟨trivial,(seventeen hB).2.1.2.2.2.2.2.2.1,trivial⟩
  obtain⟨cs,hBl⟩:=hP.isB;have bl:=hBl.lt;obtain⟨z,hz⟩:∃z:Int,(kd ts:Int)=z:=⟨_,rfl⟩;rw[hz] at hl c2;obtain⟨op,hop⟩:∃y,preOp (kd ts)=y:=⟨_,rfl⟩;rw[hop] at hl HN HO;clear h45 hB h0 hF1 o1F hgf hst hz hop hP hF hM hG hN hSg hs hBl;go_enter Tryz.func184,Tryz.ntmps184;go_wp2
  go_region_with fail
  all_goals
   clear c2 c15 hl
   go_wp2_with (first
    |(go_at_call 125;(with_reducible refine(HA.out _ (Below.refl _ _).drew).mono ?_);rintro e w2 h;have h1:=h.1;subst h1;have H2:=Lib.hid h.2;clear h)
    |(go_at_call 171;(with_reducible refine(HK.out _ H2.out).mono ?_);rintro e w1 h;obtain⟨kv,rfl,h⟩:=h;obtain⟨ka,kn,kc,rfl⟩:=h.slice;have HK1:=Lib.hid h;clear h)
    |(go_at_call 185;(with_reducible refine(HN.out _ _ HK1.out).mono ?_);rintro e w3 h;have h1:=h.1;subst h1;have H3:=Lib.hid h.2;clear h))
   go_end0
   exact⟨rfl,by rw[HO.out];exact H3.out⟩
 ·have hp:preL false r rec ts f=sufL false r rec ts f:=if_neg h45
  rw[hp];have hQ:=fun(W:World) (h:Below w.heap.size w W)=>zma (N:=N1) (N':=N2) ((St.start hP).below h) fun qs' hP'=>(hM rs qs' ts f W hP' hF).mono fun e w' h=>(⟨h.1,h.2.mono (by omega)⟩:DoIs C N2 rs d qs' W _ e w')
  have c2:=hP.kind;obtain⟨hFx,n,t,rv,nv,cv,-,hB,-⟩:=hP;obtain⟨-,⟨-,-,-,-,-,-,b15,-⟩,-⟩:=seventeen hB;exact zyv C.B (kd ts) C.mp w _ ⟨by have:=hF.kind;omega,by omega,by omega⟩ hFx.2.2.2.2.1 c2 b15 hQ
end
section
open Go.RowKit
def begO (top:Bool):PO->Bool
 |.ok a _=>begBY top a
 |.bad _ _=>false
section
variable {C:PC} {N N' N1:Nat} {rs:List (List Nat × Nat × Int)} {d:Nat} {qs:List Value} {w W:World} {o:PO} {kv:Value} {ks:MF->List Int}
theorem z7g (hSg:SignsAt C.w0)(hs:C.s.size<=1050000)(h:KSt C N rs d qs w kv ks o W):Calls Tryz.prog 183 #[.pointer (some ⟨C.B,0,none⟩)] W (zg7 (begO (C.nm&&decide (d=0)) o) W):=by
 obtain⟨k,-,h⟩:=h;cases o with
 |bad a dp=>exact zkg C _ N d W h.2
 |ok a g=>obtain⟨-,tq,hP,-⟩:=h;exact zyo C hSg hs rs a g d (qs++tq) W hP
end
def SeqR (C:PC)(N N1:Nat)(rs:List (List Nat × Nat × Int))(d:Nat)(qs:List Value)(w:World)(pre:List Tok->MF->PO)(L:Nat)(O:PO)(gk:Nat)(kv:Value)(wr:World):Prop:=
 ∃(o:PO) (ks:MF->List Int),KSt C N1 rs d qs w kv ks o wr/\o.bind (fun a e=>zb8 (C.nm&&decide (d=0)) pre gk a e (ks e))=O/\∀a e,o=.ok a e->Fit 1 N rs a e/\a.length<gk/\(ks e).length+gk<=L
theorem z2q (C:PC)(hSg:SignsAt C.w0)(hs:C.s.size<=1050000){N N1 N2 d:Nat}{pre:List Tok->MF->PO}(hM:MOk C 184 pre 0 N N1 d)(hG:Grow 1 0 pre)(hN:N<=N1/\N1+1<=N2/\N2<=800000000)
  (rs:List (List Nat × Nat × Int)) (qs:List Value) (w:World) (o:PO) (O:PO) (n:Nat) (hP:St C N1 rs d qs w o w) (hq:∀q,q ∈ qs->∀b,q.ownBlock=some b->b<w.heap.size) (hF:∀a e,o=.ok a e->Fit 1 N rs a e/\a.length<n) (hn:n<=100000000)
  (hO:o.bind (fun a e=>zb8 (C.nm&&decide (d=0)) pre n a e [])=O) :
  Calls Tryz.prog 172 #[.pointer (some ⟨C.B,0,none⟩)] w (DoIs C N2 rs d qs w O):=by
 have H0:Hid (SeqR C N N1 rs d qs w pre n O n (.slice none 0 0) w):=Lib.hid ⟨o,fun _=>[],hP.nokids,hO,fun a e h=>⟨(hF a e h).1,(hF a e h).2,by show 0+n<=n;omega⟩⟩;have HBEG:=Lib.hid fun(kv:Value) (ks:MF->List Int) (o:PO) (W:World) (h:KSt C N1 rs d qs w kv ks o W)=>z7g hSg hs h
 have HKID:=Lib.hid fun(kv:Value) (ks:MF->List Int) (a:List Tok) (g:MF) (W:World) (h:KSt C N1 rs d qs w kv ks (.ok a g) W) (hf:Fit 1 N rs a g) (hl:(ks g).length<=100000000)=>ztu hM (by omega) (hf.weak (by omega)) hq h hl (fun a' g' e=>by
  have hg:=hG a g;rw[e] at hg;have:=(hf.next hg (c':=1) (Nat.le_refl _)).1;have:=hf.2.2.2.1;omega)
 have HJ1:=Lib.hid fun(ks:List Int) (ka:Option Addr) (kc:Nat) (a:List Tok) (g:MF) (W:World) (h:KSt C N1 rs d qs w (.slice ka ks.length kc) (fun _=>ks) (.ok a g) W) (hf:Fit 1 N rs a g)=>(zp0 h (by have:=hf.1;have:=hf.2.2.2.1;omega) 3).mono fun e w' h=>(⟨h.1,h.2.mono (by omega)⟩:DoIs C N2 rs d qs w _ e w')
 have HJ2:=Lib.hid fun(kv:Value) (ks:MF->List Int) (a:List Tok) (dp:Bool) (W:World) (h:KSt C N1 rs d qs w kv ks (.bad a dp) W)=>(zl9 h (by omega) 3).mono fun e w' h=>(⟨h.1,h.2.mono hN.2.1⟩:DoIs C N2 rs d qs w _ e w')
 have HGR:=Lib.hid hG;clear hP hO hF hq hM hG hSg hs hN;go_enter Tryz.func172,Tryz.ntmps172;go_wp2
 go_loopg [2] n (fun gk kv wr=>SeqR C N N1 rs d qs w pre n O gk kv wr)
 case atStart=>exact H0.out
 case round=>
  obtain⟨o,ks,hK,hO,hF⟩:=hrel;obtain⟨ka,kn,kc,rfl⟩:=hK.slice;have HB:=Lib.hid (HBEG.out _ _ _ _ hK);cases hb:begO (C.nm&&decide (d=0)) o with
  |true=>
   rw[hb] at HB;cases o with
   |bad a dp=>cases hb
   |ok a g=>
    obtain⟨hf,hlt,hL⟩:=hF a g rfl;have hks:(ks g).length<=100000000:=by omega
    obtain⟨m,rfl⟩:∃m,gk=m+1:=⟨gk-1,by omega⟩;have hO':(pre a g).bind (fun a' e=>zb8 (C.nm&&decide (d=0)) pre m a' e (ks g++[lastI e]))=O:=by
     rw[<-hO];exact(zbw hb).symm
    have HK:=Lib.hid fun(W:World) (h:Below wr.heap.size wr W)=>HKID.out _ _ _ _ _ (hK.below h) hf hks
    have HR:=Lib.hid fun(kv':Value) (W:World) (h:KSt C N1 rs d qs w kv' (fun g'=>ks g++[lastI g']) (pre a g) W)=>(⟨pre a g,_,h,hO',fun a' e h=>by
     have hg:=HGR.out a g;rw[h] at hg;have h1:=hf.next hg (c':=1) (Nat.le_refl _);have h2:=hg.2.1;refine⟨h1,by omega,?_⟩;show(ks g++[lastI e]).length+m<=n;rw[List.length_append,List.length_singleton];omega⟩:SeqR C N N1 rs d qs w pre n O m kv' W)
    clear hK hO hF hf hlt hL hks hO' hb
    go_wp2_with (first
     |(go_at_call 183;(with_reducible refine HB.out.mono ?_);rintro e w1 ⟨rfl,hb1⟩;have HB1:=Lib.hid hb1;clear hb1)
     |(go_at_call 171;(with_reducible refine(HK.out _ HB1.out).mono ?_);rintro e w2 h;obtain⟨kv',rfl,h⟩:=h;have HR2:=Lib.hid (HR.out _ _ h);clear h))
    go_roundg m
    case measure=>exact Nat.lt_succ_self m
    case rel=>exact HR2.out
  |false=>
   rw[hb] at HB;have HJ:Hid (∀W,Below wr.heap.size wr W->Calls Tryz.prog 173 #[.pointer (some ⟨C.B,0,none⟩),.int .i64 3,.slice ka kn kc] W (DoIs C N2 rs d qs w O)):=Lib.hid (fun W h=>by
    have hK':=hK.below h;cases o with
    |bad a dp=>rw[<-hO];exact HJ2.out _ _ _ _ _ hK'
    |ok a g=>
     obtain⟨hf,hlt,hL⟩:=hF a g rfl;obtain⟨m,rfl⟩:∃m,gk=m+1:=⟨gk-1,by omega⟩;have he:O=.ok a (joinN g 3 (ks g)):=by
      rw[<-hO];exact za0 hb
     rw[he];have hkn:kn=(ks g).length:=by
      obtain⟨-,-,hrow,-⟩:=hK';obtain⟨x,y,e⟩:=zad hrow;injection e
     subst hkn;refine HJ1.out (ks g) ka kc a g W ?_ hf;exact hK')
   clear hK hO hF hb
   go_wp2_with (first
    |(go_at_call 183;(with_reducible refine HB.out.mono ?_);rintro e w1 ⟨rfl,hb1⟩;have HB1:=Lib.hid hb1;clear hb1)
    |(go_at_call 173;(with_reducible refine(HJ.out _ HB1.out).mono ?_);rintro e w2 h;have h1:=h.1;subst h1;have H2:=Lib.hid h.2;clear h))
   go_end0
   exact⟨rfl,H2.out⟩
theorem zyw:∀ts:List Tok,ts.length<=wt ts
 | []=>Nat.le_refl _
 |t::r=>by have:=zyw r;rw[List.length_cons];show _<=t.text.length+3+wt r;omega
theorem z87 (C:PC)(hSg:SignsAt C.w0)(hs:C.s.size<=1050000){N N1 N2 d:Nat}{pre:List Tok->MF->PO}(hM:MOk C 184 pre 0 N N1 d)(hG:Grow 1 0 pre)(hN:N<=N1/\N1+1<=N2/\N2<=800000000):MOk C 172 (seqL (C.nm&&decide (d=0)) pre) 1 N N2 d:=by
 intro rs qs ts f w hP hF;exact z2q C hSg hs hM hG hN rs qs w (.ok ts f) _ (ts.length+1) (St.start hP) hP.lt (fun a e h=>by cases h;exact⟨hF,Nat.lt_succ_self _⟩) (by have:=hF.1;have:=zyw ts;have:=hF.2.2.2.1;omega) rfl
theorem zyx (C:PC)(d:Nat):MBad C 172 d 1:=by
 intro a dp N w hN hP;have HB:=Lib.hid (zkg C _ N d w hP);have HJ:=Lib.hid fun(W:World) (h:Below w.heap.size w W)=>zl9 (rs:=[]) (qs:=[]) (w:=w) (ks:=fun _=>[]) ((St.nokids (N:=N) (o:=.bad a dp) ⟨Kq.refl w,hP⟩).below h) (by omega) 3
 clear hP hN;go_enter Tryz.func172,Tryz.ntmps172;go_wp2
 go_loopg [2] 0 (fun _ kv wr=>kv=.slice none 0 0/\wr=w)
 case atStart=>exact⟨rfl,rfl⟩
 case round=>
  obtain⟨rfl,rfl⟩:=hrel
  go_wp2_with (first
   |(go_at_call 183;(with_reducible refine HB.out.mono ?_);rintro e w1 ⟨rfl,hb1⟩;have HB1:=Lib.hid hb1;clear hb1)
   |(go_at_call 173;(with_reducible refine(HJ.out _ HB1.out).mono ?_);rintro e w2 h;have h1:=h.1;subst h1;have H2:=Lib.hid h.2;clear h))
  go_end0
  exact⟨rfl,H2.out.1,H2.out.2⟩
def ExR (C:PC)(N N1:Nat)(rs:List (List Nat × Nat × Int))(d:Nat)(qs:List Value)(w:World)(sq:List Tok->MF->PO)(L:Nat)(O:PO)(gk:Nat)(kv:Value)(wr:World):Prop:=
 ∃(o:PO) (ks:MF->List Int),KSt C N1 rs d qs w kv ks o wr/\(o.bind fun a e=>if kd a=3 then (acc false a.tail e).bind fun b h=>altsL false sq gk b h (ks e) else .ok a (joinN e 4 (ks e)))=O /\
  ∀a e,o=.ok a e->MOk C 172 sq 1 N N1 d/\Grow 0 1 sq/\Fit 1 N rs a e/\a.length<=gk/\(ks e).length+gk<=L
theorem zn2 (C:PC)(hSg:SignsAt C.w0)(hs:C.s.size<=1050000){N N1 N2 d:Nat}{sq:List Tok->MF->PO}(hN:N+1<=N1/\N1+1<=N2/\N2<=800000002)
  (rs:List (List Nat × Nat × Int)) (qs:List Value) (w:World) (o:PO) (O:PO) (n:Nat) (hq:∀q,q ∈ qs->∀b,q.ownBlock=some b->b<w.heap.size)
  (hK:Calls Tryz.prog 171 #[.pointer (some ⟨C.B,0,none⟩),.slice none 0 0,.func (.func 172) #[] #[]] w fun e w'=>∃kv',e=.returned kv'/\KSt C N1 rs d qs w kv' (fun g'=>[]++[lastI g']) o w')
  (hF:∀a e,o=.ok a e->MOk C 172 sq 1 N N1 d/\Grow 0 1 sq/\Fit 1 N rs a e/\a.length<=n) (hn:n<=100000000)
  (hO:(o.bind fun a e=>if kd a=3 then (acc false a.tail e).bind fun b h=>altsL false sq n b h ([]++[lastI e]) else .ok a (joinN e 4 ([]++[lastI e])))=O) :
  Calls Tryz.prog 162 #[.pointer (some ⟨C.B,0,none⟩)] w (DoIs C N2 rs d qs w O):=by
 have H0:Hid (∀kv W,KSt C N1 rs d qs w kv (fun g'=>[]++[lastI g']) o W->ExR C N N1 rs d qs w sq (n+1) O n kv W):=Lib.hid fun kv W h=>⟨o,_,h,hO,fun a e h=>by
  obtain⟨h1,h2,h3,h4⟩:=hF a e h;exact⟨h1,h2,h3,h4,by show 1+n<=n+1;omega⟩⟩
 have HK0:=Lib.hid hK;have HA:=Lib.hid fun(kv:Value) (ks:MF->List Int) (a:List Tok) (g:MF) (W:World) (h:KSt C N1 rs d qs w kv ks (.ok a g) W) (hf:Fit 1 N rs a g) (h0:kd a≠0) (hl:(ks g).length<=100000000)=>KSt.accepts (N:=N) hSg hs h ⟨by have:=hf.1;omega,by have:=hf.2.1;omega,hf.2.2.1⟩ h0 (by omega)
 have HKID:=Lib.hid fun(kv:Value) (ks:MF->List Int) (a:List Tok) (g:MF) (W:World) (h:KSt C N rs d qs w kv ks (acc false a g) W) (hM:MOk C 172 sq 1 N N1 d) (hG:Grow 0 1 sq) (hf:Fit 4 N rs a g) (hl:(ks g).length<=100000000) (hkv:∀a' n c',kv=.slice a' n c'->n<=100000000)=>(show Calls Tryz.prog 171 #[.pointer (some ⟨C.B,0,none⟩),kv,.func (.func 172) #[] #[]] W fun e w'=>∃kv',e=.returned kv'/\KSt C N1 rs d qs w kv' (fun g'=>ks g++[lastI g']) ((acc false a g).bind sq) w' from by
  by_cases h99:kd a=99
  ·have ha:acc false a g=.bad a false:=if_pos ⟨rfl,h99⟩
   rw[ha] at h ⊢;refine(ziu (m:=1) (ks':=fun g'=>ks g++[lastI g']) (zyx C d) ⟨by omega,by omega⟩ h hkv).mono ?_;rintro e w' ⟨kv',h1,h2⟩;exact⟨kv',h1,h2.mono hN.1⟩
  ·have ha:acc false a g=.ok a g:=if_neg (fun h=>h99 h.2)
   rw[ha] at h ⊢;refine zkh hM (by omega) (hf.weak (by omega)) hq h hl (fun a' g' e=>?_);have hg:=hG a g;rw[e] at hg;have:=(hf.next hg (c':=3) (Nat.le_refl _)).1;have:=hf.2.2.2.1;omega)
 have HJ1:=Lib.hid fun(ks:List Int) (ka:Option Addr) (kc:Nat) (a:List Tok) (g:MF) (W:World) (h:KSt C N1 rs d qs w (.slice ka ks.length kc) (fun _=>ks) (.ok a g) W) (hf:Fit 1 N rs a g)=>(zp0 h (by have:=hf.1;have:=hf.2.2.2.1;omega) 4).mono fun e w' h=>(⟨h.1,h.2.mono (by omega)⟩:DoIs C N2 rs d qs w _ e w')
 have HJ2:=Lib.hid fun(kv:Value) (ks:MF->List Int) (a:List Tok) (dp:Bool) (W:World) (h:KSt C N1 rs d qs w kv ks (.bad a dp) W)=>(zl9 h (by omega) 4).mono fun e w' h=>(⟨h.1,h.2.mono hN.2.1⟩:DoIs C N2 rs d qs w _ e w')
 clear hK hO hF hq hSg hs hN;go_enter Tryz.func162,Tryz.ntmps162
 go_wp2_with (go_at_call 171;(with_reducible refine HK0.out.mono ?_);rintro e w1 h;obtain⟨kv,rfl,h⟩:=h;have HR1:=Lib.hid (H0.out _ _ h);clear h)
 go_loopg [2] n (fun gk kv wr=>ExR C N N1 rs d qs w sq (n+1) O gk kv wr)
 case atStart=>exact HR1.out
 case round=>
  obtain⟨o,ks,hK,hO,hF⟩:=hrel;obtain⟨ka,kn,kc,rfl⟩:=hK.slice;have c2:=hK.kind;have bl:=hK.maps.2.2;by_cases h3:o.kind=3
  ·cases o with
   |bad a dp=>cases h3
   |ok a g=>
    have h3':kd a=3:=h3;obtain⟨hM,hG,hf,hlt,hL⟩:=hF a g rfl;have hks:(ks g).length<=100000001:=by omega
    have hal:=zb6 (ts:=a) (by omega);obtain⟨m,rfl⟩:∃m,gk=m+1:=⟨gk-1,by omega⟩;have hO':((acc false a.tail g).bind sq).bind (fun a' e=>if kd a'=3 then (acc false a'.tail e).bind fun b h=>altsL false sq m b h (ks g++[lastI e]) else .ok a' (joinN e 4 (ks g++[lastI e])))=O:=by
     rw[<-hO];show _=(if kd a=3 then _ else _);rw[if_pos h3'];cases acc false a.tail g with
     |bad b dp=>rfl
     |ok b h=>rfl
    have hf4:Fit 4 N rs a.tail g:=hf.tail (by omega) (by omega);have hkn:kn=(ks g).length:=by
     obtain⟨-,-,hrow,-⟩:=hK;obtain⟨x,y,e⟩:=zad hrow;injection e
    have HAC:=Lib.hid (HA.out _ _ _ _ _ hK hf (by omega) (by omega));have HK:=Lib.hid fun(W:World) (h:KSt C N rs d qs w (.slice ka kn kc) ks (acc false a.tail g) W)=>HKID.out _ _ _ _ _ h hM hG hf4 (by omega) (fun a' n' c' e=>by injection e;omega)
    have HR:=Lib.hid fun(kv':Value) (W:World) (h:KSt C N1 rs d qs w kv' (fun g'=>ks g++[lastI g']) ((acc false a.tail g).bind sq) W)=>(⟨_,_,h,hO',fun a' e h=>by
     have ho:sq a.tail g=.ok a' e:=by
      unfold acc at h;split at h
      ·cases h
      ·exact h
     have hg:=hG a.tail g;rw[ho] at hg;have h1:=hf4.next hg (c':=1) (by omega);have h2:=hg.2.1;refine⟨hM,hG,h1,by omega,?_⟩;show(ks g++[lastI e]).length+m<=n+1;rw[List.length_append,List.length_singleton];omega⟩:ExR C N N1 rs d qs w sq (n+1) O m kv' W)
    have hkk:((PO.ok a g).kind:Int)=3:=by show((kd a:Nat):Int)=3;rw[h3'];rfl
    rw[hkk] at c2;clear hK hO hF hf hlt hL hks hO' h3 h3' hM hG hal hf4 hkn hkk
    go_wp2_with (first
     |(go_at_call 125;(with_reducible refine HAC.out.mono ?_);rintro e w1 h;have h1:=h.1;subst h1;have H1:=Lib.hid h.2;clear h)
     |(go_at_call 171;(with_reducible refine(HK.out _ H1.out).mono ?_);rintro e w2 h;obtain⟨kv',rfl,h⟩:=h;have HR2:=Lib.hid (HR.out _ _ h);clear h))
    go_roundg m
    case measure=>exact Nat.lt_succ_self m
    case rel=>exact HR2.out
  ·have e1:((o.kind:Int) == 3)=false:=za2 (by omega)
   have HJ:Hid (Calls Tryz.prog 173 #[.pointer (some ⟨C.B,0,none⟩),.int .i64 4,.slice ka kn kc] wr (DoIs C N2 rs d qs w O)):=Lib.hid (by
    cases o with
    |bad a dp=>rw[<-hO];exact HJ2.out _ _ _ _ _ hK
    |ok a g=>
     obtain⟨hM,hG,hf,hlt,hL⟩:=hF a g rfl;have he:O=.ok a (joinN g 4 (ks g)):=by
      rw[<-hO];exact if_neg h3
     rw[he];have hkn:kn=(ks g).length:=by
      obtain⟨-,-,hrow,-⟩:=hK;obtain⟨x,y,e⟩:=zad hrow;injection e
     subst hkn;refine HJ1.out (ks g) ka kc a g wr ?_ hf;exact hK)
   obtain⟨z,hz⟩:∃z:Int,(o.kind:Int)=z:=⟨_,rfl⟩;rw[hz] at c2 e1;clear hK hO hF h3 hz
   go_wp2_with (go_at_call 173;(with_reducible refine HJ.out.mono ?_);rintro e w2 h;have h1:=h.1;subst h1;have H2:=Lib.hid h.2;clear h)
   go_end0
   exact⟨rfl,H2.out⟩
theorem zsf (C:PC)(hSg:SignsAt C.w0)(hs:C.s.size<=1050000)(d:Nat):MBad C 162 d 2:=by
 intro a dp N w hN hP;have:=zn2 C hSg hs (sq:=fun a _=>.bad a false) (N:=N) (N1:=N+1) (N2:=N+2) (d:=d) ⟨by omega,by omega,by omega⟩ [] [] w (.bad a dp) _ 0 (fun q h=>nomatch h) (ziu (m:=1) (ks':=fun g'=>[]++[lastI g']) (zyx C d) ⟨hN,by omega⟩ (St.nokids ⟨Kq.refl w,hP⟩) (fun a' n c' e=>by injection e;omega)) (fun a e h=>nomatch h) (by omega) rfl;exact this.mono fun e w' h=>⟨h.1,h.2.1,h.2.2⟩
theorem MOk.mono {C:PC}{fn:FuncId}{F:List Tok->MF->PO}{c N N' N2 d:Nat}(h:MOk C fn F c N N' d)(hN:N'<=N2):MOk C fn F c N N2 d:=fun rs qs ts f w hP hF=>(h rs qs ts f w hP hF).mono fun _ _ h=>⟨h.1,h.2.mono hN⟩
theorem z7h (C:PC)(hSg:SignsAt C.w0)(hs:C.s.size<=1050000){N:Nat}(hN:N<=90000000):∀r d,r+d=200->MOk C 162 (exprL false r (C.nm&&decide (d=0))) 2 N (N+10*(r+1)) d:=by
 have step:∀r d,r+d=200->(0<r->MOk C 162 (inL false r) 2 N (N+10*r) (d+1))->MOk C 162 (exprL false r (C.nm&&decide (d=0))) 2 N (N+10*(r+1)) d:=by
  intro r d hr hI;have hp:=z7e C hSg hs (N:=N) (N':=N+10*r+3) hr (fun h=>⟨(hI h).mono (by omega),zsf C hSg hs (d+1)⟩) (Gr.inL r) (by omega) (by omega);have hsf:=z85 C hSg hs (N2:=N+10*r+4) hp (Gr.inL r) ⟨by omega,by omega,by omega⟩;have hpr:=z86 C hSg hs (N2:=N+10*r+5) hsf (Gr.inL r) ⟨by omega,by omega,by omega⟩;have hsq:=z87 C hSg hs (N2:=N+10*r+6) hpr (Gr.pre (Gr.inL r)) ⟨by omega,by omega,by omega⟩;intro rs qs ts f w hP hF;have hg:=Gr.seq (top:=C.nm&&decide (d=0)) (Gr.pre (st:=false) (room:=r) (Gr.inL (st:=false) r));have hgf:∀a g,seqL (C.nm&&decide (d=0)) (preL false r (inL false r)) ts f=.ok a g->Fit 1 N rs a g/\a.length<=ts.length:=fun a g e=>by
   have h:=hg ts f;rw[e] at h;exact⟨hF.next h (Nat.le_refl _),by have:=h.2.1;omega⟩
  have hb:=zyw ts;have h1:=hF.1;have h2:=hF.2.2.2.1;rw[zlv];refine(zn2 C hSg hs (N:=N) (N1:=N+10*r+6) (N2:=N+10*r+7) ⟨by omega,by omega,by omega⟩ rs qs w (seqL (C.nm&&decide (d=0)) (preL false r (inL false r)) ts f) _ ts.length hP.lt (zkh hsq (by omega) (hF.weak (by omega)) hP.lt (St.start (N:=N) hP).nokids (Nat.zero_le _) (fun a g e=>by have:=(hgf a g e).1.1;omega)) (fun a e h=>⟨hsq,hg,(hgf a e h).1,(hgf a e h).2⟩) (by omega) rfl).mono fun e w' h=>⟨h.1,h.2.mono (by omega)⟩
 intro r
 induction r with
 |zero=>exact fun d hd=>step 0 d hd (fun h=>absurd h (by decide))
 |succ r ih=>
  intro d hd;refine step (r+1) d hd (fun _=>?_);have h:=ih (d+1) (by omega);have e:(C.nm&&decide (d+1=0))=false:=by
   rw[decide_eq_false (by omega),Bool.and_false]
  rw[e] at h;exact h
end
section
open Go.RowKit
theorem z2r:(Tryz.prog.info? 173).map (fun i=>(i.zero,i.size,i.bytes))=some (some (.agg #[.string ⟨#[]⟩,.int .i64 0,.int .i64 0]),3,32):=by kernel_rfl
def zyy (C:PC)(st:ByteArray)(a0:Int)(D nn m:Nat)(ra:Option Addr)(rc:Nat)(xs:List Value)(pc:Array Value)(W:World):Prop:=
 (∃na nc,pc[11]?=some (.slice na nn nc))/\nn<=2000000000/\pc[10]?=some (.slice ra m rc)/\m<=1000000000/\Bl W C.B 170 pc/\Bl W D 173 #[.string st,.int .i64 a0,.int .i64 0]/\D≠C.B/\C.w0.heap.size<=W.heap.size /\
  (W.setCell ⟨D,2,none⟩ (.int .i64 ((nn:Int)-1))).ownsRow C.w0.heap.size 173 3 (.slice ra m rc) m xs
def zp4 (C:PC)(st:ByteArray)(a0:Int)(D:Nat)(X:List Value->Prop)(Q:World->Prop)(e:Ending)(w':World):Prop:=
 e=.returned (.tuple #[])/\∃nn m ra rc xs pc W v' w1 w5,Q W/\X xs/\zyy C st a0 D nn m ra rc xs pc W/\w5.ownsRow C.w0.heap.size 173 3 v' (m+1) (xs++[.string st,.int .i64 a0,.int .i64 ((nn:Int)-1)]) /\
  Below W.heap.size (W.setCell ⟨D,2,none⟩ (.int .i64 ((nn:Int)-1))) w1/\w1.grownBy w5 (Value.slice ra m rc).ownBlock/\w'=w5.setCell ⟨C.B,10,none⟩ v'
theorem zmb (C:PC)(st:ByteArray)(a0:Int)(w:World)(X:List Value->Prop)(Q:World->Prop)
  (hC:Calls Tryz.prog 162 #[.pointer (some ⟨C.B,0,none⟩)] (w.alloc (.cells #[.string st,.int .i64 a0,.int .i64 0] 173)) fun e w'=>e=.returned (.tuple #[])/\Q w')
  (hQ:∀W,Q W->∃nn m ra rc xs pc,X xs/\zyy C st a0 w.heap.size nn m ra rc xs pc W) :
  Calls Tryz.prog 151 #[.pointer (some ⟨C.B,0,none⟩),.agg #[.string st,.int .i64 a0,.int .i64 0]] w (zp4 C st a0 w.heap.size X Q):=by
 obtain⟨ie,hie,hze0,hze1,hze2⟩:=info_parts z2r;have HC:=Lib.hid hC;have HQ:=Lib.hid hQ;clear hC hQ;go_enter Tryz.func151,Tryz.ntmps151
 go_upto_region 2 with(go_at_call 162;(with_reducible refine HC.out.mono ?_);rintro e W ⟨rfl,hq⟩;have HQW:=Lib.hid hq;clear hq)
 obtain⟨nn,m,ra,rc,xs,pc,hX,hR⟩:=HQ.out W HQW.out;have HX:=Lib.hid hX;clear hX;have HR:=Lib.hid hR;obtain⟨⟨na,nc,p11⟩,hnn,p10,hm,hB,hD,hne,hbase,hrow⟩:=hR;have c11:W.cell? ⟨C.B,11,none⟩=some (.slice na nn nc):=hB.cell p11;have c10:W.cell? ⟨C.B,10,none⟩=some (.slice ra m rc):=hB.cell p10;have D0:W.cell? ⟨w.heap.size,0,none⟩=some (.string st):=hD.cell rfl;have D1:W.cell? ⟨w.heap.size,1,none⟩=some (.int .i64 a0):=hD.cell rfl;have D2:W.cell? ⟨w.heap.size,2,none⟩=some (.int .i64 0):=hD.cell rfl;have hDf:=hD.free;have hDl:=hD.lt;have hBf:=hB.free;have hBl:=hB.lt;have HB:=Lib.hid hB;have HROW:=Lib.hid hrow;have hne':¬w.heap.size=C.B:=hne;have hne2:¬C.B=w.heap.size:=fun e=>hne e.symm
 clear hB hD hrow p11 p10 hne
 go_upto_region 3 with(go_at_call 163;(with_reducible refine(ze3 C.B na nn nc W c11 hnn).mono ?_);rintro e w2 ⟨rfl,rfl⟩)
 have e0:(W.setCell ⟨w.heap.size,2,none⟩ (.int .i64 ((nn:Int)-1))).cell? ⟨w.heap.size,0,none⟩=some (.string st):=by rw[cso (by decide)];exact D0
 have e1:(W.setCell ⟨w.heap.size,2,none⟩ (.int .i64 ((nn:Int)-1))).cell? ⟨w.heap.size,1,none⟩=some (.int .i64 a0):=by rw[cso (by decide)];exact D1
 have e2:(W.setCell ⟨w.heap.size,2,none⟩ (.int .i64 ((nn:Int)-1))).cell? ⟨w.heap.size,2,none⟩=some (.int .i64 ((nn:Int)-1)):=css D2;have hB1:Bl (W.setCell ⟨w.heap.size,2,none⟩ (.int .i64 ((nn:Int)-1))) C.B 170 pc:=HB.out.other hne2 _;have hs1:(W.setCell ⟨w.heap.size,2,none⟩ (.int .i64 ((nn:Int)-1))).heap.size=W.heap.size:=by simp[World.setCell]
 obtain⟨⟨na',nc',p11⟩,-,p10,-⟩:=HR.out;have HW:Hid (∃W',W.setCell ⟨w.heap.size,2,none⟩ (.int .i64 ((nn:Int)-1))=W'):=Lib.hid ⟨_,rfl⟩;clear c11 c10 D0 D1 D2 hDf hBf HB hne' hne2;obtain⟨W1,hW1⟩:=HW.out;rw[hW1] at e0 e1 e2 hB1 hs1 HROW ⊢;have HW1:=Lib.hid hW1;clear HW hW1;have c10:W1.cell? ⟨C.B,10,none⟩=some (.slice ra m rc):=hB1.cell p10;have hBf:=hB1.free;have hBl1:=hB1.lt;have hb1:C.w0.heap.size<=W1.heap.size:=by omega
 have HB1:=Lib.hid hB1;have HS1:=Lib.hid hs1;have HP10:=Lib.hid p10;have hDl1:w.heap.size<W1.heap.size:=by omega
 clear hB1 hs1 p10 p11 hDl hBl hbase
 go_region_law (refine zaw (by rfl) _ _ 85 (by rfl) C.w0.heap.size 173 ie _ 3 32 Tryz.underlying85 hie hze0 hze1 hze2 (by rfl) (by decide) (.slice ra m rc) m _ (by simp[Act.eval]) (by refine zaa HROW.out ?_;repeat (first|exact Below.refl _ _|refine Below.drew ?_|refine zae ?_ rfl _)) _ 1 1 [.string st,.int .i64 a0,.int .i64 ((nn:Int)-1)] (by simp[Act.eval];rfl) (by rfl) (by refine Bl.news (t:=173) ?_;repeat (first|(refine Bl.new' ?_;simp;done)|refine Bl.drew ?_|refine Bl.past ?_)) (by simp[Value.oneCell']) (by unfold maxLen;omega) (by omega) (by simp;omega) ?_;intro a5 c5 w5 hown5 hgrow5 hat5;have hbw5:Hid (Below W1.heap.size W1 (W1.alloc (.cells #[.string st,.int .i64 a0,.int .i64 ((nn:Int)-1)] 173)).drew):=Lib.hid (Below.drew (zae (Below.refl _ _) rfl _));have hg5:=(HB1.out.below hbw5.out).grown hgrow5 (fun g e=>by obtain⟨c,fz,hc⟩:=Lib.ownsRow_kind (zaa HROW.out hbw5.out) g e;exact⟨c,173,fz,hc,by decide⟩);have x10:=hg5.cell HP10.out;have xf:=hg5.free;have xl:=hg5.lt;have HO5:=Lib.hid hown5;have HG5:=Lib.hid hgrow5;clear hown5 hgrow5 hat5 hg5)
 all_goals
  go_wp2
  go_end0
  exact⟨rfl,nn,m,ra,rc,xs,pc,W,_,_,_,HQW.out,HX.out,HR.out,HO5.out,by rw[HW1.out,<-HS1.out];exact hbw5.out,HG5.out,rfl⟩
end
section
open Go.RowKit
def PEnd (C:PC)(er:Value)(w:World):Prop:=PFix C w/\∃pc,Bl w C.B 170 pc/\pc[2]?=some (.int .i64 0)/\pc[9]?=some er
def RIs (C:PC)(rs:List (List Nat × Nat × Int))(x:List Nat)(a0 d:Nat)(qs:List Value)(w:World)(o:PO)(e:Ending)(w':World):Prop:=
 e=.returned (.tuple #[])/\w.heap.size<=w'.heap.size/\match o with
 |.ok a g=>∃v tq,PSt { C with rv:=v } (rs++[(x,a0,lastI g)]) a g d (qs++tq) w'
 |.bad a dp=>PEnd C (erV a dp) w'
section
variable {C:PC} {N N':Nat} {rs:List (List Nat × Nat × Int)} {d:Nat} {qs:List Value} {w W w' w1 w5:World} {o:PO} {e:Ending}
theorem PFix.defn {D:Nat}{cs:Array Value}(h:PFix C W)(hD:Bl W D 173 cs)(hDb:C.w0.heap.size<=D)(v:Value):PFix C (W.setCell ⟨D,2,none⟩ v):=by
 obtain⟨h1,h2,h3,h4,h5,h6⟩:=h;have key:∀(b:Nat) (o:Obj),W.heap[b]?=some o->(∀c t fz,o≠.cells c t fz)->(W.setCell ⟨D,2,none⟩ v).heap[b]?=some o:=fun b o hb ho=>by
  rw[heap_setCell_other _ _ _ _ (fun e=>by
   subst e;unfold Bl at hD;rw[hb] at hD;exact ho _ _ _ (Option.some.inj hD))]
  exact hb
 exact⟨h1.setCell (p:=⟨D,2,none⟩) hDb v,h2,h3,h4,key _ _ h5 (fun _ _ _=>by unfold preO;exact fun e=>by injection e),key _ _ h6 (fun _ _ _=>by unfold sufO;exact fun e=>by injection e)⟩
theorem PFix.grownT {r:Option Nat}{T:TypeId}(h:PFix C W)(hg:W.grownBy w' r)(hr:∀g,r=some g->C.w0.heap.size<=g/\∃c fz,W.heap[g]?=some (.cells c T fz)):PFix C w':=by
 obtain⟨h1,h2,h3,h4,h5,h6⟩:=h;have key:∀(b:Nat) (o:Obj),W.heap[b]?=some o->(∀c t fz,o≠.cells c t fz)->w'.heap[b]?=some o:=fun b o hb ho=>by
  rw[hg.block b (Array.getElem?_eq_some_iff.1 hb).1 (fun e=>by
   obtain⟨-,c,fz,hc⟩:=hr b e.symm;rw[hb] at hc;exact ho _ _ _ (Option.some.inj hc))]
  exact hb
 exact⟨h1.grown hg h1.size (fun g e=>(hr g e).1),h2,h3,h4,key _ _ h5 (fun _ _ _=>by unfold preO;exact fun e=>by injection e),key _ _ h6 (fun _ _ _=>by unfold sufO;exact fun e=>by injection e)⟩
theorem zkj {st:ByteArray}{a0:Int}{D nn m rc:Nat}{ra:Option Addr}{xs:List Value}{pc:Array Value}{v':Value}(hR:zyy C st a0 D nn m ra rc xs pc W)(hF:PFix C W)(hb:C.w0.heap.size<=D)
  (h1:w5.ownsRow C.w0.heap.size 173 3 v' (m+1) (xs++[.string st,.int .i64 a0,.int .i64 ((nn:Int)-1)]))
  (h2:Below W.heap.size (W.setCell ⟨D,2,none⟩ (.int .i64 ((nn:Int)-1))) w1) (h3:w1.grownBy w5 (Value.slice ra m rc).ownBlock) :
  PFix C (w5.setCell ⟨C.B,10,none⟩ v')/\W.heap.size<=(w5.setCell ⟨C.B,10,none⟩ v').heap.size/\Bl (w5.setCell ⟨C.B,10,none⟩ v') C.B 170 (pc.setIfInBounds 10 v')/\(w5.setCell ⟨C.B,10,none⟩ v').ownsRow C.w0.heap.size 173 3 v' (m+1) (xs++[.string st,.int .i64 a0,.int .i64 ((nn:Int)-1)]) /\
   ∀(b:Nat) (t:TypeId) (sz n:Nat) (u:Value) (ys:List Value),W.ownsRow b t sz u n ys->t≠173->t≠170->(w5.setCell ⟨C.B,10,none⟩ v').ownsRow b t sz u n ys:=by
 obtain⟨-,-,-,-,hB,hD,hne,-,hrow⟩:=hR;have hs:(W.setCell ⟨D,2,none⟩ (.int .i64 ((nn:Int)-1))).heap.size=W.heap.size:=by simp[World.setCell]
 have hF1:=hF.defn hD hb (.int .i64 ((nn:Int)-1));have hB1:=hB.other (o:=2) (Ne.symm hne) (.int .i64 ((nn:Int)-1));rw[<-hs] at h2;have hr1:=zaa hrow h2;have kind:∀g,(Value.slice ra m rc).ownBlock=some g->∃c fz,w1.heap[g]?=some (.cells c 173 fz):=fun g e=>Lib.ownsRow_kind hr1 g e
 have hF2:PFix C w1:=hF1.kept (Kq.of_below h2);have hF3:PFix C w5:=hF2.grownT h3 (fun g e=>⟨(hr1.lt g e).1,kind g e⟩);have hB3:Bl w5 C.B 170 pc:=(hB1.below h2).grown h3 (fun g e=>by
  obtain⟨c,fz,h⟩:=kind g e;exact⟨c,_,fz,h,by decide⟩)
 refine⟨hF3.set _ _,?_,hB3.put v',ownsRow_setCell_other h1 (a:=⟨C.B,10,none⟩) (own_ne h1 hB3 (by decide)) v',fun b t sz n u ys hu ht1 ht2=>?_⟩
 ·have e1:(w5.setCell ⟨C.B,10,none⟩ v').heap.size=w5.heap.size:=by simp[World.setCell]
  have:=h3.size;have:=h2.size;omega
 ·have hu1:=ownsRow_setCell_other hu (a:=⟨D,2,none⟩) (own_ne hu hD ht1) (.int .i64 ((nn:Int)-1))
  have hu2:=zbi (zaa hu1 h2) h3 kind ht1;exact ownsRow_setCell_other hu2 (a:=⟨C.B,10,none⟩) (own_ne hu2 hB3 ht2) v'
theorem ztw (rs:List (List Nat × Nat × Int))(x:List Nat)(a:Nat)(r:Int):defsC (rs++[(x,a,r)])=defsC rs++[.string (strOf x),.int .i64 (a:Int),.int .i64 r]:=by
 unfold defsC;rw[List.flatMap_append];simp[defC]
theorem zsg {st:ByteArray}{a0:Int}{D:Nat}{a:List Tok}{dp:Bool}{Q:World->Prop}(hb:C.w0.heap.size<=D)(hw:∀W,Q W->w.heap.size<=W.heap.size/\PBad C (erV a dp) N d W){X:List Value->Prop}(h:zp4 C st a0 D X Q e w') :
  e=.returned (.tuple #[])/\w.heap.size<=w'.heap.size/\PEnd C (erV a dp) w':=by
 obtain⟨he,nn,m,ra,rc,xs,pc,W,v',w1,w5,hQ,-,hR,h1,h2,h3,rfl⟩:=h;obtain⟨hsz,hF,n,rv,nv,cv,m1,m2,m3,c1,c2,c3,hB,-⟩:=hw W hQ;obtain⟨f1,f2,f3,-,-⟩:=zkj hR hF hb h1 h2 h3;have hpc:pc=#[.string C.s,.int .i64 (n:Int),.int .i64 0,.int .i64 0,.string ⟨#[]⟩,.int .u64 0,.int .u64 0,.int .u64 0,.int .u64 0,erV a dp,rv,nv,cv,.bool C.nm,.int .i64 (d:Int),.map (some C.mp),.map (some C.ms)]:=by
  have e1:=hR.2.2.2.2.1;have e2:=hB.unzero;unfold Bl at e1 e2;rw[e1] at e2;injection e2 with e2;injection e2
 subst hpc;exact⟨he,by omega,f1,_,f3,rfl,rfl⟩
theorem z7i {x:List Nat}{a0 D:Nat}{a:List Tok}{g:MF}{Q:World->Prop}(hb:C.w0.heap.size<=D)(hw:∀W,Q W->w.heap.size<=W.heap.size/\∃tq,PSt C rs a g d (qs++tq) W)(h:zp4 C (strOf x) (a0:Int) D (· = defsC rs) Q e w') :
  e=.returned (.tuple #[])/\w.heap.size<=w'.heap.size/\∃v tq,PSt { C with rv:=v } (rs++[(x,a0,lastI g)]) a g d (qs++tq) w':=by
 obtain⟨he,nn,m,ra,rc,xs,pc,W,v',w1,w5,hQ,rfl,hR,h1,h2,h3,rfl⟩:=h;obtain⟨hsz,tq,hF,n,t,rv,nv,cv,hc,hB,hRR⟩:=hw W hQ;obtain⟨f1,f2,f3,f4,fr⟩:=zkj hR hF hb h1 h2 h3;have hpc:pc=#[.string C.s,.int .i64 (n:Int),.int .i64 (t.kind:Int),.int .i64 (t.at_:Int),.string (strOf t.text),.int .u64 (setW (inRs t.rs) 0),.int .u64 (setW (inRs t.rs) 1),.int .u64 (setW (inRs t.rs) 2),.int .u64 (setW (inRs t.rs) 3),
  .nilIface,rv,nv,cv,.bool C.nm,.int .i64 (d:Int),.map (some C.mp),.map (some C.ms)]:=by
  have e1:=hR.2.2.2.2.1;have e2:=hB;unfold PB at e2;unfold Bl at e1 e2;rw[e1] at e2;injection e2 with e2;injection e2
 subst hpc;have hm:m=rs.length:=by
  have e1:=hR.2.2.1;obtain⟨y,z,e2⟩:=zad hRR.2.2.2;subst e2;have e1:some (Value.slice y rs.length z)=some (Value.slice ra m rc):=e1;injection e1 with e1;injection e1 with _ e1;exact e1.symm
 have hnn:(nn:Int)-1=lastI g:=by
  obtain⟨na,nc,e1⟩:=hR.1;obtain⟨y,z,e2⟩:=zad hRR.1.2.1;subst e2;have e1:some (Value.slice y g.nodes.length z)=some (Value.slice na nn nc):=e1;injection e1 with e1;injection e1 with _ e1;show _=(g.nodes.length:Int)-1;rw[e1]
 refine⟨he,by omega,v',tq,f1,n,t,v',nv,cv,hc,f3,⟨hRR.1.1,fr _ _ _ _ _ _ hRR.1.2.1 (by decide) (by decide),fun j p q e1 e2=>fr _ _ _ _ _ _ (hRR.1.2.2 j p q e1 e2) (by decide) (by decide)⟩,fr _ _ _ _ _ _ hRR.2.1 (by decide) (by decide),rfl,?_⟩;rw[List.length_append,List.length_singleton,ztw,<-hm,<-hnn];exact f4
theorem zgc {D m:Nat}{v:Value}{xs:List Value}{T:TypeId}(h:W.ownsRow C.w0.heap.size T 3 v m xs)(u:Value):∃ys,(W.setCell ⟨D,2,none⟩ u).ownsRow C.w0.heap.size T 3 v m ys:=by
 by_cases hv:v.ownBlock=some D
 ·obtain⟨hl,hh⟩:=id h
  rcases hh with⟨rfl,-⟩|⟨g,cap,cur,rfl,-⟩
  ·cases hv
  ·cases hv
   exact⟨_,(h.stored 2 u).1⟩
 ·exact⟨xs,ownsRow_setCell_other h (a:=⟨D,2,none⟩) hv u⟩
theorem z7j {F:List Tok->MF->PO}(hM:MOk C 162 F 2 N N' d)(hN:N'<=900000000){ts:List Tok}{f:MF}(hP:PSt C rs ts f d qs w)(hF:Fit 2 N rs ts f)(hg:∀a g,F ts f=.ok a g->g.nodes.length<=900000000)(x:List Nat)(a0:Nat) :
  Calls Tryz.prog 151 #[.pointer (some ⟨C.B,0,none⟩),.agg #[.string (strOf x),.int .i64 (a0:Int),.int .i64 0]] w (RIs C rs x a0 d qs w (F ts f)):=by
 obtain⟨Wd,hWd⟩:∃W,w.alloc (.cells #[.string (strOf x),.int .i64 (a0:Int),.int .i64 0] 173)=W:=⟨_,rfl⟩;have hb1:Below w.heap.size w Wd:=by rw[<-hWd];exact zab w _
 have hD:Bl Wd w.heap.size 173 #[.string (strOf x),.int .i64 (a0:Int),.int .i64 0]:=by rw[<-hWd];exact Bl.new w _ _
 have hPd:=hP.below hb1;have hE:=hM rs qs ts f Wd hPd hF;rw[<-hWd] at hE;have hbase:C.w0.heap.size<=w.heap.size:=hP.1.1.size;obtain⟨csB,hBw⟩:=hP.isB;have hDB:w.heap.size≠C.B:=by have:=hBw.lt;omega
 have hrl:=hF.2.2.1;have hNN:=hF.2.2.2.1;have hrv:w.ownsRow C.w0.heap.size 173 3 C.rv rs.length (defsC rs):=by
  obtain⟨-,n,t,rv,nv,cv,-,-,hR⟩:=hP;have:=hR.2.2.2;rw[hR.2.2.1] at this;exact this
 cases hO:F ts f with
 |bad a dp=>
  rw[hO] at hE;refine(zmb C (strOf x) (a0:Int) w (fun _=>True) (fun W=>St C N' rs d qs Wd (.bad a dp) W) (by rw[hWd] at hE ⊢;exact hE) (fun W hW=>?_)).mono fun e w' h=>zsg (N:=N') (w:=w) (by omega) (fun W hW=>⟨Nat.le_trans hb1.size hW.1.size,hW.2⟩) h
  obtain⟨hK,hF',n,rv,nv,cv,m1,m2,m3,c1,c2,c3,hB,h1,h2,h3,l1,l2,l3⟩:=hW;obtain⟨y,z,rfl⟩:=zad h3;obtain⟨y1,z1,rfl⟩:=zad h1;obtain⟨ys,hys⟩:=zgc (C:=C) (D:=w.heap.size) h3 (.int .i64 ((m1:Int)-1));exact⟨m1,m3,y,z,ys,_,trivial,⟨_,_,rfl⟩,by omega,rfl,by omega,hB,hK.bl hD hDB (by decide),hDB,hF'.1.size,hys⟩
 |ok a g=>
  rw[hO] at hE;have hgn:=hg a g hO;refine(zmb C (strOf x) (a0:Int) w (· = defsC rs) (fun W=>St C N' rs d qs Wd (.ok a g) W) (by rw[hWd] at hE ⊢;exact hE) (fun W hW=>?_)).mono fun e w' h=>z7i (w:=w) (by omega) (fun W hW=>⟨Nat.le_trans hb1.size hW.1.size,by obtain⟨-,tq,h,-⟩:=hW;exact⟨tq,h⟩⟩) h
  obtain⟨hK,tq,⟨hF',n,t,rv,nv,cv,hc,hB,hR⟩,-⟩:=hW;have h3:=hR.2.2.2;have h1:=hR.1.2.1;have hne:rv.ownBlock≠some w.heap.size:=by
   rw[hR.2.2.1];exact zee hrv (Nat.le_refl _)
  obtain⟨y,z,rfl⟩:=zad h3;obtain⟨y1,z1,rfl⟩:=zad h1;exact⟨g.nodes.length,rs.length,y,z,_,_,rfl,⟨_,_,rfl⟩,by omega,rfl,by omega,hB,hK.bl hD hDB (by decide),hDB,hF'.1.size,ownsRow_setCell_other h3 (a:=⟨w.heap.size,2,none⟩) hne _⟩
theorem z2s (hM:MBad C 162 d 2){a:List Tok}{dp:Bool}(hN:N<=800000000)(hP:PBad C (erV a dp) N d w)(st:ByteArray)(a0:Int) :
  Calls Tryz.prog 151 #[.pointer (some ⟨C.B,0,none⟩),.agg #[.string st,.int .i64 a0,.int .i64 0]] w fun e w'=>e=.returned (.tuple #[])/\w.heap.size<=w'.heap.size/\PEnd C (erV a dp) w':=by
 obtain⟨Wd,hWd⟩:∃W,w.alloc (.cells #[.string st,.int .i64 a0,.int .i64 0] 173)=W:=⟨_,rfl⟩;have hb1:Below w.heap.size w Wd:=by rw[<-hWd];exact zab w _
 have hD:Bl Wd w.heap.size 173 #[.string st,.int .i64 a0,.int .i64 0]:=by rw[<-hWd];exact Bl.new w _ _
 have hE:=hM a dp N Wd hN (hP.below hb1);have hbase:C.w0.heap.size<=w.heap.size:=hP.1.1.size;obtain⟨csB,hBw⟩:=hP.isB;have hDB:w.heap.size≠C.B:=by have:=hBw.lt;omega
 refine(zmb C st a0 w (fun _=>True) (fun W=>Kq C.w0.heap.size C.B Wd W/\PBad C (erV a dp) (N+2) d W) (by rw[hWd];exact hE) (fun W hW=>?_)).mono fun e w' h=>zsg (N:=N+2) (w:=w) (by omega) (fun W hW=>⟨Nat.le_trans hb1.size hW.1.size,hW.2⟩) h
 obtain⟨hK,hF',n,rv,nv,cv,m1,m2,m3,c1,c2,c3,hB,h1,h2,h3,l1,l2,l3⟩:=hW;obtain⟨y,z,rfl⟩:=zad h3;obtain⟨y1,z1,rfl⟩:=zad h1;obtain⟨ys,hys⟩:=zgc (C:=C) (D:=w.heap.size) h3 (.int .i64 ((m1:Int)-1));exact⟨m1,m3,y,z,ys,_,trivial,⟨_,_,rfl⟩,by omega,rfl,by omega,hB,hK.bl hD hDB (by decide),hDB,hF'.1.size,hys⟩
end
end
end Go.Proofs.YthhppmehhdlmnaaGreatDoor
