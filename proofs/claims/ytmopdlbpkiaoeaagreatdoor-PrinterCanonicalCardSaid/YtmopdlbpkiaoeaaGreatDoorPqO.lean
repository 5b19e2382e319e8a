/- The parser: primary at a name. The parser's two maps. The parser: primary whole; suffixed, prefixed. The parser: sequence, expression. The parser: rule. The par -/
import Derived.Deep.Cut
import Derived.Maps.Keyed
import Derived.Test.YtmopdlbpkiaoeaaGreatDoorPqN
set_option maxRecDepth 100000
set_option maxHeartbeats 4000000
open Go.IntKind renaming i64->jd, u64->jg
open Go.Value renaming int->je, slice->jf, string->jh, bool->ji, pointer->jj, tuple->jk
namespace Go.Proofs.YtmopdlbpkiaoeaaGreatDoor
open Go.Lib renaming hid->qaa, ownsRow_kind->qb5
open Go.Proofs.Tryz renaming prog->qab, underlying3->qc1
open Go.RowKit.Below renaming drew->qak, refl->qaf
open List renaming append_assoc->qao, flatMap_append->qbp, length_append->qad, length_singleton->qai, mem_append->qau, mem_of_getElem?->qan, mem_singleton->qam
open Nat renaming le_refl->qac, le_trans->qal, lt_succ_self->qas, zero_le->qaj
open Option.some renaming inj->qar
variable {a:List Tok}{D N N1 N2 d r:Nat}{w:World}
section
open Go.RowKit
theorem zwv:(qab.info? 66).map (fun i=>(i.zero,i.size,i.bytes))=some (some (.agg #[jh ⟨#[]⟩,je jd 0]),2,24):=jb
theorem zww {C:PC}{rs:List (List Nat × Nat × Int)}{ts:List Tok}{f:MF}{qs:List Value}{w1 w5:World}{n k a:Nat}{x:List Nat}{r:List (Nat × Nat)}{rv nv cv v':Value}{nd:PN}
  (hF:PFix C w) (hc:Cur C.s ts ⟨k,a,x,r⟩ n) (hB:PB C n ⟨k,a,x,r⟩ .nilIface rv nv cv d w) (hR:PRows C rs (addN f nd) qs rv nv cv w) (hnd:nd=callN f.calls.length)
  (h1:w5.ownsRow C.w0.heap.size 66 2 v' (f.calls.length+1) (zcw f.calls++[jh (strOf x),je jd (a:Int)])) (h2:Below w.heap.size w w1) (h3:w1.grownBy w5 cv.ownBlock) :
  Kq C.w0.heap.size C.B w (w5.setCell ⟨C.B,12,none⟩ v')/\PSt C rs ts (callF f ⟨k,a,x,r⟩) d qs (w5.setCell ⟨C.B,12,none⟩ v'):=by
 subst hnd;obtain⟨-,hK,v'',ho,hB',kp⟩:=(show AppIs C 12 66 2 f.calls.length cv (zcw f.calls) [jh (strOf x),je jd (a:Int)] w (.returned (jk #[])) (w5.setCell ⟨C.B,12,none⟩ v') from⟨rfl,v',w1,w5,h1,h2,h3,rfl⟩).parts hR.2.1 (.inr rfl) hB;have hv:v''=v':=by
  have e1:(w5.setCell ⟨C.B,12,none⟩ v').cell? ⟨C.B,12,none⟩=some v'':=hB'.cell rfl;have e2:∃u,w5.cell? ⟨C.B,12,none⟩=some u:=by
   have hk1:=qb5 (zab hR.2.1 h2);have hB5:=Bl.grown (Bl.below hB h2) h3 (fun g e=>by
    obtain⟨c,fz,hc⟩:=hk1 g e;exact⟨c,66,fz,hc,ja⟩)
   exact⟨_,hB5.cell rfl⟩
  obtain⟨u,e2⟩:=e2;rw[css e2] at e1;exact(qar e1).symm
 subst hv;refine⟨hK,hF.kept hK,n,⟨k,a,x,r⟩,rv,nv,v'',hc,hB',⟨hR.1.1,kp _ _ _ _ _ _ hR.1.2.1 ja ja,fun j m q e1 e2=>kp _ _ _ _ _ _ (hR.1.2.2 j m q e1 e2) ja ja⟩,?_,hR.2.2.1,kp _ _ _ _ _ _ hR.2.2.2 ja ja⟩;show(w5.setCell ⟨C.B,12,none⟩ v'').ownsRow C.w0.heap.size 66 2 v'' (f.calls++[(x,a)]).length (zcw (f.calls++[(x,a)]));rw[qad,qai];unfold zcw;rw[qbp];simpa [nameC,zcw] using ho
section
variable (C:PC) (hSg:SignsAt C.w0) (hs:C.s.size<=1050000) {N d:Nat} (rs:List (List Nat × Nat × Int)) (qs:List Value) (f:MF) (w:World) (a:Nat) (x:List Nat) (r:List (Nat × Nat)) (tl:List Tok)
include hSg hs in
theorem zwx (hP:PSt C rs (⟨1,a,x,r⟩::tl) f d qs w)(hF:Fit 0 N rs (⟨1,a,x,r⟩::tl) f) :
  Calls qab 162 #[jj (some ⟨C.B,0,none⟩)] w (DoIs C N rs d qs w (acc false tl (callF f ⟨1,a,x,r⟩))):=by
 have hP0:=hP;obtain⟨hF',n,t,rv,nv,cv,hc,hB,hR⟩:=hP;have ht:t=⟨1,a,x,r⟩:=by obtain⟨-,-,tl',e,-⟩:=hc;cases e;rfl
 subst ht;obtain⟨⟨-,-,b2,b3,b4,b5,b6,b7,b8⟩,⟨-,-,-,b12,-⟩,-,bl⟩:=seventeen hB;have hwt:wt (⟨1,a,x,r⟩::tl)=x.length+3+wt tl:=rfl;obtain⟨f1,f2,f3,f4,f5⟩:=hF;have hlen:(⟨1,a,x,r⟩::tl:List Tok).length=tl.length+1:=rfl;obtain⟨ca,cc,rfl⟩:=zag hR.2.1;obtain⟨ie,hie,hze0,hze1,hze2⟩:=info_parts zwv;obtain⟨m,hm⟩:∃m,f.calls.length=m:=⟨_,rfl⟩;have HP:=qaa fun(W:World) (h:Below w.heap.size w W)=>zkv C rs _ f d qs W (callN m) none 0 (hP0.below h) (World.ownsRow_nil _ _ _ _) U
 have HA:=qaa fun(W:World) (h:St C N rs d qs w (.ok (⟨1,a,x,r⟩::tl) (callF f ⟨1,a,x,r⟩)) W)=>zhh hSg hs h ⟨by show(f.nodes++[_]).length<=_;rw[qad,qai];omega,by show(f.calls++[_]).length<=_;rw[qad,qai];omega,f3⟩ (show(1:Nat)≠0 by decide)
 have hlw:=hF'.1.size;have hmb:m<=1000000000:=U
 have hnv:ndV (callN m) (jf none 0 (callN m).kids.length)=.agg #[je jd 2,jf none 0 0,je jd (m:Int),je jg 0,je jg 0,je jg 0,je jg 0]:=rfl;have HM:=qaa hm;rw[hm] at b12;obtain⟨st,hst⟩:∃y,strOf x=y:=⟨_,rfl⟩;have HST:=qaa hst;rw[hst] at b4;have hTok:=Bl.new w 95 #[je jd 1,je jd (a:Int),jh st,je jg (setW (inRs r) 0),je jg (setW (inRs r) 1),je jg (setW (inRs r) 2),je jg (setW (inRs r) 3)];obtain⟨x0,hx0⟩:∃y,setW (inRs r) 0=y:=⟨_,rfl⟩;obtain⟨x1,hx1⟩:∃y,setW (inRs r) 1=y:=⟨_,rfl⟩;obtain⟨x2,hx2⟩:∃y,setW (inRs r) 2=y:=⟨_,rfl⟩;obtain⟨x3,hx3⟩:∃y,setW (inRs r) 3=y:=⟨_,rfl⟩;rw[hx0] at b5 hTok;rw[hx1] at b6 hTok;rw[hx2] at b7 hTok;rw[hx3] at b8 hTok;have HTOK:=qaa hTok;clear hP0 hR hwt f1 f2 f3 f4 f5 hSg hs hlen hm hst hTok hx0 hx1 hx2 hx3 hnv hc hB hF';go_enter Tryz.func162,Tryz.ntmps162
 go_upto_region 5 with(go_at_call 140;(refine(HP.out _ (zaa w _)).mono ?_);rintro e w3 h;have h1:=h.1;subst h1;have H3:=qaa h;clear h)
 clear b2 b3 b4 b5 b6 b7 b8 b12;obtain⟨-,hK3,hP3⟩:=H3.out;have hT3:=hK3.bl HTOK.out U ja;have hq3:St C N rs d qs w (.ok (⟨1,a,x,r⟩::tl) (addN f (callN m))) w3:=⟨(Kq.of_below (zaa w _)).trans hK3,[jf none 0 0],hP3,fun q hq b hb=>by
  obtain rfl:=qam.1 hq;cases hb⟩
 have hKw:Kq C.w0.heap.size C.B w w3:=hq3.1;obtain⟨hF3,n3,t3,rv3,nv3,cv3,hc3,hB3,hR3⟩:=hP3;have ht:t3=⟨1,a,x,r⟩:=by obtain⟨-,-,tl',e,-⟩:=hc3;cases e;rfl
 subst ht;obtain⟨-,⟨-,-,-,b12,-⟩,bf,bl3⟩:=seventeen hB3;have hO3:=hR3.2.1;have hcl:(addN f (callN m)).calls.length=m:=HM.out;rw[hcl] at hO3;obtain⟨ca3,cc3,rfl⟩:=zag hO3;have HO3:=qaa hO3;have HB3:=qaa hB3;have hsz3:=hK3.size;have T1:w3.cell? ⟨w.heap.size,1,none⟩=some (je jd (a:Int)):=hT3.cell rfl;have T2:w3.cell? ⟨w.heap.size,2,none⟩=some (jh st):=hT3.cell rfl;have hwl:=hT3.lt;have hbase:C.w0.heap.size<=w3.heap.size:=by have:=hKw.size;omega
 have HAPP:=qaa fun(v':Value) (w1 w5:World) (h1:w5.ownsRow C.w0.heap.size 66 2 v' (m+1) (zcw (addN f (callN m)).calls++[jh st,je jd (a:Int)])) (h2:Below w3.heap.size w3 w1) (h3:w1.grownBy w5 (Value.slice ca3 m cc3).ownBlock)=>(by
  have hm:=HM.out;have hst:=HST.out;subst hst;subst hm;obtain⟨k1,k2⟩:=zww (f:=f) (nd:=callN f.calls.length) hF3 hc3 hB3 hR3 rfl h1 h2 h3;exact⟨hKw.trans k1,[jf none 0 0],k2,fun q hq b hb=>by
   obtain rfl:=qam.1 hq;cases hb⟩:St C N rs d qs w (.ok (⟨1,a,x,r⟩::tl) (callF f ⟨1,a,x,r⟩)) (w5.setCell ⟨C.B,12,none⟩ v'))
 clear hq3 hO3 hR3 hc3 hF3 hKw hT3 hK3 hcl hsz3 hB3 HM HST H3 HP HTOK
 go_region_law (refine zcs (by rfl) _ _ 44 (by rfl) C.w0.heap.size 66 ie _ 2 24 Tryz.underlying44 hie hze0 hze1 hze2 (by rfl) ja (jf ca3 m cc3) m _ (by simp[Act.eval]) (by refine zab HO3.out ?_;repeat (first|exact qaf _ _|refine qak ?_|refine zac ?_ rfl _)) _ 1 1 [jh st,je jd (a:Int)] (by simp[Act.eval];rfl) (by rfl) (by refine Bl.news (t:=66) ?_;repeat (first|(refine Bl.new' ?_;simp;done)|refine Bl.drew ?_|refine Bl.past ?_)) (by simp[Value.oneCell']) (by unfold maxLen;omega) U (by simp;omega) ?_;intro a5 c5 w5 hown5 hgrow5 hat5;have hbw5:Hid (Below w3.heap.size w3 (w3.alloc (.cells #[jh st,je jd (a:Int)] 66)).drew):=qaa (qak (zac (qaf _ _) rfl _));have hg5:=(HB3.out.same hbw5.out).grown hgrow5 (fun g e=>by obtain⟨c,fz,hc⟩:=qb5 (zab HO3.out hbw5.out) g e;exact⟨c,66,fz,hc,ja⟩);obtain⟨-,⟨-,-,-,x12,-⟩,xf,xl⟩:=seventeen hg5;have HO5:=qaa hown5;have HG5:=qaa hgrow5;clear hown5 hgrow5 hat5 hg5)
 all_goals
  have HS5:=qaa (HAPP.out _ _ _ HO5.out hbw5.out HG5.out);clear HAPP HO5 HG5 hbw5 HB3 HO3 b12 bf T1 T2 x12 xf
  go_wp2_with (go_at_call 70;(with_reducible refine(HA.out _ HS5.out).mono ?_);rintro e w4 h;have h1:=h.1;subst h1;have H4:=qaa h.2;clear h)
  go_end0
  exact⟨rfl,H4.out⟩
end
end
section
open Go.RowKit Go.Maps
theorem zhi:Keyed qab 3:=int_keyed qc1
theorem zck (n:Nat)(hn:n<=1000):keyOf qab 3 (.int .i64 (n:Int))=some (.int .i64 (n:Int)):=keyOf_int_mk qc1 (by
 show decide _=true;rw[decide_eq_true_eq];have h1:(-9223372036854775808:Int)<=(n:Int):=U
 have h2:(n:Int)<=9223372036854775807:=U
 first
  |exact⟨h1,h2⟩
  |(simp;omega))
theorem zwy {b:Nat}{es:Array MapEntry}{clock:Nat}(hb:w.heap[b]?=some (.map es clock))(hk:∀e ∈ es.toList,∃l,keyOf qab 3 e.key=some l)(n:Nat)(hn:n<=1000)(h:∀e ∈ es.toList,e.key≠.int .i64 (n:Int)) :
  (Instr.lookup 118 (.map (some b)) (je jd (n:Int)) true).run qab w=.ok (jk #[je jd 0,ji false]) w:=by
 rcases zhi.find w (zck n hn) es.toList hk with⟨h1,-⟩|⟨j,e,-,h2,h3⟩
 ·simp[Instr.lookup,run_underlying Tryz.underlying118,MapKept.run_getObj_map hb,zhi.check w _ (zck n hn),h1,Result.andThen]
 ·exact absurd h3 (h e (qan h2))
theorem zrt {b:Nat}{es:Array MapEntry}{clock:Nat}(hb:w.heap[b]?=some (.map es clock))(hk:∀e ∈ es.toList,∃l,keyOf qab 3 e.key=some l)(n:Nat)(hn:n<=1000)(v:Value)(h:∃e ∈ es.toList,e.key=.int .i64 (n:Int))(hv:∀e ∈ es.toList,e.key=.int .i64 (n:Int)->e.val=v) :
  (Instr.lookup 118 (.map (some b)) (je jd (n:Int)) true).run qab w=.ok (jk #[v,ji true]) w:=by
 rcases zhi.find w (zck n hn) es.toList hk with⟨-,h1⟩|⟨j,e,h1,h2,h3⟩
 ·obtain⟨e,he,hk⟩:=h
  exact absurd hk (h1 e he)
 ·have:=hv e (qan h2) h3
  simp[Instr.lookup,run_underlying Tryz.underlying118,MapKept.run_getObj_map hb,zhi.check w _ (zck n hn),h1,this,Result.andThen]
theorem zru:∀e ∈ [(⟨.int .i64 4,.int .i64 8,0⟩:MapEntry),⟨.int .i64 5,.int .i64 9,1⟩],∃l,keyOf qab 3 e.key=some l:=by
 intro e he;simp at he;rcases he with rfl|rfl
 ·exact⟨_,zck 4 ja⟩
 ·exact⟨_,zck 5 ja⟩
theorem zrv:∀e ∈ [(⟨.int .i64 6,.int .i64 7,0⟩:MapEntry),⟨.int .i64 7,.int .i64 5,1⟩,⟨.int .i64 8,.int .i64 6,2⟩],∃l,keyOf qab 3 e.key=some l:=by
 intro e he;simp at he;rcases he with rfl|rfl|rfl
 ·exact⟨_,zck 6 ja⟩
 ·exact⟨_,zck 7 ja⟩
 ·exact⟨_,zck 8 ja⟩
section
variable {w:World} {b:Nat}
theorem z6m (hb:w.heap[b]?=some preO)(n:Nat)(hn:n<=1000)(h:n≠4/\n≠5):(Instr.lookup 118 (.map (some b)) (je jd (n:Int)) true).run qab w=.ok (jk #[je jd 0,ji false]) w:=
 zwy hb zru n hn (fun e he=>by
  simp at he;rcases he with rfl|rfl<;>(intro e;injection e;omega))
theorem z4m (hb:w.heap[b]?=some preO)(n:Nat)(h:n=4∨n=5):(Instr.lookup 118 (.map (some b)) (je jd (n:Int)) true).run qab w=.ok (jk #[je jd (preOp n),ji true]) w:=
 zrt hb zru n U _ (by rcases h with rfl|rfl<;>simp) (fun e he=>by
  simp at he;rcases he with rfl|rfl<;>(intro e;injection e with _ e;rcases h with rfl|rfl<;>first|rfl|omega))
theorem z6n (hb:w.heap[b]?=some sufO)(n:Nat)(hn:n<=1000)(h:¬(6<=n/\n<=8)):(Instr.lookup 118 (.map (some b)) (je jd (n:Int)) true).run qab w=.ok (jk #[je jd 0,ji false]) w:=
 zwy hb zrv n hn (fun e he=>by
  simp at he;rcases he with rfl|rfl|rfl<;>(intro e;injection e;omega))
theorem z4n (hb:w.heap[b]?=some sufO)(n:Nat)(h:6<=n/\n<=8):(Instr.lookup 118 (.map (some b)) (je jd (n:Int)) true).run qab w=.ok (jk #[je jd (sufOp n),ji true]) w:=by
 have h:n=6∨n=7∨n=8:=U
 exact zrt hb zrv n U _ (by rcases h with rfl|rfl|rfl<;>simp) (fun e he=>by
  simp at he;rcases he with rfl|rfl|rfl<;>(intro e;injection e with _ e;rcases h with rfl|rfl|rfl<;>first|rfl|omega))
end
end
section
open Go.RowKit
theorem z4o (C:PC)(hSg:SignsAt C.w0)(hs:C.s.size<=1050000){rec:List Tok->MF->PO}{N':Nat}(hr:r+d=200)(hM:0<r->MOk C 97 rec 2 N N' (d+1)/\MBad C 97 (d+1) 2)(hG:Grow 0 2 rec)(hN:N+2<=N')(hN':N'<=100000000) :
  MOk C 162 (primL false r rec) 0 N N' d:=by
 intro rs qs ts f w hP hF;have up:∀ {o:PO},Calls qab 162 #[jj (some ⟨C.B,0,none⟩)] w (DoIs C N rs d qs w o)->Calls qab 162 #[jj (some ⟨C.B,0,none⟩)] w (DoIs C N' rs d qs w o):=fun h=>h.mono fun e w' h=>⟨h.1,h.2.mono U⟩
 obtain⟨k,a,x,r0,tl,rfl,h99,-⟩:=hP.token;unfold primL;dsimp only;by_cases h1:k=1
 ·subst h1
  rw[if_pos rfl,if_neg jc];exact up (zwx C hSg hs rs qs f w a x r0 tl hP hF)
 rw[if_neg h1];by_cases h9:k=9
 ·subst h9
  rw[if_pos rfl];by_cases h0:r=0
  ·rw[if_pos h0]
   obtain rfl:d=200:=U
   have hb:=hF;obtain⟨f1,f2,f3,-⟩:=hb;exact zn0 C rs qs f w a x r0 tl _ hP fun W hW=>(z0d C rs qs _ f w W hW ⟨U,U,f3⟩).mono fun e w' h=>⟨h.1,h.2.mono U⟩
  ·rw[if_neg h0]
   obtain⟨m1,m2⟩:=hM U;exact zn0 (N:=N) C rs qs f w a x r0 tl _ hP fun W hW=>z4k C hSg hs U m1 m2 hG hN ⟨U,hN'⟩ rs qs _ f w W hW hF rfl
 rw[if_neg h9];by_cases h12:k=12
 ·subst h12
  rw[if_pos rfl];exact up (z0h C hSg hs rs qs f w a x r0 tl hP hF)
 rw[if_neg h12];by_cases h13:k=13
 ·subst h13
  rw[if_pos rfl];exact up (z0g C hSg hs rs qs f w a x r0 tl hP hF)
 rw[if_neg h13];by_cases h11:k=11
 ·subst h11
  rw[if_pos rfl];exact up (z0f C hSg hs rs qs f w a x r0 tl hP hF)
 rw[if_neg h11];exact up (z4l C rs qs f w _ ⟨h1,h9,h12,h13,h11⟩ hP hF)
section
variable {C:PC} {N N':Nat} {rs:List (List Nat × Nat × Int)} {d:Nat} {qs tq:List Value} {w W w':World} {o:PO} {e:Ending} {kv:Value} {ks:MF->List Int}
theorem KSt.accepts {g:MF}(hSg:SignsAt C.w0)(hs:C.s.size<=1050000)(h:KSt C N rs d qs w kv ks (.ok a g) W)(hF:g.nodes.length<=N/\g.calls.length<=N/\rs.length<=N)(h0:kd a≠0)(hk:(ks g).length<=200000000) :
  Calls qab 70 #[jj (some ⟨C.B,0,none⟩)] W fun e w'=>e=.returned (jk #[])/\KSt C N rs d qs w kv ks (acc false a.tail g) w':=by
 obtain⟨kq,hb,hrow,tq,hP,ht⟩:=h;refine(zhf C hSg hs rs a g d (qs++tq) W N hP h0 hF.1 hF.2.1 hF.2.2).mono fun e w' h=>⟨h.1,kq.trans h.2.1,hb,?_⟩
 obtain⟨-,hK,h2⟩:=h;obtain⟨cs,hB⟩:=hP.isB;have hrow':=hK.own hrow ja (zaq hrow hB ja);by_cases hc:kd a.tail=99
 ·have ha:acc false a.tail g=.bad a.tail false:=if_pos ⟨rfl,hc⟩
  rw[ha] at h2 ⊢;exact⟨⟨_,_,hk,hrow'⟩,h2⟩
 ·have ha:acc false a.tail g=.ok a.tail g:=if_neg (fun h=>hc h.2)
  rw[ha] at h2 ⊢;obtain⟨t2,h3,h4⟩:=h2;refine⟨hrow',tq++t2,by rw[<-qao];exact h3,fun q hq b hqb=>?_⟩;rcases qau.1 hq with hq|hq
  ·exact ht q hq b hqb
  ·exact⟨qal kq.size (h4 q hq b hqb),ze8 hrow (h4 q hq b hqb)⟩
theorem KSt.node (h:KSt C N rs d qs w kv ks o W)(op:Int)(hN:N<=900000000)(hn:∀a g,o=.ok a g->g.nodes.length<=900000000) :
  Calls qab 140 #[jj (some ⟨C.B,0,none⟩),.agg #[je jd op,kv,je jd 0,je jg 0,je jg 0,je jg 0,je jg 0]] W (DoIs C (N+1) rs d qs w (o.bind fun a g=>.ok a (addN g (mkN op (ks g))))):=by
 obtain⟨kq,hb,h⟩:=h;cases o with
 |bad a dp=>
  obtain⟨⟨k,xs,hk,hrow⟩,hP⟩:=h;obtain⟨ka,kc,rfl⟩:=zag hrow;exact(zpx C _ N d W op 0 0 0 0 0 ka k kc hP U).mono fun e w' h=>⟨h.1,kq.trans h.2.1,h.2.2⟩
 |ok a g=>
  obtain⟨hrow,tq,hP,ht⟩:=h;obtain⟨ka,kc,rfl⟩:=zag hrow;refine(zkv C rs a g d (qs++tq) W (mkN op (ks g)) ka kc hP hrow (by have:=hn a g rfl;omega)).mono fun e w' h=>⟨h.1,kq.trans h.2.1,tq++[jf ka (ks g).length kc],?_,fun q hq b hqb=>?_⟩
  ·rw[<-qao];exact h.2.2
  ·rcases qau.1 hq with hq|hq
   ·exact(ht q hq b hqb).1
   ·obtain rfl:=qam.1 hq
    exact hb b hqb
theorem KSt.fix (h:KSt C N rs d qs w kv ks o W):PFix C W:=by
 obtain⟨k,-,h⟩:=h;cases o with
 |bad a dp=>exact h.2.1
 |ok a g=>obtain⟨-,t2,h1,-⟩:=h;exact h1.1
theorem KSt.maps (h:KSt C N rs d qs w kv ks o W):W.cell? ⟨C.B,15,none⟩=some (.map (some C.mp))/\W.cell? ⟨C.B,16,none⟩=some (.map (some C.ms))/\C.B<W.heap.size:=by
 obtain⟨k,-,h⟩:=h;cases o with
 |bad a dp=>
  obtain⟨-,-,n,rv,nv,cv,m1,m2,m3,c1,c2,c3,hB,-⟩:=h;obtain⟨-,⟨-,-,-,-,-,-,h1,h2⟩,-,h3⟩:=seventeen hB;exact⟨h1,h2,h3⟩
 |ok a g=>
  obtain⟨-,t2,⟨-,n,t,rv,nv,cv,-,hB,-⟩,-⟩:=h;obtain⟨-,⟨-,-,-,-,-,-,h1,h2⟩,-,h3⟩:=seventeen hB;exact⟨h1,h2,h3⟩
theorem zrw (C:PC)(hSg:SignsAt C.w0)(hs:C.s.size<=1050000){N:Nat}{rs:List (List Nat × Nat × Int)}{d:Nat}{qs:List Value}{w w0:World}{o:PO}
  (hK:Calls qab 117 #[jj (some ⟨C.B,0,none⟩),jf none 0 0,.func (.func 162) #[] #[]] w fun e w'=>∃kv',e=.returned kv'/\KSt C N1 rs d qs w0 kv' (fun g'=>[]++[lastI g']) o w')
  (hk:o.kind<=99) (hF:∀a g,o=.ok a g->Fit 0 N rs a g/\N<=N1/\N1+1<=N2) (hN:N1<=N2/\N2<=900000000) :
  Calls qab 154 #[jj (some ⟨C.B,0,none⟩)] w (DoIs C N2 rs d qs w0 (o.bind (sufK false))):=by
 have HK:=qaa hK;clear hK;by_cases h68:6<=o.kind/\o.kind<=8
 ·cases o with
  |bad a dp=>exact absurd h68.1 (show ¬6<=0 by decide)
  |ok a g=>
   obtain⟨hf,hn1,hn2⟩:=hF a g rfl;have h0:kd a≠0:=by have:6<=kd a:=h68.1;omega
   obtain⟨f1,f2,f3,f4,-⟩:=hf;have hO:(PO.ok a g).bind (sufK false)=(acc false a.tail g).bind fun a' g'=>.ok a' (addN g' (mkN (sufOp (kd a)) ([]++[lastI g']))):=by
    show sufK false a g=_;unfold sufK;rw[if_pos (show 6<=kd a/\kd a<=8 from h68)];unfold acc;by_cases h:kd a.tail=99
    ·rw[if_pos ⟨rfl,h⟩,if_pos ⟨rfl,h⟩];rfl
    ·rw[if_neg (fun k=>h k.2),if_neg (fun k=>h k.2)];rfl
   have HO:=qaa hO;have HA:=qaa fun(kv:Value) (W:World) (h:KSt C N1 rs d qs w0 kv (fun g'=>[]++[lastI g']) (.ok a g) W)=>h.accepts hSg hs ⟨U,U,U⟩ h0 (by show 1<=_;omega)
   have HN:=qaa fun(kv:Value) (W:World) (h:KSt C N1 rs d qs w0 kv (fun g'=>[]++[lastI g']) (acc false a.tail g) W)=>(h.node (sufOp (kd a)) U (fun a' g' e=>by
    unfold acc at e;split at e
    ·cases e
    ·cases e;omega)).mono fun e w' h=>(⟨h.1,h.2.mono hn2⟩:DoIs C N2 rs d qs w0 _ e w')
   have HL:=qaa fun(W:World) (h:W.heap[C.ms]?=some sufO)=>z4n h (kd a) h68
   have hkk:(PO.ok a g).kind=kd a:=rfl;rw[hkk] at h68;have H68:=qaa h68;obtain⟨k,hkd⟩:∃k:Int,(kd a:Int)=k:=⟨_,rfl⟩;rw[hkd] at HL;have HKD:=qaa hkd;obtain⟨op,hop⟩:∃y,sufOp (kd a)=y:=⟨_,rfl⟩;rw[hop] at HL HN HO;clear hO f1 f2 f3 f4 h0 h68 hkk hkd hop hk hF hN hn1 hn2 hSg hs;go_enter Tryz.func154,Tryz.ntmps154
   go_upto_region 1 with(go_at_call 117;(with_reducible refine HK.out.mono ?_);rintro e w1 h;obtain⟨kv,rfl,h⟩:=h;obtain⟨ka,kn,kc,rfl⟩:=h.slice;have HK1:=qaa h;clear h)
   have c2:=HK1.out.kind;rw[show((PO.kind (.ok a g):Nat):Int)=k from HKD.out] at c2;obtain⟨-,c16,bl⟩:=HK1.out.maps;have hl:=HL.out w1.drew HK1.out.fix.2.2.2.2.2
   go_region_with fail
   all_goals
    clear c2 c16 hl
    go_wp2_with (first
     |(go_at_call 70;(with_reducible refine(HA.out (jf ka kn kc) _ ?_).mono ?_);(· exact HK1.out.below (qaf _ _).drew);rintro e w2 h;have h1:=h.1;subst h1;have H2:=qaa h.2;clear h)
     |(go_at_call 140;(with_reducible refine(HN.out _ _ H2.out).mono ?_);rintro e w3 h;have h1:=h.1;subst h1;have H3:=qaa h.2;clear h))
    go_end0
    exact⟨rfl,by rw[HO.out];exact H3.out⟩
 ·have hO:o.bind (sufK false)=o:=by
   cases o with
   |bad a dp=>rfl
   |ok a g=>
    show sufK false a g=_;unfold sufK;exact if_neg h68
  have HO:=qaa hO;have HL:=qaa fun(W:World) (h:W.heap[C.ms]?=some sufO)=>z6n h o.kind U h68
  obtain⟨k,hkd⟩:∃k:Int,(o.kind:Int)=k:=⟨_,rfl⟩;rw[hkd] at HL;have HKD:=qaa hkd;have hn:=hN.1;clear hO h68 hkd hk hF hN hSg hs;go_enter Tryz.func154,Tryz.ntmps154
  go_upto_region 1 with(go_at_call 117;(with_reducible refine HK.out.mono ?_);rintro e w1 h;obtain⟨kv,rfl,h⟩:=h;obtain⟨ka,kn,kc,rfl⟩:=h.slice;have HK1:=qaa h;clear h)
  have c2:=HK1.out.kind;rw[HKD.out] at c2;obtain⟨-,c16,bl⟩:=HK1.out.maps;have hl:=HL.out w1.drew HK1.out.fix.2.2.2.2.2
  go_region_with fail
  all_goals
   clear c2 c16 hl;go_wp2
   go_end0
   exact⟨rfl,by rw[HO.out];exact(HK1.out.below (qaf _ _).drew).st.mono hn⟩
theorem z6o (C:PC)(hSg:SignsAt C.w0)(hs:C.s.size<=1050000){rec:List Tok->MF->PO}{N d:Nat}(hM:MOk C 162 (primL false r rec) 0 N N1 d)(hG:Grow 0 2 rec)(hN:N<=N1/\N1+1<=N2/\N2<=900000000):MOk C 154 (sufL false r rec) 0 N N2 d:=by
 intro rs qs ts f w hP hF;have hg:=Gr.prim (st:=false) (room:=r) hG ts f;have hgf:∀a g,primL false r rec ts f=.ok a g->Fit 0 N rs a g:=fun a g e=>by rw[e] at hg;exact hF.next hg (qac _)
 refine zrw C hSg hs (N:=N) (N1:=N1) (zp4 hM U hF hP.lt (St.start (N:=N) hP).nokids (qaj _) (fun a g e=>by have:=(hgf a g e).1;have:=(hgf a g e).2.2.2.1;omega)) ?_ (fun a g e=>⟨hgf a g e,U,U⟩) ⟨U,U⟩;cases e:primL false r rec ts f with
 |bad a dp=>exact qaj _
 |ok a g=>exact(hgf a g e).kind
theorem z4p (C:PC)(hSg:SignsAt C.w0)(hs:C.s.size<=1050000)(d:Nat):MBad C 154 d 0:=by
 intro a dp N w hN hP;have:=zrw C hSg hs (N:=N) (N1:=N) (N2:=N) (rs:=[]) (d:=d) (qs:=[]) (w0:=w) (znz (ks:=fun _=>[]) (z0i C) ⟨hN,U⟩ (St.nokids ⟨Kq.refl w,hP⟩) (fun a' n c' e=>by injection e;omega)) (o:=.bad a dp) (qaj _) (fun a g e=>by cases e) ⟨qac _,U⟩;exact this.mono fun e w' h=>⟨h.1,h.2.1,h.2.2⟩
section
variable {C:PC} {N N' N1:Nat} {rs:List (List Nat × Nat × Int)} {d:Nat} {qs:List Value} {w W:World} {o:PO}
theorem zp5 {F:List Tok->MF->PO}(hM:MOk C 154 F 0 N N' d)(hB:MBad C 154 d 0)(h:St C N rs d qs w o W)(hlt:∀q,q ∈ qs->∀b,q.ownBlock=some b->b<w.heap.size)(hF:∀a g,o=.ok a g->Fit 0 N rs a g)(hg:∀a g a' g',o=.ok a g->F a g=.ok a' g'->g'.nodes.length<=900000000)(hN:N<=N'/\N'<=800000000) :
  Calls qab 117 #[jj (some ⟨C.B,0,none⟩),jf none 0 0,.func (.func 154) #[] #[]] W fun e w'=>∃kv',e=.returned kv'/\KSt C N' rs d qs w kv' (fun g'=>[]++[lastI g']) (o.bind F) w':=by
 cases o with
 |bad a dp=>
  refine(zp3 (m:=0) (ks':=fun g'=>[]++[lastI g']) hB ⟨U,U⟩ h.nokids (fun a' n c' e=>by injection e;omega)).mono ?_;rintro e w' ⟨kv',h1,h2⟩;exact⟨kv',h1,h2.mono hN.1⟩
 |ok a g=>exact zti hM U (hF a g rfl) hlt h.nokids (qaj _) (fun a' g' e=>hg a g a' g' rfl e)
end
theorem zwz (B k mp:Nat)(w:World)(Q:World->Prop)(hk:k<=1000/\k≠4/\k≠5)(hm:w.heap[mp]?=some preO)(b2:w.cell? ⟨B,2,none⟩=some (je jd (k:Int)))(b15:w.cell? ⟨B,15,none⟩=some (.map (some mp)))
  (hE:∀W,Below w.heap.size w W->Calls qab 154 #[jj (some ⟨B,0,none⟩)] W fun e w'=>e=.returned (jk #[])/\Q w') :
  Calls qab 139 #[jj (some ⟨B,0,none⟩)] w fun e w'=>e=.returned (jk #[])/\Q w':=by
 have HE:=qaa hE;have hl:=z6m (w:=w.drew) hm k hk.1 hk.2;obtain⟨z,hz⟩:∃z:Int,(k:Int)=z:=⟨_,rfl⟩;rw[hz] at hl b2;clear hE hk hz hm;go_enter Tryz.func139,Tryz.ntmps139;go_wp2
 go_region_with fail
 all_goals
  clear b2 b15 hl
  go_wp2_with (go_at_call 154;(with_reducible refine(HE.out _ (qaf _ _).drew).mono ?_);rintro e w3 h;have h1:=h.1;subst h1;have H3:=qaa h.2;clear h)
  refine bodyPost_ret (results_none rfl _ _ _) rfl ?_;exact⟨rfl,H3.out⟩
end
theorem z0j (st:Bool)(r:Nat)(rec:List Tok->MF->PO)(ts:List Tok)(f:MF)(h:kd ts=4∨kd ts=5) :
  preL st r rec ts f=((acc st ts.tail f).bind (sufL st r rec)).bind fun c d=>.ok c (addN d (mkN (preOp (kd ts)) ([]++[lastI d]))):=by
 unfold preL;rw[if_pos h];cases acc st ts.tail f with
 |bad a dp=>rfl
 |ok a g=>rfl
theorem z6p (C:PC)(hSg:SignsAt C.w0)(hs:C.s.size<=1050000){rec:List Tok->MF->PO}(hM:MOk C 154 (sufL false r rec) 0 N N1 d)(hG:Grow 0 2 rec)(hN:N<=N1/\N1+1<=N2/\N2<=800000000):MOk C 139 (preL false r rec) 0 N N2 d:=by
 intro rs qs ts f w hP hF;by_cases h45:kd ts=4∨kd ts=5
 ·have hB:=z4p C hSg hs d
  have h0:kd ts≠0:=U
  have hF1:Fit 0 N rs ts.tail f:=hF.tail h0 U;have o1F:∀a g,acc false ts.tail f=.ok a g->Fit 0 N rs a g:=fun a g h=>by
   unfold acc at h;split at h
   ·cases h
   ·cases h;exact hF1
  have hgf:∀a g a' g',acc false ts.tail f=.ok a g->sufL false r rec a g=.ok a' g'->Fit 0 N rs a' g':=fun a g a' g' h1 h2=>by
   have hg:=Gr.suf (st:=false) (room:=r) hG a g;rw[h2] at hg;exact(o1F a g h1).next hg (qac _)
  have HO:=qaa (z0j false r rec ts f h45);have hst:=St.start (N:=N) hP;have HA:=qaa fun(W:World) (h:Below w.heap.size w W)=>zhh hSg hs (hst.below h) ⟨by have:=hF.1;omega,by have:=hF.2.1;omega,hF.2.2.1⟩ h0
  have HK:=qaa fun(W:World) (h:St C N rs d qs w (acc false ts.tail f) W)=>zp5 hM hB h hP.lt o1F (fun a g a' g' h1 h2=>by have:=(hgf a g a' g' h1 h2).1;have:=hF.2.2.2.1;omega) ⟨hN.1,U⟩
  have HN:=qaa fun(kv:Value) (W:World) (h:KSt C N1 rs d qs w kv (fun g'=>[]++[lastI g']) ((acc false ts.tail f).bind (sufL false r rec)) W)=>(h.node (preOp (kd ts)) U (fun a' g' e=>by
   cases ho:acc false ts.tail f with
   |bad a dp=>rw[ho] at e;cases e
   |ok a g=>
    rw[ho] at e;have:=(hgf a g a' g' ho e).1;have:=hF.2.2.2.1;omega)).mono fun e w' h=>(⟨h.1,h.2.mono hN.2.1⟩:DoIs C N2 rs d qs w _ e w')
  have hl:=z4m (w:=w.drew) hP.1.2.2.2.2.1 (kd ts) h45;have c2:=hP.kind;obtain⟨-,c15,-⟩:True/\w.cell? ⟨C.B,15,none⟩=some (.map (some C.mp))/\True:=by
   obtain⟨-,n,t,rv,nv,cv,-,hB,-⟩:=hP;exact⟨trivial,(seventeen hB).2.1.2.2.2.2.2.2.1,trivial⟩
  obtain⟨cs,hBl⟩:=hP.isB;have bl:=hBl.lt;obtain⟨z,hz⟩:∃z:Int,(kd ts:Int)=z:=⟨_,rfl⟩;rw[hz] at hl c2;obtain⟨op,hop⟩:∃y,preOp (kd ts)=y:=⟨_,rfl⟩;rw[hop] at hl HN HO;clear h45 hB h0 hF1 o1F hgf hst hz hop hP hF hM hG hN hSg hs hBl;go_enter Tryz.func139,Tryz.ntmps139;go_wp2
  go_region_with fail
  all_goals
   clear c2 c15 hl
   go_wp2_with (first
    |(go_at_call 70;(with_reducible refine(HA.out _ (qaf _ _).drew).mono ?_);rintro e w2 h;have h1:=h.1;subst h1;have H2:=qaa h.2;clear h)
    |(go_at_call 117;(with_reducible refine(HK.out _ H2.out).mono ?_);rintro e w1 h;obtain⟨kv,rfl,h⟩:=h;obtain⟨ka,kn,kc,rfl⟩:=h.slice;have HK1:=qaa h;clear h)
    |(go_at_call 140;(with_reducible refine(HN.out _ _ HK1.out).mono ?_);rintro e w3 h;have h1:=h.1;subst h1;have H3:=qaa h.2;clear h))
   go_end0
   exact⟨rfl,by rw[HO.out];exact H3.out⟩
 ·have hp:preL false r rec ts f=sufL false r rec ts f:=if_neg h45
  rw[hp];have hQ:=fun(W:World) (h:Below w.heap.size w W)=>zl6 (N:=N1) (N':=N2) ((St.start hP).below h) fun qs' hP'=>(hM rs qs' ts f W hP' hF).mono fun e w' h=>(⟨h.1,h.2.mono U⟩:DoIs C N2 rs d qs' W _ e w')
  have c2:=hP.kind;obtain⟨hFx,n,t,rv,nv,cv,-,hB,-⟩:=hP;obtain⟨-,⟨-,-,-,-,-,-,b15,-⟩,-⟩:=seventeen hB;exact zwz C.B (kd ts) C.mp w _ ⟨by have:=hF.kind;omega,U,U⟩ hFx.2.2.2.2.1 c2 b15 hQ
end
section
open Go.RowKit
def begO (top:Bool):PO->Bool
 |.ok a _=>begB top a
 |.bad _ _=>false
section
variable {C:PC} {N N' N1:Nat} {rs:List (List Nat × Nat × Int)} {d:Nat} {qs:List Value} {w W:World} {o:PO} {kv:Value} {ks:MF->List Int}
theorem z4q (hSg:SignsAt C.w0)(hs:C.s.size<=1050000)(h:KSt C N rs d qs w kv ks o W):Calls qab 138 #[jj (some ⟨C.B,0,none⟩)] W (zhw (begO (C.nm&&decide (d=0)) o) W):=by
 obtain⟨k,-,h⟩:=h;cases o with
 |bad a dp=>exact zkx C _ N d W h.2
 |ok a g=>obtain⟨-,tq,hP,-⟩:=h;exact zwq C hSg hs rs a g d (qs++tq) W hP
end
def SeqR (C:PC)(N N1:Nat)(rs:List (List Nat × Nat × Int))(d:Nat)(qs:List Value)(w:World)(pre:List Tok->MF->PO)(L:Nat)(O:PO)(gk:Nat)(kv:Value)(wr:World):Prop:=
 ∃(o:PO) (ks:MF->List Int),KSt C N1 rs d qs w kv ks o wr/\o.bind (fun a e=>zb8 (C.nm&&decide (d=0)) pre gk a e (ks e))=O/\∀a e,o=.ok a e->Fit 1 N rs a e/\a.length<gk/\(ks e).length+gk<=L
theorem z0k (C:PC)(hSg:SignsAt C.w0)(hs:C.s.size<=1050000){pre:List Tok->MF->PO}(hM:MOk C 139 pre 0 N N1 d)(hG:Grow 1 0 pre)(hN:N<=N1/\N1+1<=N2/\N2<=800000000)
  (rs:List (List Nat × Nat × Int)) (qs:List Value) (w:World) (o:PO) (O:PO) (n:Nat) (hP:St C N1 rs d qs w o w) (hq:∀q,q ∈ qs->∀b,q.ownBlock=some b->b<w.heap.size) (hF:∀a e,o=.ok a e->Fit 1 N rs a e/\a.length<n) (hn:n<=100000000)
  (hO:o.bind (fun a e=>zb8 (C.nm&&decide (d=0)) pre n a e [])=O) :
  Calls qab 118 #[jj (some ⟨C.B,0,none⟩)] w (DoIs C N2 rs d qs w O):=by
 have H0:Hid (SeqR C N N1 rs d qs w pre n O n (jf none 0 0) w):=qaa ⟨o,fun _=>[],hP.nokids,hO,fun a e h=>⟨(hF a e h).1,(hF a e h).2,by show 0+n<=n;omega⟩⟩;have HBEG:=qaa fun(kv:Value) (ks:MF->List Int) (o:PO) (W:World) (h:KSt C N1 rs d qs w kv ks o W)=>z4q hSg hs h
 have HKID:=qaa fun(kv:Value) (ks:MF->List Int) (a:List Tok) (g:MF) (W:World) (h:KSt C N1 rs d qs w kv ks (.ok a g) W) (hf:Fit 1 N rs a g) (hl:(ks g).length<=100000000)=>zth hM U (hf.weak U) hq h hl (fun a' g' e=>by
  have hg:=hG a g;rw[e] at hg;have:=(hf.next hg (c':=1) (qac _)).1;have:=hf.2.2.2.1;omega)
 have HJ1:=qaa fun(ks:List Int) (ka:Option Addr) (kc:Nat) (a:List Tok) (g:MF) (W:World) (h:KSt C N1 rs d qs w (jf ka ks.length kc) (fun _=>ks) (.ok a g) W) (hf:Fit 1 N rs a g)=>(zp2 h (by have:=hf.1;have:=hf.2.2.2.1;omega) 3).mono fun e w' h=>(⟨h.1,h.2.mono U⟩:DoIs C N2 rs d qs w _ e w')
 have HJ2:=qaa fun(kv:Value) (ks:MF->List Int) (a:List Tok) (dp:Bool) (W:World) (h:KSt C N1 rs d qs w kv ks (.bad a dp) W)=>(zl5 h U 3).mono fun e w' h=>(⟨h.1,h.2.mono hN.2.1⟩:DoIs C N2 rs d qs w _ e w')
 have HGR:=qaa hG;clear hP hO hF hq hM hG hSg hs hN;go_enter Tryz.func118,Tryz.ntmps118;go_wp2
 go_loopg [2] n (fun gk kv wr=>SeqR C N N1 rs d qs w pre n O gk kv wr)
 case atStart=>exact H0.out
 case round=>
  obtain⟨o,ks,hK,hO,hF⟩:=hrel;obtain⟨ka,kn,kc,rfl⟩:=hK.slice;have HB:=qaa (HBEG.out _ _ _ _ hK);cases hb:begO (C.nm&&decide (d=0)) o with
  |true=>
   rw[hb] at HB;cases o with
   |bad a dp=>cases hb
   |ok a g=>
    obtain⟨hf,hlt,hL⟩:=hF a g rfl;have hks:(ks g).length<=100000000:=U
    obtain⟨m,rfl⟩:∃m,gk=m+1:=⟨gk-1,U⟩;have hO':(pre a g).bind (fun a' e=>zb8 (C.nm&&decide (d=0)) pre m a' e (ks g++[lastI e]))=O:=by
     rw[<-hO];exact(zbw hb).symm
    have HK:=qaa fun(W:World) (h:Below wr.heap.size wr W)=>HKID.out _ _ _ _ _ (hK.below h) hf hks
    have HR:=qaa fun(kv':Value) (W:World) (h:KSt C N1 rs d qs w kv' (fun g'=>ks g++[lastI g']) (pre a g) W)=>(⟨pre a g,_,h,hO',fun a' e h=>by
     have hg:=HGR.out a g;rw[h] at hg;have h1:=hf.next hg (c':=1) (qac _);have h2:=hg.2.1;refine⟨h1,U,?_⟩;show(ks g++[lastI e]).length+m<=n;rw[qad,qai];omega⟩:SeqR C N N1 rs d qs w pre n O m kv' W)
    clear hK hO hF hf hlt hL hks hO' hb
    go_wp2_with (first
     |(go_at_call 138;(with_reducible refine HB.out.mono ?_);rintro e w1 ⟨rfl,hb1⟩;have HB1:=qaa hb1;clear hb1)
     |(go_at_call 117;(with_reducible refine(HK.out _ HB1.out).mono ?_);rintro e w2 h;obtain⟨kv',rfl,h⟩:=h;have HR2:=qaa (HR.out _ _ h);clear h))
    go_roundg m
    case measure=>exact qas m
    case rel=>exact HR2.out
  |false=>
   rw[hb] at HB;have HJ:Hid (∀W,Below wr.heap.size wr W->Calls qab 119 #[jj (some ⟨C.B,0,none⟩),je jd 3,jf ka kn kc] W (DoIs C N2 rs d qs w O)):=qaa (fun W h=>by
    have hK':=hK.below h;cases o with
    |bad a dp=>rw[<-hO];exact HJ2.out _ _ _ _ _ hK'
    |ok a g=>
     obtain⟨hf,hlt,hL⟩:=hF a g rfl;obtain⟨m,rfl⟩:∃m,gk=m+1:=⟨gk-1,U⟩;have he:O=.ok a (joinN g 3 (ks g)):=by
      rw[<-hO];exact za7 hb
     rw[he];have hkn:kn=(ks g).length:=by
      obtain⟨-,-,hrow,-⟩:=hK';obtain⟨x,y,e⟩:=zag hrow;injection e
     subst hkn;refine HJ1.out (ks g) ka kc a g W ?_ hf;exact hK')
   clear hK hO hF hb
   go_wp2_with (first
    |(go_at_call 138;(with_reducible refine HB.out.mono ?_);rintro e w1 ⟨rfl,hb1⟩;have HB1:=qaa hb1;clear hb1)
    |(go_at_call 119;(with_reducible refine(HJ.out _ HB1.out).mono ?_);rintro e w2 h;have h1:=h.1;subst h1;have H2:=qaa h.2;clear h))
   go_end0
   exact⟨rfl,H2.out⟩
theorem zw0:∀ts:List Tok,ts.length<=wt ts
 | []=>qac _
 |t::r=>by have:=zw0 r;rw[List.length_cons];show _<=t.text.length+3+wt r;omega
theorem z6q (C:PC)(hSg:SignsAt C.w0)(hs:C.s.size<=1050000){pre:List Tok->MF->PO}(hM:MOk C 139 pre 0 N N1 d)(hG:Grow 1 0 pre)(hN:N<=N1/\N1+1<=N2/\N2<=800000000):MOk C 118 (seqL (C.nm&&decide (d=0)) pre) 1 N N2 d:=by
 intro rs qs ts f w hP hF;exact z0k C hSg hs hM hG hN rs qs w (.ok ts f) _ (ts.length+1) (St.start hP) hP.lt (fun a e h=>by cases h;exact⟨hF,qas _⟩) (by have:=hF.1;have:=zw0 ts;have:=hF.2.2.2.1;omega) rfl
theorem zw1 (C:PC)(d:Nat):MBad C 118 d 1:=by
 intro a dp N w hN hP;have HB:=qaa (zkx C _ N d w hP);have HJ:=qaa fun(W:World) (h:Below w.heap.size w W)=>zl5 (rs:=[]) (qs:=[]) (w:=w) (ks:=fun _=>[]) ((St.nokids (N:=N) (o:=.bad a dp) ⟨Kq.refl w,hP⟩).below h) U 3
 clear hP hN;go_enter Tryz.func118,Tryz.ntmps118;go_wp2
 go_loopg [2] 0 (fun _ kv wr=>kv=jf none 0 0/\wr=w)
 case atStart=>exact⟨rfl,rfl⟩
 case round=>
  obtain⟨rfl,rfl⟩:=hrel
  go_wp2_with (first
   |(go_at_call 138;(with_reducible refine HB.out.mono ?_);rintro e w1 ⟨rfl,hb1⟩;have HB1:=qaa hb1;clear hb1)
   |(go_at_call 119;(with_reducible refine(HJ.out _ HB1.out).mono ?_);rintro e w2 h;have h1:=h.1;subst h1;have H2:=qaa h.2;clear h))
  go_end0
  exact⟨rfl,H2.out.1,H2.out.2⟩
def ExR (C:PC)(N N1:Nat)(rs:List (List Nat × Nat × Int))(d:Nat)(qs:List Value)(w:World)(sq:List Tok->MF->PO)(L:Nat)(O:PO)(gk:Nat)(kv:Value)(wr:World):Prop:=
 ∃(o:PO) (ks:MF->List Int),KSt C N1 rs d qs w kv ks o wr/\(o.bind fun a e=>if kd a=3 then (acc false a.tail e).bind fun b h=>altsL false sq gk b h (ks e) else .ok a (joinN e 4 (ks e)))=O /\
  ∀a e,o=.ok a e->MOk C 118 sq 1 N N1 d/\Grow 0 1 sq/\Fit 1 N rs a e/\a.length<=gk/\(ks e).length+gk<=L
theorem zn1 (C:PC)(hSg:SignsAt C.w0)(hs:C.s.size<=1050000){sq:List Tok->MF->PO}(hN:N+1<=N1/\N1+1<=N2/\N2<=800000002)
  (rs:List (List Nat × Nat × Int)) (qs:List Value) (w:World) (o:PO) (O:PO) (n:Nat) (hq:∀q,q ∈ qs->∀b,q.ownBlock=some b->b<w.heap.size)
  (hK:Calls qab 117 #[jj (some ⟨C.B,0,none⟩),jf none 0 0,.func (.func 118) #[] #[]] w fun e w'=>∃kv',e=.returned kv'/\KSt C N1 rs d qs w kv' (fun g'=>[]++[lastI g']) o w')
  (hF:∀a e,o=.ok a e->MOk C 118 sq 1 N N1 d/\Grow 0 1 sq/\Fit 1 N rs a e/\a.length<=n) (hn:n<=100000000)
  (hO:(o.bind fun a e=>if kd a=3 then (acc false a.tail e).bind fun b h=>altsL false sq n b h ([]++[lastI e]) else .ok a (joinN e 4 ([]++[lastI e])))=O) :
  Calls qab 97 #[jj (some ⟨C.B,0,none⟩)] w (DoIs C N2 rs d qs w O):=by
 have H0:Hid (∀kv W,KSt C N1 rs d qs w kv (fun g'=>[]++[lastI g']) o W->ExR C N N1 rs d qs w sq (n+1) O n kv W):=qaa fun kv W h=>⟨o,_,h,hO,fun a e h=>by
  obtain⟨h1,h2,h3,h4⟩:=hF a e h;exact⟨h1,h2,h3,h4,by show 1+n<=n+1;omega⟩⟩
 have HK0:=qaa hK;have HA:=qaa fun(kv:Value) (ks:MF->List Int) (a:List Tok) (g:MF) (W:World) (h:KSt C N1 rs d qs w kv ks (.ok a g) W) (hf:Fit 1 N rs a g) (h0:kd a≠0) (hl:(ks g).length<=100000000)=>KSt.accepts (N:=N) hSg hs h ⟨by have:=hf.1;omega,by have:=hf.2.1;omega,hf.2.2.1⟩ h0 U
 have HKID:=qaa fun(kv:Value) (ks:MF->List Int) (a:List Tok) (g:MF) (W:World) (h:KSt C N rs d qs w kv ks (acc false a g) W) (hM:MOk C 118 sq 1 N N1 d) (hG:Grow 0 1 sq) (hf:Fit 4 N rs a g) (hl:(ks g).length<=100000000) (hkv:∀a' n c',kv=jf a' n c'->n<=100000000)=>(show Calls qab 117 #[jj (some ⟨C.B,0,none⟩),kv,.func (.func 118) #[] #[]] W fun e w'=>∃kv',e=.returned kv'/\KSt C N1 rs d qs w kv' (fun g'=>ks g++[lastI g']) ((acc false a g).bind sq) w' from by
  by_cases h99:kd a=99
  ·have ha:acc false a g=.bad a false:=if_pos ⟨rfl,h99⟩
   rw[ha] at h ⊢;refine(zjh (m:=1) (ks':=fun g'=>ks g++[lastI g']) (zw1 C d) ⟨U,U⟩ h hkv).mono ?_;rintro e w' ⟨kv',h1,h2⟩;exact⟨kv',h1,h2.mono hN.1⟩
  ·have ha:acc false a g=.ok a g:=if_neg (fun h=>h99 h.2)
   rw[ha] at h ⊢;refine zkz hM U (hf.weak U) hq h hl (fun a' g' e=>?_);have hg:=hG a g;rw[e] at hg;have:=(hf.next hg (c':=3) (qac _)).1;have:=hf.2.2.2.1;omega)
 have HJ1:=qaa fun(ks:List Int) (ka:Option Addr) (kc:Nat) (a:List Tok) (g:MF) (W:World) (h:KSt C N1 rs d qs w (jf ka ks.length kc) (fun _=>ks) (.ok a g) W) (hf:Fit 1 N rs a g)=>(zp2 h (by have:=hf.1;have:=hf.2.2.2.1;omega) 4).mono fun e w' h=>(⟨h.1,h.2.mono U⟩:DoIs C N2 rs d qs w _ e w')
 have HJ2:=qaa fun(kv:Value) (ks:MF->List Int) (a:List Tok) (dp:Bool) (W:World) (h:KSt C N1 rs d qs w kv ks (.bad a dp) W)=>(zl5 h U 4).mono fun e w' h=>(⟨h.1,h.2.mono hN.2.1⟩:DoIs C N2 rs d qs w _ e w')
 clear hK hO hF hq hSg hs hN;go_enter Tryz.func97,Tryz.ntmps97
 go_wp2_with (go_at_call 117;(with_reducible refine HK0.out.mono ?_);rintro e w1 h;obtain⟨kv,rfl,h⟩:=h;have HR1:=qaa (H0.out _ _ h);clear h)
 go_loopg [2] n (fun gk kv wr=>ExR C N N1 rs d qs w sq (n+1) O gk kv wr)
 case atStart=>exact HR1.out
 case round=>
  obtain⟨o,ks,hK,hO,hF⟩:=hrel;obtain⟨ka,kn,kc,rfl⟩:=hK.slice;have c2:=hK.kind;have bl:=hK.maps.2.2;by_cases h3:o.kind=3
  ·cases o with
   |bad a dp=>cases h3
   |ok a g=>
    have h3':kd a=3:=h3;obtain⟨hM,hG,hf,hlt,hL⟩:=hF a g rfl;have hks:(ks g).length<=100000001:=U
    have hal:=zcq (ts:=a) U;obtain⟨m,rfl⟩:∃m,gk=m+1:=⟨gk-1,U⟩;have hO':((acc false a.tail g).bind sq).bind (fun a' e=>if kd a'=3 then (acc false a'.tail e).bind fun b h=>altsL false sq m b h (ks g++[lastI e]) else .ok a' (joinN e 4 (ks g++[lastI e])))=O:=by
     rw[<-hO];show _=(if kd a=3 then _ else _);rw[if_pos h3'];cases acc false a.tail g with
     |bad b dp=>rfl
     |ok b h=>rfl
    have hf4:Fit 4 N rs a.tail g:=hf.tail U U;have hkn:kn=(ks g).length:=by
     obtain⟨-,-,hrow,-⟩:=hK;obtain⟨x,y,e⟩:=zag hrow;injection e
    have HAC:=qaa (HA.out _ _ _ _ _ hK hf U U);have HK:=qaa fun(W:World) (h:KSt C N rs d qs w (jf ka kn kc) ks (acc false a.tail g) W)=>HKID.out _ _ _ _ _ h hM hG hf4 U (fun a' n' c' e=>by injection e;omega)
    have HR:=qaa fun(kv':Value) (W:World) (h:KSt C N1 rs d qs w kv' (fun g'=>ks g++[lastI g']) ((acc false a.tail g).bind sq) W)=>(⟨_,_,h,hO',fun a' e h=>by
     have ho:sq a.tail g=.ok a' e:=by
      unfold acc at h;split at h
      ·cases h
      ·exact h
     have hg:=hG a.tail g;rw[ho] at hg;have h1:=hf4.next hg (c':=1) U;have h2:=hg.2.1;refine⟨hM,hG,h1,U,?_⟩;show(ks g++[lastI e]).length+m<=n+1;rw[qad,qai];omega⟩:ExR C N N1 rs d qs w sq (n+1) O m kv' W)
    have hkk:((PO.ok a g).kind:Int)=3:=by show((kd a:Nat):Int)=3;rw[h3'];rfl
    rw[hkk] at c2;clear hK hO hF hf hlt hL hks hO' h3 h3' hM hG hal hf4 hkn hkk
    go_wp2_with (first
     |(go_at_call 70;(with_reducible refine HAC.out.mono ?_);rintro e w1 h;have h1:=h.1;subst h1;have H1:=qaa h.2;clear h)
     |(go_at_call 117;(with_reducible refine(HK.out _ H1.out).mono ?_);rintro e w2 h;obtain⟨kv',rfl,h⟩:=h;have HR2:=qaa (HR.out _ _ h);clear h))
    go_roundg m
    case measure=>exact qas m
    case rel=>exact HR2.out
  ·have e1:((o.kind:Int) == 3)=false:=zav U
   have HJ:Hid (Calls qab 119 #[jj (some ⟨C.B,0,none⟩),je jd 4,jf ka kn kc] wr (DoIs C N2 rs d qs w O)):=qaa (by
    cases o with
    |bad a dp=>rw[<-hO];exact HJ2.out _ _ _ _ _ hK
    |ok a g=>
     obtain⟨hM,hG,hf,hlt,hL⟩:=hF a g rfl;have he:O=.ok a (joinN g 4 (ks g)):=by
      rw[<-hO];exact if_neg h3
     rw[he];have hkn:kn=(ks g).length:=by
      obtain⟨-,-,hrow,-⟩:=hK;obtain⟨x,y,e⟩:=zag hrow;injection e
     subst hkn;refine HJ1.out (ks g) ka kc a g wr ?_ hf;exact hK)
   obtain⟨z,hz⟩:∃z:Int,(o.kind:Int)=z:=⟨_,rfl⟩;rw[hz] at c2 e1;clear hK hO hF h3 hz
   go_wp2_with (go_at_call 119;(with_reducible refine HJ.out.mono ?_);rintro e w2 h;have h1:=h.1;subst h1;have H2:=qaa h.2;clear h)
   go_end0
   exact⟨rfl,H2.out⟩
theorem zrx (C:PC)(hSg:SignsAt C.w0)(hs:C.s.size<=1050000)(d:Nat):MBad C 97 d 2:=by
 intro a dp N w hN hP;have:=zn1 C hSg hs (sq:=fun a _=>.bad a false) (N:=N) (N1:=N+1) (N2:=N+2) (d:=d) ⟨U,U,U⟩ [] [] w (.bad a dp) _ 0 (fun q h=>nomatch h) (zjh (m:=1) (ks':=fun g'=>[]++[lastI g']) (zw1 C d) ⟨hN,U⟩ (St.nokids ⟨Kq.refl w,hP⟩) (fun a' n c' e=>by injection e;omega)) (fun a e h=>nomatch h) U rfl;exact this.mono fun e w' h=>⟨h.1,h.2.1,h.2.2⟩
theorem MOk.mono {C:PC}{fn:FuncId}{F:List Tok->MF->PO}{c N':Nat}(h:MOk C fn F c N N' d)(hN:N'<=N2):MOk C fn F c N N2 d:=fun rs qs ts f w hP hF=>(h rs qs ts f w hP hF).mono fun _ _ h=>⟨h.1,h.2.mono hN⟩
theorem z4r (C:PC)(hSg:SignsAt C.w0)(hs:C.s.size<=1050000)(hN:N<=90000000):∀r d,r+d=200->MOk C 97 (exprL false r (C.nm&&decide (d=0))) 2 N (N+10*(r+1)) d:=by
 have step:∀r d,r+d=200->(0<r->MOk C 97 (inL false r) 2 N (N+10*r) (d+1))->MOk C 97 (exprL false r (C.nm&&decide (d=0))) 2 N (N+10*(r+1)) d:=by
  intro r d hr hI;have hp:=z4o C hSg hs (N:=N) (N':=N+10*r+3) hr (fun h=>⟨(hI h).mono U,zrx C hSg hs (d+1)⟩) (Gr.inL r) U U;have hsf:=z6o C hSg hs (N2:=N+10*r+4) hp (Gr.inL r) ⟨U,U,U⟩;have hpr:=z6p C hSg hs (N2:=N+10*r+5) hsf (Gr.inL r) ⟨U,U,U⟩;have hsq:=z6q C hSg hs (N2:=N+10*r+6) hpr (Gr.pre (Gr.inL r)) ⟨U,U,U⟩;intro rs qs ts f w hP hF;have hg:=Gr.seq (top:=C.nm&&decide (d=0)) (Gr.pre (st:=false) (room:=r) (Gr.inL (st:=false) r));have hgf:∀a g,seqL (C.nm&&decide (d=0)) (preL false r (inL false r)) ts f=.ok a g->Fit 1 N rs a g/\a.length<=ts.length:=fun a g e=>by
   have h:=hg ts f;rw[e] at h;exact⟨hF.next h (qac _),by have:=h.2.1;omega⟩
  have hb:=zw0 ts;have h1:=hF.1;have h2:=hF.2.2.2.1;rw[zgi];refine(zn1 C hSg hs (N:=N) (N1:=N+10*r+6) (N2:=N+10*r+7) ⟨U,U,U⟩ rs qs w (seqL (C.nm&&decide (d=0)) (preL false r (inL false r)) ts f) _ ts.length hP.lt (zkz hsq U (hF.weak U) hP.lt (St.start (N:=N) hP).nokids (qaj _) (fun a g e=>by have:=(hgf a g e).1.1;omega)) (fun a e h=>⟨hsq,hg,(hgf a e h).1,(hgf a e h).2⟩) U rfl).mono fun e w' h=>⟨h.1,h.2.mono U⟩
 intro r
 induction r with
 |zero=>exact fun d hd=>step 0 d hd (fun h=>absurd h ja)
 |succ r ih=>
  intro d hd;refine step (r+1) d hd (fun _=>?_);have h:=ih (d+1) U;have e:(C.nm&&decide (d+1=0))=false:=by
   rw[decide_eq_false U,Bool.and_false]
  rw[e] at h;exact h
end
section
open Go.RowKit
theorem z0l:(qab.info? 123).map (fun i=>(i.zero,i.size,i.bytes))=some (some (.agg #[jh ⟨#[]⟩,je jd 0,je jd 0]),3,32):=jb
def zw2 (C:PC)(st:ByteArray)(a0:Int)(D nn m:Nat)(ra:Option Addr)(rc:Nat)(xs:List Value)(pc:Array Value)(W:World):Prop:=
 (∃na nc,pc[11]?=some (jf na nn nc))/\nn<=2000000000/\pc[10]?=some (jf ra m rc)/\m<=1000000000/\Bl W C.B 120 pc/\Bl W D 123 #[jh st,je jd a0,je jd 0]/\D≠C.B/\C.w0.heap.size<=W.heap.size /\
  (W.setCell ⟨D,2,none⟩ (je jd ((nn:Int)-1))).ownsRow C.w0.heap.size 123 3 (jf ra m rc) m xs
def zp6 (C:PC)(st:ByteArray)(a0:Int)(D:Nat)(X:List Value->Prop)(Q:World->Prop)(e:Ending)(w':World):Prop:=
 e=.returned (jk #[])/\∃nn m ra rc xs pc W v' w1 w5,Q W/\X xs/\zw2 C st a0 D nn m ra rc xs pc W/\w5.ownsRow C.w0.heap.size 123 3 v' (m+1) (xs++[jh st,je jd a0,je jd ((nn:Int)-1)]) /\
  Below W.heap.size (W.setCell ⟨D,2,none⟩ (je jd ((nn:Int)-1))) w1/\w1.grownBy w5 (Value.slice ra m rc).ownBlock/\w'=w5.setCell ⟨C.B,10,none⟩ v'
theorem zl8 (C:PC)(st:ByteArray)(a0:Int)(w:World)(X:List Value->Prop)(Q:World->Prop)
  (hC:Calls qab 97 #[jj (some ⟨C.B,0,none⟩)] (w.alloc (.cells #[jh st,je jd a0,je jd 0] 123)) fun e w'=>e=.returned (jk #[])/\Q w')
  (hQ:∀W,Q W->∃nn m ra rc xs pc,X xs/\zw2 C st a0 w.heap.size nn m ra rc xs pc W) :
  Calls qab 71 #[jj (some ⟨C.B,0,none⟩),.agg #[jh st,je jd a0,je jd 0]] w (zp6 C st a0 w.heap.size X Q):=by
 obtain⟨ie,hie,hze0,hze1,hze2⟩:=info_parts z0l;have HC:=qaa hC;have HQ:=qaa hQ;clear hC hQ;go_enter Tryz.func71,Tryz.ntmps71
 go_upto_region 2 with(go_at_call 97;(with_reducible refine HC.out.mono ?_);rintro e W ⟨rfl,hq⟩;have HQW:=qaa hq;clear hq)
 obtain⟨nn,m,ra,rc,xs,pc,hX,hR⟩:=HQ.out W HQW.out;have HX:=qaa hX;clear hX;have HR:=qaa hR;obtain⟨⟨na,nc,p11⟩,hnn,p10,hm,hB,hD,hne,hbase,hrow⟩:=hR;have c11:W.cell? ⟨C.B,11,none⟩=some (jf na nn nc):=hB.cell p11;have c10:W.cell? ⟨C.B,10,none⟩=some (jf ra m rc):=hB.cell p10;have D0:W.cell? ⟨w.heap.size,0,none⟩=some (jh st):=hD.cell rfl;have D1:W.cell? ⟨w.heap.size,1,none⟩=some (je jd a0):=hD.cell rfl;have D2:W.cell? ⟨w.heap.size,2,none⟩=some (je jd 0):=hD.cell rfl;have hDf:=hD.free;have hDl:=hD.lt;have hBf:=hB.free;have hBl:=hB.lt;have HB:=qaa hB;have HROW:=qaa hrow;have hne':¬w.heap.size=C.B:=hne;have hne2:¬C.B=w.heap.size:=fun e=>hne e.symm
 clear hB hD hrow p11 p10 hne
 go_upto_region 3 with(go_at_call 98;(with_reducible refine(zfm C.B na nn nc W c11 hnn).mono ?_);rintro e w2 ⟨rfl,rfl⟩)
 have e0:(W.setCell ⟨w.heap.size,2,none⟩ (je jd ((nn:Int)-1))).cell? ⟨w.heap.size,0,none⟩=some (jh st):=by rw[cso ja];exact D0
 have e1:(W.setCell ⟨w.heap.size,2,none⟩ (je jd ((nn:Int)-1))).cell? ⟨w.heap.size,1,none⟩=some (je jd a0):=by rw[cso ja];exact D1
 have e2:(W.setCell ⟨w.heap.size,2,none⟩ (je jd ((nn:Int)-1))).cell? ⟨w.heap.size,2,none⟩=some (je jd ((nn:Int)-1)):=css D2;have hB1:Bl (W.setCell ⟨w.heap.size,2,none⟩ (je jd ((nn:Int)-1))) C.B 120 pc:=HB.out.other hne2 _;have hs1:(W.setCell ⟨w.heap.size,2,none⟩ (je jd ((nn:Int)-1))).heap.size=W.heap.size:=by simp[World.setCell]
 obtain⟨⟨na',nc',p11⟩,-,p10,-⟩:=HR.out;have HW:Hid (∃W',W.setCell ⟨w.heap.size,2,none⟩ (je jd ((nn:Int)-1))=W'):=qaa ⟨_,rfl⟩;clear c11 c10 D0 D1 D2 hDf hBf HB hne' hne2;obtain⟨W1,hW1⟩:=HW.out;rw[hW1] at e0 e1 e2 hB1 hs1 HROW ⊢;have HW1:=qaa hW1;clear HW hW1;have c10:W1.cell? ⟨C.B,10,none⟩=some (jf ra m rc):=hB1.cell p10;have hBf:=hB1.free;have hBl1:=hB1.lt;have hb1:C.w0.heap.size<=W1.heap.size:=U
 have HB1:=qaa hB1;have HS1:=qaa hs1;have HP10:=qaa p10;have hDl1:w.heap.size<W1.heap.size:=U
 clear hB1 hs1 p10 p11 hDl hBl hbase
 go_region_law (refine zcs (by rfl) _ _ 43 (by rfl) C.w0.heap.size 123 ie _ 3 32 Tryz.underlying43 hie hze0 hze1 hze2 (by rfl) ja (jf ra m rc) m _ (by simp[Act.eval]) (by refine zab HROW.out ?_;repeat (first|exact qaf _ _|refine qak ?_|refine zac ?_ rfl _)) _ 1 1 [jh st,je jd a0,je jd ((nn:Int)-1)] (by simp[Act.eval];rfl) (by rfl) (by refine Bl.news (t:=123) ?_;repeat (first|(refine Bl.new' ?_;simp;done)|refine Bl.drew ?_|refine Bl.past ?_)) (by simp[Value.oneCell']) (by unfold maxLen;omega) U (by simp;omega) ?_;intro a5 c5 w5 hown5 hgrow5 hat5;have hbw5:Hid (Below W1.heap.size W1 (W1.alloc (.cells #[jh st,je jd a0,je jd ((nn:Int)-1)] 123)).drew):=qaa (qak (zac (qaf _ _) rfl _));have hg5:=(HB1.out.below hbw5.out).grown hgrow5 (fun g e=>by obtain⟨c,fz,hc⟩:=qb5 (zab HROW.out hbw5.out) g e;exact⟨c,123,fz,hc,ja⟩);have x10:=hg5.cell HP10.out;have xf:=hg5.free;have xl:=hg5.lt;have HO5:=qaa hown5;have HG5:=qaa hgrow5;clear hown5 hgrow5 hat5 hg5)
 all_goals
  go_wp2
  go_end0
  exact⟨rfl,nn,m,ra,rc,xs,pc,W,_,_,_,HQW.out,HX.out,HR.out,HO5.out,by rw[HW1.out,<-HS1.out];exact hbw5.out,HG5.out,rfl⟩
end
section
open Go.RowKit
def PEnd (C:PC)(er:Value)(w:World):Prop:=PFix C w/\∃pc,Bl w C.B 120 pc/\pc[2]?=some (je jd 0)/\pc[9]?=some er
def RIs (C:PC)(rs:List (List Nat × Nat × Int))(x:List Nat)(a0 d:Nat)(qs:List Value)(w:World)(o:PO)(e:Ending)(w':World):Prop:=
 e=.returned (jk #[])/\w.heap.size<=w'.heap.size/\match o with
 |.ok a g=>∃v tq,PSt { C with rv:=v } (rs++[(x,a0,lastI g)]) a g d (qs++tq) w'
 |.bad a dp=>PEnd C (erV a dp) w'
section
variable {C:PC} {N N':Nat} {rs:List (List Nat × Nat × Int)} {d:Nat} {qs:List Value} {w W w' w1 w5:World} {o:PO} {e:Ending}
theorem PFix.defn {cs:Array Value}(h:PFix C W)(hD:Bl W D 123 cs)(hDb:C.w0.heap.size<=D)(v:Value):PFix C (W.setCell ⟨D,2,none⟩ v):=by
 obtain⟨h1,h2,h3,h4,h5,h6⟩:=h;have key:∀(b:Nat) (o:Obj),W.heap[b]?=some o->(∀c t fz,o≠.cells c t fz)->(W.setCell ⟨D,2,none⟩ v).heap[b]?=some o:=fun b o hb ho=>by
  rw[heap_setCell_other _ _ _ _ (fun e=>by
   subst e;unfold Bl at hD;rw[hb] at hD;exact ho _ _ _ (qar hD))]
  exact hb
 exact⟨h1.setCell (p:=⟨D,2,none⟩) hDb v,h2,h3,h4,key _ _ h5 (fun _ _ _=>by unfold preO;exact fun e=>by injection e),key _ _ h6 (fun _ _ _=>by unfold sufO;exact fun e=>by injection e)⟩
theorem PFix.grownT {r:Option Nat}{T:TypeId}(h:PFix C W)(hg:W.grownBy w' r)(hr:∀g,r=some g->C.w0.heap.size<=g/\∃c fz,W.heap[g]?=some (.cells c T fz)):PFix C w':=by
 obtain⟨h1,h2,h3,h4,h5,h6⟩:=h;have key:∀(b:Nat) (o:Obj),W.heap[b]?=some o->(∀c t fz,o≠.cells c t fz)->w'.heap[b]?=some o:=fun b o hb ho=>by
  rw[hg.block b (Array.getElem?_eq_some_iff.1 hb).1 (fun e=>by
   obtain⟨-,c,fz,hc⟩:=hr b e.symm;rw[hb] at hc;exact ho _ _ _ (qar hc))]
  exact hb
 exact⟨h1.grown hg h1.size (fun g e=>(hr g e).1),h2,h3,h4,key _ _ h5 (fun _ _ _=>by unfold preO;exact fun e=>by injection e),key _ _ h6 (fun _ _ _=>by unfold sufO;exact fun e=>by injection e)⟩
theorem zk1 {st:ByteArray}{a0:Int}{nn m rc:Nat}{ra:Option Addr}{xs:List Value}{pc:Array Value}{v':Value}(hR:zw2 C st a0 D nn m ra rc xs pc W)(hF:PFix C W)(hb:C.w0.heap.size<=D)
  (h1:w5.ownsRow C.w0.heap.size 123 3 v' (m+1) (xs++[jh st,je jd a0,je jd ((nn:Int)-1)]))
  (h2:Below W.heap.size (W.setCell ⟨D,2,none⟩ (je jd ((nn:Int)-1))) w1) (h3:w1.grownBy w5 (Value.slice ra m rc).ownBlock) :
  PFix C (w5.setCell ⟨C.B,10,none⟩ v')/\W.heap.size<=(w5.setCell ⟨C.B,10,none⟩ v').heap.size/\Bl (w5.setCell ⟨C.B,10,none⟩ v') C.B 120 (pc.setIfInBounds 10 v')/\(w5.setCell ⟨C.B,10,none⟩ v').ownsRow C.w0.heap.size 123 3 v' (m+1) (xs++[jh st,je jd a0,je jd ((nn:Int)-1)]) /\
   ∀(b:Nat) (t:TypeId) (sz n:Nat) (u:Value) (ys:List Value),W.ownsRow b t sz u n ys->t≠123->t≠120->(w5.setCell ⟨C.B,10,none⟩ v').ownsRow b t sz u n ys:=by
 obtain⟨-,-,-,-,hB,hD,hne,-,hrow⟩:=hR;have hs:(W.setCell ⟨D,2,none⟩ (je jd ((nn:Int)-1))).heap.size=W.heap.size:=by simp[World.setCell]
 have hF1:=hF.defn hD hb (je jd ((nn:Int)-1));have hB1:=hB.other (o:=2) (Ne.symm hne) (je jd ((nn:Int)-1));rw[<-hs] at h2;have hr1:=zab hrow h2;have kind:∀g,(Value.slice ra m rc).ownBlock=some g->∃c fz,w1.heap[g]?=some (.cells c 123 fz):=fun g e=>qb5 hr1 g e
 have hF2:PFix C w1:=hF1.kept (Kq.of_below h2);have hF3:PFix C w5:=hF2.grownT h3 (fun g e=>⟨(hr1.lt g e).1,kind g e⟩);have hB3:Bl w5 C.B 120 pc:=(hB1.below h2).grown h3 (fun g e=>by
  obtain⟨c,fz,h⟩:=kind g e;exact⟨c,_,fz,h,ja⟩)
 refine⟨hF3.set _ _,?_,hB3.put v',ownsRow_setCell_other h1 (a:=⟨C.B,10,none⟩) (zaq h1 hB3 ja) v',fun b t sz n u ys hu ht1 ht2=>?_⟩
 ·have e1:(w5.setCell ⟨C.B,10,none⟩ v').heap.size=w5.heap.size:=by simp[World.setCell]
  have:=h3.size;have:=h2.size;omega
 ·have hu1:=ownsRow_setCell_other hu (a:=⟨D,2,none⟩) (zaq hu hD ht1) (je jd ((nn:Int)-1))
  have hu2:=zbl (zab hu1 h2) h3 kind ht1;exact ownsRow_setCell_other hu2 (a:=⟨C.B,10,none⟩) (zaq hu2 hB3 ht2) v'
theorem zk2 (rs:List (List Nat × Nat × Int))(x:List Nat)(a:Nat)(r:Int):defsC (rs++[(x,a,r)])=defsC rs++[jh (strOf x),je jd (a:Int),je jd r]:=by
 unfold defsC;rw[qbp];simp[defC]
theorem zry {st:ByteArray}{a0:Int}{dp:Bool}{Q:World->Prop}(hb:C.w0.heap.size<=D)(hw:∀W,Q W->w.heap.size<=W.heap.size/\PBad C (erV a dp) N d W){X:List Value->Prop}(h:zp6 C st a0 D X Q e w') :
  e=.returned (jk #[])/\w.heap.size<=w'.heap.size/\PEnd C (erV a dp) w':=by
 obtain⟨he,nn,m,ra,rc,xs,pc,W,v',w1,w5,hQ,-,hR,h1,h2,h3,rfl⟩:=h;obtain⟨hsz,hF,n,rv,nv,cv,m1,m2,m3,c1,c2,c3,hB,-⟩:=hw W hQ;obtain⟨f1,f2,f3,-,-⟩:=zk1 hR hF hb h1 h2 h3;have hpc:pc=#[jh C.s,je jd (n:Int),je jd 0,je jd 0,jh ⟨#[]⟩,je jg 0,je jg 0,je jg 0,je jg 0,erV a dp,rv,nv,cv,ji C.nm,je jd (d:Int),.map (some C.mp),.map (some C.ms)]:=by
  have e1:=hR.2.2.2.2.1;have e2:=hB.unzero;unfold Bl at e1 e2;rw[e1] at e2;injection e2 with e2;injection e2
 subst hpc;exact⟨he,U,f1,_,f3,rfl,rfl⟩
theorem z4s {x:List Nat}{a0:Nat}{g:MF}{Q:World->Prop}(hb:C.w0.heap.size<=D)(hw:∀W,Q W->w.heap.size<=W.heap.size/\∃tq,PSt C rs a g d (qs++tq) W)(h:zp6 C (strOf x) (a0:Int) D (· = defsC rs) Q e w') :
  e=.returned (jk #[])/\w.heap.size<=w'.heap.size/\∃v tq,PSt { C with rv:=v } (rs++[(x,a0,lastI g)]) a g d (qs++tq) w':=by
 obtain⟨he,nn,m,ra,rc,xs,pc,W,v',w1,w5,hQ,rfl,hR,h1,h2,h3,rfl⟩:=h;obtain⟨hsz,tq,hF,n,t,rv,nv,cv,hc,hB,hRR⟩:=hw W hQ;obtain⟨f1,f2,f3,f4,fr⟩:=zk1 hR hF hb h1 h2 h3;have hpc:pc=#[jh C.s,je jd (n:Int),je jd (t.kind:Int),je jd (t.at_:Int),jh (strOf t.text),je jg (setW (inRs t.rs) 0),je jg (setW (inRs t.rs) 1),je jg (setW (inRs t.rs) 2),je jg (setW (inRs t.rs) 3),
  .nilIface,rv,nv,cv,ji C.nm,je jd (d:Int),.map (some C.mp),.map (some C.ms)]:=by
  have e1:=hR.2.2.2.2.1;have e2:=hB;unfold PB at e2;unfold Bl at e1 e2;rw[e1] at e2;injection e2 with e2;injection e2
 subst hpc;have hm:m=rs.length:=by
  have e1:=hR.2.2.1;obtain⟨y,z,e2⟩:=zag hRR.2.2.2;subst e2;have e1:some (Value.slice y rs.length z)=some (Value.slice ra m rc):=e1;injection e1 with e1;injection e1 with _ e1;exact e1.symm
 have hnn:(nn:Int)-1=lastI g:=by
  obtain⟨na,nc,e1⟩:=hR.1;obtain⟨y,z,e2⟩:=zag hRR.1.2.1;subst e2;have e1:some (Value.slice y g.nodes.length z)=some (Value.slice na nn nc):=e1;injection e1 with e1;injection e1 with _ e1;show _=(g.nodes.length:Int)-1;rw[e1]
 refine⟨he,U,v',tq,f1,n,t,v',nv,cv,hc,f3,⟨hRR.1.1,fr _ _ _ _ _ _ hRR.1.2.1 ja ja,fun j p q e1 e2=>fr _ _ _ _ _ _ (hRR.1.2.2 j p q e1 e2) ja ja⟩,fr _ _ _ _ _ _ hRR.2.1 ja ja,rfl,?_⟩;rw[qad,qai,zk2,<-hm,<-hnn];exact f4
theorem zgs {m:Nat}{v:Value}{xs:List Value}{T:TypeId}(h:W.ownsRow C.w0.heap.size T 3 v m xs)(u:Value):∃ys,(W.setCell ⟨D,2,none⟩ u).ownsRow C.w0.heap.size T 3 v m ys:=by
 by_cases hv:v.ownBlock=some D
 ·obtain⟨hl,hh⟩:=id h
  rcases hh with⟨rfl,-⟩|⟨g,cap,cur,rfl,-⟩
  ·cases hv
  ·cases hv
   exact⟨_,(h.stored 2 u).1⟩
 ·exact⟨xs,ownsRow_setCell_other h (a:=⟨D,2,none⟩) hv u⟩
theorem z4t {F:List Tok->MF->PO}(hM:MOk C 97 F 2 N N' d)(hN:N'<=900000000){ts:List Tok}{f:MF}(hP:PSt C rs ts f d qs w)(hF:Fit 2 N rs ts f)(hg:∀a g,F ts f=.ok a g->g.nodes.length<=900000000)(x:List Nat)(a0:Nat) :
  Calls qab 71 #[jj (some ⟨C.B,0,none⟩),.agg #[jh (strOf x),je jd (a0:Int),je jd 0]] w (RIs C rs x a0 d qs w (F ts f)):=by
 obtain⟨Wd,hWd⟩:∃W,w.alloc (.cells #[jh (strOf x),je jd (a0:Int),je jd 0] 123)=W:=⟨_,rfl⟩;have hb1:Below w.heap.size w Wd:=by rw[<-hWd];exact zaa w _
 have hD:Bl Wd w.heap.size 123 #[jh (strOf x),je jd (a0:Int),je jd 0]:=by rw[<-hWd];exact Bl.new w _ _
 have hPd:=hP.below hb1;have hE:=hM rs qs ts f Wd hPd hF;rw[<-hWd] at hE;have hbase:C.w0.heap.size<=w.heap.size:=hP.1.1.size;obtain⟨csB,hBw⟩:=hP.isB;have hDB:w.heap.size≠C.B:=by have:=hBw.lt;omega
 have hrl:=hF.2.2.1;have hNN:=hF.2.2.2.1;have hrv:w.ownsRow C.w0.heap.size 123 3 C.rv rs.length (defsC rs):=by
  obtain⟨-,n,t,rv,nv,cv,-,-,hR⟩:=hP;have:=hR.2.2.2;rw[hR.2.2.1] at this;exact this
 cases hO:F ts f with
 |bad a dp=>
  rw[hO] at hE;refine(zl8 C (strOf x) (a0:Int) w (fun _=>True) (fun W=>St C N' rs d qs Wd (.bad a dp) W) (by rw[hWd] at hE ⊢;exact hE) (fun W hW=>?_)).mono fun e w' h=>zry (N:=N') (w:=w) U (fun W hW=>⟨qal hb1.size hW.1.size,hW.2⟩) h
  obtain⟨hK,hF',n,rv,nv,cv,m1,m2,m3,c1,c2,c3,hB,h1,h2,h3,l1,l2,l3⟩:=hW;obtain⟨y,z,rfl⟩:=zag h3;obtain⟨y1,z1,rfl⟩:=zag h1;obtain⟨ys,hys⟩:=zgs (C:=C) (D:=w.heap.size) h3 (je jd ((m1:Int)-1));exact⟨m1,m3,y,z,ys,_,trivial,⟨_,_,rfl⟩,U,rfl,U,hB,hK.bl hD hDB ja,hDB,hF'.1.size,hys⟩
 |ok a g=>
  rw[hO] at hE;have hgn:=hg a g hO;refine(zl8 C (strOf x) (a0:Int) w (· = defsC rs) (fun W=>St C N' rs d qs Wd (.ok a g) W) (by rw[hWd] at hE ⊢;exact hE) (fun W hW=>?_)).mono fun e w' h=>z4s (w:=w) U (fun W hW=>⟨qal hb1.size hW.1.size,by obtain⟨-,tq,h,-⟩:=hW;exact⟨tq,h⟩⟩) h
  obtain⟨hK,tq,⟨hF',n,t,rv,nv,cv,hc,hB,hR⟩,-⟩:=hW;have h3:=hR.2.2.2;have h1:=hR.1.2.1;have hne:rv.ownBlock≠some w.heap.size:=by
   rw[hR.2.2.1];exact ze8 hrv (qac _)
  obtain⟨y,z,rfl⟩:=zag h3;obtain⟨y1,z1,rfl⟩:=zag h1;exact⟨g.nodes.length,rs.length,y,z,_,_,rfl,⟨_,_,rfl⟩,U,rfl,U,hB,hK.bl hD hDB ja,hDB,hF'.1.size,ownsRow_setCell_other h3 (a:=⟨w.heap.size,2,none⟩) hne _⟩
theorem z0m (hM:MBad C 97 d 2){dp:Bool}(hN:N<=800000000)(hP:PBad C (erV a dp) N d w)(st:ByteArray)(a0:Int) :
  Calls qab 71 #[jj (some ⟨C.B,0,none⟩),.agg #[jh st,je jd a0,je jd 0]] w fun e w'=>e=.returned (jk #[])/\w.heap.size<=w'.heap.size/\PEnd C (erV a dp) w':=by
 obtain⟨Wd,hWd⟩:∃W,w.alloc (.cells #[jh st,je jd a0,je jd 0] 123)=W:=⟨_,rfl⟩;have hb1:Below w.heap.size w Wd:=by rw[<-hWd];exact zaa w _
 have hD:Bl Wd w.heap.size 123 #[jh st,je jd a0,je jd 0]:=by rw[<-hWd];exact Bl.new w _ _
 have hE:=hM a dp N Wd hN (hP.below hb1);have hbase:C.w0.heap.size<=w.heap.size:=hP.1.1.size;obtain⟨csB,hBw⟩:=hP.isB;have hDB:w.heap.size≠C.B:=by have:=hBw.lt;omega
 refine(zl8 C st a0 w (fun _=>True) (fun W=>Kq C.w0.heap.size C.B Wd W/\PBad C (erV a dp) (N+2) d W) (by rw[hWd];exact hE) (fun W hW=>?_)).mono fun e w' h=>zry (N:=N+2) (w:=w) U (fun W hW=>⟨qal hb1.size hW.1.size,hW.2⟩) h
 obtain⟨hK,hF',n,rv,nv,cv,m1,m2,m3,c1,c2,c3,hB,h1,h2,h3,l1,l2,l3⟩:=hW;obtain⟨y,z,rfl⟩:=zag h3;obtain⟨y1,z1,rfl⟩:=zag h1;obtain⟨ys,hys⟩:=zgs (C:=C) (D:=w.heap.size) h3 (je jd ((m1:Int)-1));exact⟨m1,m3,y,z,ys,_,trivial,⟨_,_,rfl⟩,U,rfl,U,hB,hK.bl hD hDB ja,hDB,hF'.1.size,hys⟩
end
end
