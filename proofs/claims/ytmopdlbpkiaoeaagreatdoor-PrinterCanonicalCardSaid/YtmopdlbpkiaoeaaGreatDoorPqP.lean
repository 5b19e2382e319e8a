/- The parser: definition, definitions, single. The parser: parse, Parse, Expression. The parser: Parse and Expression. -/
import Derived.Carry
import Derived.Test.YtmopdlbpkiaoeaaGreatDoorPqO
set_option maxRecDepth 100000
set_option maxHeartbeats 4000000
open Go.IntKind renaming i64->jd, u64->jg
open Go.Value renaming int->je, slice->jf, string->jh, bool->ji, pointer->jj, tuple->jk
namespace Go.Proofs.YtmopdlbpkiaoeaaGreatDoor
open Go.Lib renaming hid->qaa
open Go.Proofs.Tryz renaming prog->qab
open Go.World renaming ownsRow_nil->qav
open Nat renaming le_refl->qac, le_trans->qal, zero_le->qaj
variable {rs:List (List Nat × Nat × Int)}{ts:List Tok}{f:MF}{N N' d:Nat}{C:PC}{er:Value}{W w:World}
section
open Go.RowKit
section
variable {C:PC} {N N':Nat} {rs:List (List Nat × Nat × Int)} {d:Nat} {qs:List Value} {w W w':World} {o:PO} {e:Ending}
theorem z0n {F:List Tok->MF->PO}(hM:MOk C 97 F 2 N N' d)(hMB:MBad C 97 d 2)(hN:N<=N'/\N'<=800000000)(h:St C N rs d qs w o W)(hF:∀a g,o=.ok a g->Fit 2 N rs a g)(hG:Grow 0 2 F)(x:List Nat)(a0:Nat) :
  Calls qab 71 #[jj (some ⟨C.B,0,none⟩),.agg #[jh (strOf x),je jd (a0:Int),je jd 0]] W (RIs C rs x a0 d qs w (o.bind F)):=by
 obtain⟨k,h⟩:=h;cases o with
 |bad a dp=>exact(z0m hMB U h _ _).mono fun e w' h=>⟨h.1,qal k.size h.2.1,h.2.2⟩
 |ok a g=>
  obtain⟨tq,hP,ht⟩:=h;refine(z4t hM U hP (hF a g rfl) (fun a' g' e=>?_) x a0).mono fun e w' h=>⟨h.1,qal k.size h.2.1,?_⟩
  ·have hg:=hG a g
   rw[e] at hg;have:=((hF a g rfl).next hg (c':=0) (qac _)).1;have:=(hF a g rfl).2.2.2.1;omega
  ·obtain⟨-,-,h⟩:=h
   show match F a g with
    |.ok a g=>∃v tq,PSt { C with rv:=v } (rs++[(x,a0,lastI g)]) a g d (qs++tq) w'
    |.bad a dp=>PEnd C (erV a dp) w'
   cases hO:F a g with
   |bad b dp=>rw[hO] at h;exact h
   |ok b u=>
    rw[hO] at h;obtain⟨v,t2,h⟩:=h;exact⟨v,tq++t2,by rw[<-List.append_assoc];exact h⟩
end
theorem z4u (F:List Tok->MF->PO)(ts:List Tok)(f:MF):defL false F ts f=((expL 1 ts f).bind (expL 2)).bind F:=by
 unfold defL;unfold expL;by_cases h:kd ts=1
 ·rw[if_pos h,if_pos h]
  cases acc false ts.tail f with
  |bad a dp=>rfl
  |ok a g=>
   show(if kd a=2 then _ else _)=PO.bind (if kd a=2 then _ else _) F;by_cases h2:kd a=2
   ·rw[if_pos h2,if_pos h2]
   ·rw[if_neg h2,if_neg h2];rfl
 ·rw[if_neg h,if_neg h];rfl
theorem zrz (C:PC)(hSg:SignsAt C.w0)(hs:C.s.size<=1050000){F:List Tok->MF->PO}(hM:(MOk C 97 F 2 N N' d))(hMB:MBad C 97 d 2)(hG:Grow 0 2 F)(hN:N<=N'/\N'<=800000000)
  (rs:List (List Nat × Nat × Int)) (qs:List Value) (w:World) (o:PO) (x:List Nat) (a0:Nat) (hP:St C N rs d qs w o w) (hF:∀a g,o=.ok a g->Fit 2 N rs a g)
  (b3:w.cell? ⟨C.B,3,none⟩=some (je jd (a0:Int))) (b4:w.cell? ⟨C.B,4,none⟩=some (jh (strOf x))) :
  Calls qab 88 #[jj (some ⟨C.B,0,none⟩)] w (RIs C rs x a0 d qs w (((o.bind (expL 1)).bind (expL 2)).bind F)):=by
 have exF:∀(k:Nat) (o:PO),k≠0->(∀a g,o=.ok a g->Fit 2 N rs a g)->∀a g,o.bind (expL k)=.ok a g->Fit 2 N rs a g:=fun k o hk h a g e=>by
  cases o with
  |bad b dp=>cases e
  |ok b u=>
   have e:expL k b u=.ok a g:=e;unfold expL at e;split at e
   ·rename_i hkb
    unfold acc at e;split at e
    ·cases e
    ·cases e
     exact(h b _ rfl).tail U U
   ·cases e
 obtain⟨csB,hBw⟩:=hP.isB;have hDB:w.heap.size≠C.B:=by have:=hBw.lt;omega
 have bl:=hBw.lt;have expD:∀(k:Nat) (o:PO),k≠0->(∀a g,o=.ok a g->Fit 2 N rs a g)->∀(cs:Array Value) W,St C N rs d qs w o W->Bl W w.heap.size 123 cs->Calls qab 115 #[jj (some ⟨C.B,0,none⟩),je jd (k:Int)] W fun e w'=>e=.returned (jk #[])/\St C N rs d qs w (o.bind (expL k)) w'/\Bl w' w.heap.size 123 cs:=fun k o hk h cs W hW hD=>by
  obtain⟨kq,hW⟩:=hW;cases o with
  |bad a dp=>exact(zwh C a dp N d W k hk hW).mono fun e w' h=>⟨h.1,⟨kq.trans h.2.1,h.2.2⟩,h.2.1.bl hD hDB ja⟩
  |ok a g=>
   obtain⟨tq,hP,ht⟩:=hW;obtain⟨f1,f2,f3,-⟩:=h a g rfl;exact(z2j C hSg hs rs a g d (qs++tq) W N k hk hP U U f3).mono fun e w' h=>⟨h.1,St.trans kq ht h.2,h.2.1.bl hD hDB ja⟩
 have HX1:=qaa fun(W:World) (h:Below w.heap.size w W) (hD:Bl W w.heap.size 123 #[jh (strOf x),je jd (a0:Int),je jd 0])=>(show Calls qab 115 #[jj (some ⟨C.B,0,none⟩),je jd 1] W _ from expD 1 o ja hF _ W (hP.below h) hD)
 have HX2:=qaa fun(W:World) (h:St C N rs d qs w (o.bind (expL 1)) W) (hD:Bl W w.heap.size 123 #[jh (strOf x),je jd (a0:Int),je jd 0])=>(show Calls qab 115 #[jj (some ⟨C.B,0,none⟩),je jd 2] W _ from expD 2 _ ja (exF 1 o ja hF) _ W h hD)
 have HR:=qaa fun(W:World) (h:St C N rs d qs w ((o.bind (expL 1)).bind (expL 2)) W)=>z0n hM hMB hN h (exF 2 _ ja (exF 1 o ja hF)) hG x a0
 obtain⟨st,hst⟩:∃y,strOf x=y:=⟨_,rfl⟩;rw[hst] at b4 HX1 HX2 HR;clear hP hF hM hMB hG hN exF expD hSg hs hBw hst;go_enter Tryz.func88,Tryz.ntmps88;go_wp2
 go_region_with fail
 all_goals
  clear b3 b4
  go_wp2_with (first
   |(go_at_call 115;(with_reducible refine(HX1.out _ ?_ ?_).mono ?_);(· repeat (first|exact Below.refl _ _|refine Below.drew ?_|refine zac ?_ rfl _));(· repeat (first|(refine Bl.new' ?_;simp;done)|refine Bl.drew ?_|refine Bl.past ?_));rintro e w1 h;have h1:=h.1;subst h1;have H1:=qaa h.2;clear h)
   |(go_at_call 115;(with_reducible refine(HX2.out _ H1.out.1 H1.out.2).mono ?_);rintro e w2 h;have h1:=h.1;subst h1;have D0:w2.cell? ⟨w.heap.size,0,none⟩=some (jh st):=h.2.2.cell rfl;have D1:w2.cell? ⟨w.heap.size,1,none⟩=some (je jd (a0:Int)):=h.2.2.cell rfl;have D2:w2.cell? ⟨w.heap.size,2,none⟩=some (je jd 0):=h.2.2.cell rfl;have dl:=h.2.2.lt;have H2:=qaa h.2.1;clear h)
   |(go_at_call 71;(with_reducible refine(HR.out _ H2.out).mono ?_);rintro e w3 h;have h1:=h.1;subst h1;have H3:=qaa h;clear h))
  go_end0
  exact H3.out
theorem z2k (C:PC)(hSg:SignsAt C.w0)(hs:C.s.size<=1050000){F:List Tok->MF->PO}(hM:MOk C 97 F 2 N N' d)(hMB:MBad C 97 d 2)(hG:Grow 0 2 F)(hN:N<=N'/\N'<=800000000)
  (rs:List (List Nat × Nat × Int)) (qs:List Value) (w:World) (ts:List Tok) (f:MF) (hP:PSt C rs ts f d qs w) (hF:Fit 2 N rs ts f) :
  Calls qab 88 #[jj (some ⟨C.B,0,none⟩)] w (RIs C rs (txt ts) (pos ts) d qs w (defL false F ts f)):=by
 obtain⟨k,a,x,r,tl,rfl,-,⟨-,b3,b4,-⟩,-⟩:=hP.token;have:=zrz C hSg hs hM hMB hG hN rs qs w (.ok (⟨k,a,x,r⟩::tl) f) x a (St.start hP) (fun a' g' e=>by cases e;exact hF) b3 b4;rw[z4u];exact this
theorem z4v (C:PC)(hSg:SignsAt C.w0)(hs:C.s.size<=1050000){F:List Tok->MF->PO}(hM:MOk C 97 F 2 N N' d)(hMB:MBad C 97 d 2)(hG:Grow 0 2 F)(hN:N<=N'/\N'<=800000000)
  (w:World) (a:List Tok) (dp:Bool) (hP:PBad C (erV a dp) N d w) :
  Calls qab 88 #[jj (some ⟨C.B,0,none⟩)] w fun e w'=>e=.returned (jk #[])/\w.heap.size<=w'.heap.size/\PEnd C (erV a dp) w':=by
 have hP':=hP;obtain⟨-,n,rv,nv,cv,m1,m2,m3,c1,c2,c3,hB,-⟩:=hP';obtain⟨⟨-,-,-,b3,b4,-⟩,-⟩:=seventeen hB.unzero;exact zrz C hSg hs hM hMB hG hN [] [] w (.bad a dp) [] 0 ⟨Kq.refl w,hP⟩ (fun a' g' e=>by cases e) b3 b4
def FEnd (C:PC)(O:FO)(w:World):Prop:=match O with
 |.ok rs f=>∃v qs ts,kd ts=0/\PSt { C with rv:=v } rs ts f 0 qs w
 |.bad a dp=>PEnd C (erV a dp) w
def DefsR (C:PC)(F:List Tok->MF->PO)(N:Nat)(O:FO)(gk:Nat)(w:World):Prop:=
 (∃v rs ts f qs,PSt { C with rv:=v } rs ts f 0 qs w/\Fit 2 N rs ts f/\rs.length+ts.length<=N/\ts.length<=gk/\(if kd ts=0 then FO.ok rs f else defsL false F gk ts f rs)=O)∨(∃a dp,PEnd C (erV a dp) w/\O=.bad a dp)
theorem zw4 {F:List Tok->MF->PO}(hG:Grow 0 2 F){a:List Tok}{g:MF}(hF:Fit 2 N rs ts f)(h:defL false F ts f=.ok a g):Fit 2 N rs a g/\a.length+2<=ts.length:=by
 unfold defL at h;split at h
 ·rename_i h1
  unfold acc at h;split at h
  ·cases h
  ·have h:(if kd ts.tail=2 then (acc false ts.tail.tail f).bind F else PO.bad ts.tail false)=.ok a g:=h
   split at h
   ·rename_i h2
    unfold acc at h;split at h
    ·cases h
    ·have h:F ts.tail.tail f=.ok a g:=h
     have hf1:Fit 5 N rs ts.tail f:=hF.tail U U;have hf2:Fit 8 N rs ts.tail.tail f:=hf1.tail U U;have hg:=hG ts.tail.tail f;rw[h] at hg;have t1:=zcq (ts:=ts) U;have t2:=zcq (ts:=ts.tail) U;have:=hg.2.1;exact⟨hf2.next hg U,U⟩
   ·cases h
 ·cases h
theorem PEnd.kind (h:PEnd C er w):w.cell? ⟨C.B,2,none⟩=some (je jd 0):=by
 obtain⟨-,pc,hB,h2,-⟩:=h;exact hB.cell h2
theorem PEnd.lt (h:PEnd C er w):C.B<w.heap.size:=by
 obtain⟨-,pc,hB,h2,-⟩:=h;exact hB.lt
theorem PSt.name {qs:List Value}(h:PSt C rs ts f d qs w):PSt { C with nm:=true } rs ts f d qs (w.setCell ⟨C.B,13,none⟩ (ji true)):=by
 obtain⟨hF,n,t,rv,nv,cv,hc,hB,hR⟩:=h;exact⟨hF.set _ _,n,t,rv,nv,cv,hc,put13 hB _,hR.only hB ((OnlyB.refl _ _).set _ _)⟩
theorem PBad.name (h:PBad C er N d w):PBad { C with nm:=true } er N d (w.setCell ⟨C.B,13,none⟩ (ji true)):=by
 obtain⟨hF,n,rv,nv,cv,m1,m2,m3,c1,c2,c3,hB,h1,h2,h3,l⟩:=h;have ho:=(OnlyB.refl C.B w).set 13 (ji true);exact⟨hF.set _ _,n,rv,nv,cv,m1,m2,m3,c1,c2,c3,put13 hB _,ho.row h1 (zaq h1 hB ja),ho.row h2 (zaq h2 hB ja),ho.row h3 (zaq h3 hB ja),l⟩
def FDo (C:PC)(O:FO)(e:Ending)(w':World):Prop:=e=.returned (jk #[])/\FEnd C O w'
def thenL (F:List Tok->MF->PO)(n:Nat)(ts:List Tok)(rs:List (List Nat × Nat × Int))(o:PO):FO:=match o with
 |.bad a d=>.bad a d
 |.ok a g=>if kd a=0 then .ok (rs++[(txt ts,pos ts,lastI g)]) g else defsL false F n a g (rs++[(txt ts,pos ts,lastI g)])
theorem zk3 (F:List Tok->MF->PO)(n:Nat)(ts:List Tok)(f:MF)(rs:List (List Nat × Nat × Int)):defsL false F (n+1) ts f rs=thenL F n ts rs (defL false F ts f):=by
 show(match defL false F ts f with
  |.bad a d=>FO.bad a d
  |.ok a g=>if kd a=0 then .ok (rs++[(txt ts,pos ts,lastI g)]) g else defsL false F n a g (rs++[(txt ts,pos ts,lastI g)]))=_
 unfold thenL;rfl
theorem zn2 (C:PC)(hSg:SignsAt C.w0)(hs:C.s.size<=1050000){F:List Tok->MF->PO}(hM:∀v,MOk { C with rv:=v } 97 F 2 N N' 0)(hMB:∀v,MBad { C with rv:=v } 97 0 2)(hG:Grow 0 2 F)(hN:N<=N'/\N'<=800000000)
  (w:World) (O:FO) (n:Nat) (c13:∃v,w.cell? ⟨C.B,13,none⟩=some v) (bf:∀o,w.frozen? ⟨C.B,o,none⟩=false)
  (hD:Calls qab 88 #[jj (some ⟨C.B,0,none⟩)] (w.setCell ⟨C.B,13,none⟩ (ji true)) fun e w'=>e=.returned (jk #[])/\DefsR C F N O n w') :
  Calls qab 55 #[jj (some ⟨C.B,0,none⟩)] w (FDo C O):=by
 have HD:=qaa hD;obtain⟨v13,c13⟩:=c13;have HDEF:=qaa fun(v:Value) (rs:List (List Nat × Nat × Int)) (ts:List Tok) (f:MF) (qs:List Value) (W:World) (h:PSt { C with rv:=v } rs ts f 0 qs W) (hF:Fit 2 N rs ts f)=>z2k { C with rv:=v } hSg hs (hM v) (hMB v) hG hN rs qs W ts f h hF
 have HGR:=qaa hG;clear hD hM hMB hG hSg hs hN;go_enter Tryz.func55,Tryz.ntmps55
 go_wp2_with (go_at_call 88;(with_reducible refine HD.out.mono ?_);rintro e w1 ⟨rfl,h⟩;have H1:=qaa h;clear h)
 go_loopg [] n (fun gk wr=>DefsR C F N O gk wr)
 case atStart=>exact H1.out
 case round=>
  rcases hrel with⟨v,rs,ts,f,qs,hP,hF,hL,hgk,hO⟩|⟨a,dp,hE,hO⟩
  ·have c2:=hP.kind
   have bl1:C.B<wr.heap.size:=by obtain⟨cs,h⟩:=hP.isB;exact h.lt
   by_cases h0:kd ts=0
   ·have h0':((kd ts:Nat):Int)=0:=by rw[h0];rfl
    rw[if_pos h0] at hO;rw[h0'] at c2;have c2:wr.cell? ⟨C.B,2,none⟩=some (je jd 0):=c2;have HE:Hid (FEnd C O wr):=qaa (by rw[<-hO];exact⟨v,qs,ts,h0,hP⟩);clear hP hF hL hgk hO h0 h0';go_wp2
    go_end0
    exact⟨rfl,HE.out⟩
   ·rw[if_neg h0] at hO
    obtain⟨m,rfl⟩:∃m,gk=m+1:=⟨gk-1,by
     have:=zcq h0;omega⟩
    rw[zk3] at hO;have HC:=qaa (HDEF.out v rs ts f qs wr hP hF);have e1:(((kd ts:Nat):Int) != 0)=true:=by rw[bne_iff_ne];omega
    have HR:=qaa fun(e:Ending) (W:World) (h:RIs { C with rv:=v } rs (txt ts) (pos ts) 0 qs wr (defL false F ts f) e W)=>(by
     obtain⟨-,-,h⟩:=h;have hgr:=fun a g=>zw4 HGR.out (a:=a) (g:=g) hF
     revert h hO hgr;cases defL false F ts f with
     |bad a dp=>exact fun hO h _=>.inr ⟨a,dp,h,hO.symm⟩
     |ok a g=>
      intro hO h hgr;obtain⟨v',tq,h⟩:=h;obtain⟨f1,f2⟩:=hgr a g rfl;have hl:(rs++[(txt ts,pos ts,lastI g)]).length=rs.length+1:=by rw[List.length_append];rfl
      exact .inl ⟨v',_,a,g,_,h,⟨f1.1,f1.2.1,U,f1.2.2.2⟩,U,U,hO⟩:DefsR C F N O m W)
    obtain⟨z,hz⟩:∃z:Int,((kd ts:Nat):Int)=z:=⟨_,rfl⟩;rw[hz] at e1 c2;have c2:wr.cell? ⟨C.B,2,none⟩=some (je jd z):=c2;clear hP hF hL hgk hO h0 hz
    go_wp2_with (go_at_call 88;(with_reducible refine HC.out.mono ?_);rintro e w2 h;have HR2:=qaa (HR.out _ _ h);have h1:=h.1;subst h1;clear h)
    go_roundg m
    case measure=>exact Nat.lt_succ_self m
    case rel=>exact HR2.out
  ·have c2:=hE.kind
   have bl1:=hE.lt;have HE:Hid (FEnd C O wr):=qaa (by rw[hO];exact hE);clear hE hO;go_wp2
   go_end0
   exact⟨rfl,HE.out⟩
end
section
open Go.RowKit Go.Maps
def PutAt (w W:World)(b:Nat)(o:Obj):Prop:=W.heap[b]?=some o/\(∀i,i≠b->W.heap[i]?=w.heap[i]?)/\W.heap.size=w.heap.size/\W.os=w.os/\W.tape=w.tape/\W.output=w.output
theorem zji {b:Nat}{es:Array MapEntry}{clock:Nat}(hb:w.heap[b]?=some (.map es clock))(hk:∀e ∈ es.toList,∃l,keyOf qab 3 e.key=some l)(n:Nat)(hn:n<=1000)(v:Value)(h:∀e ∈ es.toList,e.key≠.int .i64 (n:Int)) :
  ∃W,(Instr.mapUpdate 118 (.map (some b)) (je jd (n:Int)) v).run qab w=.ok () W/\PutAt w W b (.map (es.push ⟨je jd (n:Int),v,clock⟩) (clock+1)):=by
 rcases zhi.find w (zck n hn) es.toList hk with⟨h1,-⟩|⟨j,e,-,h2,h3⟩
 ·refine⟨ChangeMaps.setBlock w b (.map (es.push ⟨je jd (n:Int),v,clock⟩) (clock+1)),?_,ChangeMaps.heap_setBlock_same hb _,fun i hi=>ChangeMaps.heap_setBlock_other hb _ hi,by simp[ChangeMaps.setBlock],rfl,rfl,rfl⟩
  simp[Instr.mapUpdate,run_underlying Tryz.underlying118,MapKept.run_getObj_map hb,zhi.check w false (zck n hn),h1,MapKept.run_setObj_map _ hb,Result.andThen,ChangeMaps.setBlock]
 ·exact absurd h3 (h e (List.mem_of_getElem? h2))
theorem PutAt.below {b:Nat}{o:Obj}{n:Nat}(h:PutAt w W b o)(hn:n<=b):Below n w W:=⟨h.2.2.2.1,h.2.2.2.2.1,h.2.2.2.2.2,Nat.le_of_eq h.2.2.1.symm,fun k hk=>h.2.1 k U⟩
theorem zw5 (w:World):∃X1 X2 X3 X4 X5:World,
  (Instr.mapUpdate 118 (.map (some (w.heap.size+1))) (je jd 4) (je jd 8)).run qab ((w.alloc (.cells #[jf none 0 0,jf none 0 0,jf none 0 0] 46)).alloc (.map #[] 0))=.ok () X1 /\
  (Instr.mapUpdate 118 (.map (some (w.heap.size+1))) (je jd 5) (je jd 9)).run qab X1=.ok () X2 /\
  (Instr.mapUpdate 118 (.map (some X2.heap.size)) (je jd 6) (je jd 7)).run qab (X2.alloc (.map #[] 0))=.ok () X3 /\
  (Instr.mapUpdate 118 (.map (some X2.heap.size)) (je jd 7) (je jd 5)).run qab X3=.ok () X4 /\
  (Instr.mapUpdate 118 (.map (some X2.heap.size)) (je jd 8) (je jd 6)).run qab X4=.ok () X5 /\
  X5.heap[w.heap.size+1]?=some preO/\X5.heap[X2.heap.size]?=some sufO/\Below w.heap.size w X5/\X5.heap.size=w.heap.size+3/\X2.heap.size=w.heap.size+2/\Bl X5 w.heap.size 46 #[jf none 0 0,jf none 0 0,jf none 0 0]:=by
 obtain⟨A,hA⟩:∃A,w.alloc (.cells #[jf none 0 0,jf none 0 0,jf none 0 0] 46)=A:=⟨_,rfl⟩;have sA:A.heap.size=w.heap.size+1:=by rw[<-hA];simp
 have bA:Below w.heap.size w A:=by rw[<-hA];exact zaa w _
 have fA:Bl A w.heap.size 46 #[jf none 0 0,jf none 0 0,jf none 0 0]:=by rw[<-hA];exact Bl.new w _ _
 rw[hA];obtain⟨X1,r1,p1⟩:=zji (heap_alloc_new A (.map #[] 0)) (fun e he=>by simp at he) 4 ja (je jd 8) (fun e he=>by simp at he);obtain⟨X2,r2,p2⟩:=zji p1.1 (fun e he=>by simp at he;subst he;exact⟨_,zck 4 ja⟩) 5 ja (je jd 9) (fun e he=>by simp at he;subst he;intro e;injection e with _ e;exact absurd e ja);obtain⟨X3,r3,p3⟩:=zji (heap_alloc_new X2 (.map #[] 0)) (fun e he=>by simp at he) 6 ja (je jd 7) (fun e he=>by simp at he);obtain⟨X4,r4,p4⟩:=zji p3.1 (fun e he=>by simp at he;subst he;exact⟨_,zck 6 ja⟩) 7 ja (je jd 5) (fun e he=>by simp at he;subst he;intro e;injection e with _ e;exact absurd e ja);obtain⟨X5,r5,p5⟩:=zji p4.1 (fun e he=>by
  simp at he;rcases he with rfl|rfl
  ·exact⟨_,zck 6 ja⟩
  ·exact⟨_,zck 7 ja⟩) 8 ja (je jd 6) (fun e he=>by
  simp at he;rcases he with rfl|rfl<;>(intro e;injection e with _ e;exact absurd e ja))
 rw[sA] at r1 r2 p1 p2;have s1:=p1.2.2.1;have s2:=p2.2.2.1;have s3:=p3.2.2.1;have s4:=p4.2.2.1;have s5:=p5.2.2.1;simp at s1 s3;have n2:X2.heap.size=w.heap.size+2:=U
 have g2:X5.heap[w.heap.size+1]?=X2.heap[w.heap.size+1]?:=by
  rw[p5.2.1 _ U,p4.2.1 _ U,p3.2.1 _ U];exact(zaa X2 (.map #[] 0)).block _ U
 have g1:X5.heap[w.heap.size]?=A.heap[w.heap.size]?:=by
  rw[p5.2.1 _ U,p4.2.1 _ U,p3.2.1 _ U,(zaa X2 (.map #[] 0)).block _ U,p2.2.1 _ U,p1.2.1 _ U];exact(zaa A (.map #[] 0)).block _ U
 refine⟨X1,X2,X3,X4,X5,r1,r2,r3,r4,r5,?_,p5.1,?_,U,n2,?_⟩
 ·rw[g2,p2.1];rfl
 ·exact((((((bA.trans ((zaa A _).mono U)).trans (p1.below U)).trans (p2.below U)).trans ((zaa X2 _).mono U)).trans (p3.below U)).trans (p4.below U)).trans (p5.below U)
 ·unfold Bl;rw[g1];exact fA
theorem zw6 (C:PC)(hSg:SignsAt C.w0)(hs:C.s.size<=1050000)(N:Nat)(w:World)(hF:PFix C w)(hrv:C.rv=jf none 0 0)(hB:PB C 0 ⟨0,0,[],[]⟩ .nilIface (jf none 0 0) (jf none 0 0) (jf none 0 0) 0 w) :
  Calls qab 70 #[jj (some ⟨C.B,0,none⟩)] w (DoIs C N [] 0 [] w (acc false (strm (bts C.s) 0) ⟨[],[]⟩)):=by
 have hS:=PSt.signs hF hSg;have hR:∀W,PRows C [] ⟨[],[]⟩ [] (jf none 0 0) (jf none 0 0) (jf none 0 0) W:=fun W=>⟨NRow.nil _ _,qav _ _ _ _,hrv.symm,qav _ _ _ _⟩
 cases hx:nextL (bts C.s) 0 with
 |error k=>
  have hst:=zcg hx;refine(zje C 0 _ .nilIface _ _ _ 0 w ⟨0,0,[],[]⟩ 0 k hB hS (fun W hW=>?_)).mono ?_
  ·have:=zgn C.s 0 k W hs (qaj _) hW hx
   simp only[zc6];exact this
  ·rintro e w' ⟨rfl,hB',w2,hb,ho⟩
   have hk2:Kq C.w0.heap.size C.B w w':=(Kq.of_below hb).trans ho.kq;have ha:acc false (strm (bts C.s) 0) ⟨[],[]⟩=.bad (strm (bts C.s) 0) false:=by
    unfold acc;rw[hst];exact if_pos ⟨rfl,rfl⟩
   rw[ha];refine⟨rfl,hk2,hF.kept hk2,0,jf none 0 0,jf none 0 0,jf none 0 0,0,0,0,[],[],[],?_,qav _ _ _ _,qav _ _ _ _,qav _ _ _ _,qaj _,qaj _,qaj _⟩;rw[hst];exact hB'
 |ok y=>
  obtain⟨t',n'⟩:=y;have hmv:=za6 (bts C.s) 0 (qaj _) t' n' hx;rw[zaj] at hmv;refine(zku C 0 _ .nilIface _ _ _ 0 w t' n' hB hS (fun W hW=>zgo C.s 0 t' n' W hs (qaj _) hW hx)).mono ?_;rintro e w' ⟨rfl,hB',w2,hb,ho⟩;have hk2:Kq C.w0.heap.size C.B w w':=(Kq.of_below hb).trans ho.kq;have hkd:=zd8 hx;obtain⟨tl,htl',hcl⟩:∃tl,strm (bts C.s) 0=t'::tl/\(t'.kind≠0->tl=strm (bts C.s) n'):=by
   by_cases h0:t'.kind=0
   ·exact⟨[],zbt hx h0,fun h=>absurd h0 h⟩
   ·exact⟨_,zbe hx h0 (by
                   rw[zaj];rcases hmv with h|h
                   ·exact absurd h.1 h0
                   ·exact h.2),fun _=>rfl⟩
  have ha:acc false (strm (bts C.s) 0) ⟨[],[]⟩=.ok (strm (bts C.s) 0) ⟨[],[]⟩:=by
   unfold acc;refine if_neg ?_;rw[htl'];show ¬(_/\t'.kind=99);omega
  rw[ha];exact⟨rfl,hk2,[],⟨hF.kept hk2,n',t',_,_,_,⟨U,U,tl,htl',hcl⟩,hB',hR _⟩,fun q h=>nomatch h⟩
def zfb (O:FO)(w:World)(e:Ending)(w':World):Prop:=match O with
 |.ok rs f=>∃rv nv cv qs,e=.returned (jk #[.agg #[rv,nv,cv],.nilIface])/\NRow w.heap.size nv f.nodes qs w'/\w'.ownsRow w.heap.size 66 2 cv f.calls.length (zcw f.calls)/\w'.ownsRow w.heap.size 123 3 rv rs.length (defsC rs)/\Below w.heap.size w w'
 |.bad a dp=>e=.returned (jk #[.agg #[jf none 0 0,jf none 0 0,jf none 0 0],erV a dp])/\Below w.heap.size w w'
def newC (w X:World)(s:ByteArray)(nm:Bool):PC:=⟨X,s,nm,w.heap.size+3,w.heap.size+1,w.heap.size+2,jf none 0 0⟩
def zw7 (s:ByteArray):PO:=acc false (strm (bts s) 0) ⟨[],[]⟩
def SNow (C:PC)(N:Nat)(o:PO)(W:World):Prop:=match o with
 |.ok a g=>∃qs,PSt C [] a g 0 qs W
 |.bad a dp=>PBad C (erV a dp) N 0 W
theorem SNow.of {o:PO}(h:St C N [] 0 [] w o W):SNow C N o W:=by
 obtain⟨-,h⟩:=h;cases o with
 |bad a dp=>exact h
 |ok a g=>obtain⟨tq,h,-⟩:=h;exact⟨_,h⟩
theorem z6r {X:World}{s:ByteArray}{v:Value}{qs:List Value}(hX:Below w.heap.size w X)(hs:X.heap.size=w.heap.size+3)(hb:Bl X w.heap.size 46 #[jf none 0 0,jf none 0 0,jf none 0 0]){nm:Bool}(h:PSt { newC w X s nm with rv:=v } rs ts f 0 qs W) :
  ∃nv cv pc,Bl W (w.heap.size+3) 120 pc/\pc[9]?=some .nilIface/\pc[10]?=some v/\pc[11]?=some nv/\pc[12]?=some cv/\Bl W w.heap.size 46 #[jf none 0 0,jf none 0 0,jf none 0 0] /\
   ∀a b c,zfb (.ok rs f) w (.returned (jk #[.agg #[v,nv,cv],.nilIface])) (((W.setCell ⟨w.heap.size,0,none⟩ a).setCell ⟨w.heap.size,1,none⟩ b).setCell ⟨w.heap.size,2,none⟩ c):=by
 obtain⟨hF,n,t,rv,nv,cv,hc,hB,hR⟩:=h;have hbl:Bl W w.heap.size 46 #[jf none 0 0,jf none 0 0,jf none 0 0]:=by
  unfold Bl;rw[hF.1.block _ (by show w.heap.size<X.heap.size;omega)];exact hb
 obtain⟨hR1,hR2,hrv,hR3⟩:=hR;have hrv:rv=v:=hrv;subst hrv;refine⟨nv,cv,_,hB,rfl,rfl,rfl,rfl,hbl,fun a b c=>⟨rv,nv,cv,qs,rfl,⟨hR1.1,?_,fun j n q e1 e2=>?_⟩,?_,?_,?_⟩⟩
 all_goals first
  |exact(((hX.trans (hF.1.mono (by show w.heap.size<=X.heap.size;omega))).setCell (p:=⟨w.heap.size,0,none⟩) (qac _) a).setCell (p:=⟨w.heap.size,1,none⟩) (qac _) b).setCell (p:=⟨w.heap.size,2,none⟩) (qac _) c
  |skip
 ·exact za2 (zaw (zaw (zaw hR1.2.1 (by show w.heap.size<X.heap.size;omega) _ _) (by show w.heap.size<X.heap.size;omega) _ _) (by show w.heap.size<X.heap.size;omega) _ _) (by show w.heap.size<=X.heap.size;omega)
 ·exact za2 (zaw (zaw (zaw (hR1.2.2 j n q e1 e2) (by show w.heap.size<X.heap.size;omega) _ _) (by show w.heap.size<X.heap.size;omega) _ _) (by show w.heap.size<X.heap.size;omega) _ _) (by show w.heap.size<=X.heap.size;omega)
 ·exact za2 (zaw (zaw (zaw hR2 (by show w.heap.size<X.heap.size;omega) _ _) (by show w.heap.size<X.heap.size;omega) _ _) (by show w.heap.size<X.heap.size;omega) _ _) (by show w.heap.size<=X.heap.size;omega)
 ·exact za2 (zaw (zaw (zaw hR3 (by show w.heap.size<X.heap.size;omega) _ _) (by show w.heap.size<X.heap.size;omega) _ _) (by show w.heap.size<X.heap.size;omega) _ _) (by show w.heap.size<=X.heap.size;omega)
theorem z4w {X:World}{s:ByteArray}{a:List Tok}{dp:Bool}(hX:Below w.heap.size w X)(hs:X.heap.size=w.heap.size+3)(hb:Bl X w.heap.size 46 #[jf none 0 0,jf none 0 0,jf none 0 0]){nm:Bool}(h:PEnd (newC w X s nm) (erV a dp) W) :
  ∃pc,Bl W (w.heap.size+3) 120 pc/\pc[9]?=some (erV a dp)/\Bl W w.heap.size 46 #[jf none 0 0,jf none 0 0,jf none 0 0]/\Below w.heap.size w W:=by
 obtain⟨hF,pc,hB,-,h9⟩:=h;have hbl:Bl W w.heap.size 46 #[jf none 0 0,jf none 0 0,jf none 0 0]:=by
  unfold Bl;rw[hF.1.block _ (by show w.heap.size<X.heap.size;omega)];exact hb
 exact⟨pc,hB,h9,hbl,hX.trans (hF.1.mono (by show w.heap.size<=X.heap.size;omega))⟩
theorem ztj (s:ByteArray)(w:World)(N:Nat)(O:FO)(hSg:SignsAt w)(hs:s.size<=1050000)
  (hAll:∀X W,SignsAt X->SNow (newC w X s false) N (zw7 s) W->Calls qab 55 #[jj (some ⟨w.heap.size+3,0,none⟩)] W (FDo (newC w X s true) O)) :
  Calls qab 42 #[jh s,.func (.func 55) #[] #[]] w (zfb O w):=by
 obtain⟨X1,X2,X3,X4,X5,r1,r2,r3,r4,r5,hmp,hms,hbX,hsX,hs2,hFb⟩:=zw5 w;rw[hs2] at r3 r4 r5 hms;have hm1:∀t,(Instr.makeMap t none).run qab (w.alloc (.cells #[jf none 0 0,jf none 0 0,jf none 0 0] 46))=.ok (.map (some (w.heap.size+1))) ((w.alloc (.cells #[jf none 0 0,jf none 0 0,jf none 0 0] 46)).alloc (.map #[] 0)):=fun t=>by
  rw[run_makeMap];simp
 have hm2:∀t,(Instr.makeMap t none).run qab X2=.ok (.map (some (w.heap.size+2))) (X2.alloc (.map #[] 0)):=fun t=>by
  rw[run_makeMap,hs2]
 have hSX:SignsAt X5:=hSg.kept hbX (qac _);have hF:PFix (newC w X5 s false) (X5.alloc (.cells #[jh s,je jd 0,je jd 0,je jd 0,jh ⟨#[]⟩,je jg 0,je jg 0,je jg 0,je jg 0,.nilIface,jf none 0 0,jf none 0 0,jf none 0 0,ji false,je jd 0,.map (some (w.heap.size+1)),.map (some (w.heap.size+2))] 120)):=
  ⟨zaa X5 _,by show X5.heap.size<=w.heap.size+3;omega,by show w.heap.size+3≠w.heap.size+1;omega,by show w.heap.size+3≠w.heap.size+2;omega,by show(X5.alloc _).heap[w.heap.size+1]?=_;rw[(zaa X5 _).block _ U];exact hmp,by show(X5.alloc _).heap[w.heap.size+2]?=_;rw[(zaa X5 _).block _ U];exact hms⟩
 have hB:PB (newC w X5 s false) 0 ⟨0,0,[],[]⟩ .nilIface (jf none 0 0) (jf none 0 0) (jf none 0 0) 0 (X5.alloc (.cells #[jh s,je jd 0,je jd 0,je jd 0,jh ⟨#[]⟩,je jg 0,je jg 0,je jg 0,je jg 0,.nilIface,jf none 0 0,jf none 0 0,jf none 0 0,ji false,je jd 0,.map (some (w.heap.size+1)),.map (some (w.heap.size+2))] 120)):=by
  refine PB.zero ?_;exact Bl.new' (by show w.heap.size+3=X5.heap.size;omega)
 have HA:=qaa (show Calls qab 70 #[jj (some ⟨w.heap.size+3,0,none⟩)] _ _ from zw6 (newC w X5 s false) hSX hs N _ hF rfl hB);have HALL:=qaa fun(W:World) (h:SNow (newC w X5 s false) N (zw7 s) W)=>hAll X5 W hSX h
 have HFB:=qaa hFb;have HBX:=qaa hbX;have HSX:=qaa hsX;clear hF hB hAll hSg hs hSX hFb hbX hmp hms hs2;cases O with
 |bad a dp=>
  obtain⟨T,x,he⟩:∃T x,erV a dp=.iface T x:=⟨_,_,rfl⟩;have HE:=qaa he;clear he;go_enter Tryz.func42,Tryz.ntmps42
  go_upto_region 4 with(first
   |(go_at_call 70;(with_reducible refine HA.out.mono ?_);rintro e w2 h;have h1:=h.1;subst h1;have H2:=qaa (SNow.of h.2);clear h)
   |(go_at_call 55;(refine(HALL.out _ H2.out).mono ?_);rintro e w3 h;have h1:=h.1;subst h1;have H3:=qaa h.2;clear h))
  obtain⟨pc,hB3,p9,hb3,hw3⟩:=z4w HBX.out HSX.out HFB.out H3.out;rw[HE.out] at p9;have c9:w3.cell? ⟨w.heap.size+3,9,none⟩=some (.iface T x):=hB3.cell p9;have b0:w3.cell? ⟨w.heap.size,0,none⟩=some (jf none 0 0):=hb3.cell rfl;have b1:w3.cell? ⟨w.heap.size,1,none⟩=some (jf none 0 0):=hb3.cell rfl;have b2:w3.cell? ⟨w.heap.size,2,none⟩=some (jf none 0 0):=hb3.cell rfl;have bf:=hb3.free;have bl:=hb3.lt;have bl3:=hB3.lt;have HW3:=qaa hw3;have k0:(((w3.setCell ⟨w.heap.size,0,none⟩ (jf none 0 0)).setCell ⟨w.heap.size,1,none⟩ (jf none 0 0)).setCell ⟨w.heap.size,2,none⟩ (jf none 0 0)).cell? ⟨w.heap.size,0,none⟩=some (jf none 0 0):=by rw[cso ja,cso ja];exact css b0
  have k1:(((w3.setCell ⟨w.heap.size,0,none⟩ (jf none 0 0)).setCell ⟨w.heap.size,1,none⟩ (jf none 0 0)).setCell ⟨w.heap.size,2,none⟩ (jf none 0 0)).cell? ⟨w.heap.size,1,none⟩=some (jf none 0 0):=by rw[cso ja];exact css (by rw[cso ja];exact b1)
  have k2:(((w3.setCell ⟨w.heap.size,0,none⟩ (jf none 0 0)).setCell ⟨w.heap.size,1,none⟩ (jf none 0 0)).setCell ⟨w.heap.size,2,none⟩ (jf none 0 0)).cell? ⟨w.heap.size,2,none⟩=some (jf none 0 0):=css (by rw[cso ja,cso ja];exact b2);clear hB3 p9 hb3 hw3 r1 r2 r3 r4 r5 hm1 hm2;go_wp2
  go_region_with fail
  all_goals
   clear b0 b1 b2 c9;go_wp2;refine bodyPost_ret (v:=jk #[.agg #[jf none 0 0,jf none 0 0,jf none 0 0],.iface T x]) (by simp[results,Tryz.results42,go_sem,k0,k1,k2]) rfl ?_;refine⟨by rw[HE.out],?_⟩;exact((((HW3.out).setCell (p:=⟨w.heap.size,0,none⟩) (qac _) _).setCell (p:=⟨w.heap.size,1,none⟩) (qac _) _).setCell (p:=⟨w.heap.size,2,none⟩) (qac _) _).drew
 |ok rs f=>
  go_enter Tryz.func42,Tryz.ntmps42
  go_upto_region 4 with(first
   |(go_at_call 70;(with_reducible refine HA.out.mono ?_);rintro e w2 h;have h1:=h.1;subst h1;have H2:=qaa (SNow.of h.2);clear h)
   |(go_at_call 55;(refine(HALL.out _ H2.out).mono ?_);rintro e w3 h;have h1:=h.1;subst h1;have H3:=qaa h.2;clear h))
  obtain⟨v,qs,ts,-,hP⟩:=H3.out;obtain⟨nv,cv,pc,hB3,p9,p10,p11,p12,hb3,hfin⟩:=z6r HBX.out HSX.out HFB.out hP;have c9:w3.cell? ⟨w.heap.size+3,9,none⟩=some .nilIface:=hB3.cell p9;have c10:w3.cell? ⟨w.heap.size+3,10,none⟩=some v:=hB3.cell p10;have c11:w3.cell? ⟨w.heap.size+3,11,none⟩=some nv:=hB3.cell p11;have c12:w3.cell? ⟨w.heap.size+3,12,none⟩=some cv:=hB3.cell p12;have b0:w3.cell? ⟨w.heap.size,0,none⟩=some (jf none 0 0):=hb3.cell rfl;have b1:w3.cell? ⟨w.heap.size,1,none⟩=some (jf none 0 0):=hb3.cell rfl;have b2:w3.cell? ⟨w.heap.size,2,none⟩=some (jf none 0 0):=hb3.cell rfl;have bf:=hb3.free;have bl:=hb3.lt;have bl3:=hB3.lt;have HFIN:=qaa hfin;obtain⟨va,vn,vc,rfl⟩:∃a n c,v=jf a n c:=by
   obtain⟨-,n,t,rv,nv,cv,-,-,hR⟩:=hP;have:=hR.2.2.2;rw[hR.2.2.1] at this;obtain⟨a,c,h⟩:=zag this;exact⟨a,_,c,h⟩
  obtain⟨na,nn,nc,rfl⟩:∃a n c,nv=jf a n c:=by
   have h:=hfin .nilIface .nilIface .nilIface;obtain⟨rv,nv',cv',qs',e,h1,-⟩:=h;injection e with e;injection e with e;injection e with e;simp at e;obtain⟨-,rfl,-⟩:=e;obtain⟨a,c,h⟩:=zag h1.2.1;exact⟨a,_,c,h⟩
  obtain⟨ca,cn,cc,rfl⟩:∃a n c,cv=jf a n c:=by
   have h:=hfin .nilIface .nilIface .nilIface;obtain⟨rv,nv',cv',qs',e,-,h1,-⟩:=h;injection e with e;injection e with e;injection e with e;simp at e;obtain⟨-,-,rfl⟩:=e;obtain⟨a,c,h⟩:=zag h1;exact⟨a,_,c,h⟩
  have k0:(((w3.setCell ⟨w.heap.size,0,none⟩ (jf va vn vc)).setCell ⟨w.heap.size,1,none⟩ (jf na nn nc)).setCell ⟨w.heap.size,2,none⟩ (jf ca cn cc)).cell? ⟨w.heap.size,0,none⟩=some (jf va vn vc):=by rw[cso ja,cso ja];exact css b0
  have k1:(((w3.setCell ⟨w.heap.size,0,none⟩ (jf va vn vc)).setCell ⟨w.heap.size,1,none⟩ (jf na nn nc)).setCell ⟨w.heap.size,2,none⟩ (jf ca cn cc)).cell? ⟨w.heap.size,1,none⟩=some (jf na nn nc):=by rw[cso ja];exact css (by rw[cso ja];exact b1)
  have k2:(((w3.setCell ⟨w.heap.size,0,none⟩ (jf va vn vc)).setCell ⟨w.heap.size,1,none⟩ (jf na nn nc)).setCell ⟨w.heap.size,2,none⟩ (jf ca cn cc)).cell? ⟨w.heap.size,2,none⟩=some (jf ca cn cc):=css (by rw[cso ja,cso ja];exact b2);clear hB3 p9 p10 p11 p12 hb3 hfin hP r1 r2 r3 r4 r5 hm1 hm2;go_wp2;refine bodyPost_ret (v:=jk #[.agg #[jf va vn vc,jf na nn nc,jf ca cn cc],.nilIface]) (by simp[results,Tryz.results42,go_sem,k0,k1,k2]) rfl ?_;exact HFIN.out _ _ _
end
section
open Go.RowKit
theorem zjj (s:ByteArray)(hs:s.size<=1050000):Fit 2 5000000 [] (strm (bts s) 0) ⟨[],[]⟩:=by
 obtain⟨h1,h2,h3⟩:=zfl (bts s) _ 0 (qaj _) (qac _);rw[zaj] at h1 h2;refine⟨?_,?_,qaj _,U,fun t ht=>⟨(h3 t ht).1,(h3 t ht).2 (zt5 s)⟩⟩
 ·show 0+wt _+2<=_;omega
 ·show 0+(strm (bts s) 0).length<=_;omega
theorem zw8 (s:ByteArray)(w:World)(hSg:SignsAt w)(hs:s.size<=1050000):Calls qab 42 #[jh s,.func (.func 55) #[] #[]] w (zfb (fileL (bts s)) w):=by
 refine ztj s w 5000000 (fileL (bts s)) hSg hs fun X W hX h=>?_
 have hM:∀v,MOk { newC w X s true with rv:=v } 97 (exprL false 200 true) 2 5000000 (5000000+10*(200+1)) 0:=fun v=>z4r { newC w X s true with rv:=v } hX hs U 200 0 rfl
 have hMB:∀v,MBad { newC w X s true with rv:=v } 97 0 2:=fun v=>zrx { newC w X s true with rv:=v } hX hs 0
 have hG:Grow 0 2 (exprL false 200 true):=Gr.expr 200 true;unfold zw7 at h;unfold acc at h;by_cases h9:kd (strm (bts s) 0)=99
 ·have hO:fileL (bts s)=.bad (strm (bts s) 0) false:=if_pos h9
  rw[if_pos ⟨rfl,h9⟩] at h;have h:PBad (newC w X s false) (erV (strm (bts s) 0) false) 5000000 0 W:=h;have h2:=PBad.name h;obtain⟨cs,hB⟩:=h.isB;obtain⟨-,n,rv,nv,cv,m1,m2,m3,c1,c2,c3,hB',-⟩:=h;have h13:=(seventeen hB').2.1.2.2.2.2.1;refine zn2 (newC w X s true) hX hs hM hMB hG ⟨U,U⟩ W _ 0 ⟨_,h13⟩ hB.free ((z4v { newC w X s true with rv:=jf none 0 0 } hX hs (hM _) (hMB _) hG ⟨U,U⟩ _ _ _ h2).mono fun e w' k=>⟨k.1,.inr ⟨_,_,k.2.2,hO⟩⟩)
 ·rw[if_neg (fun k=>h9 k.2)] at h
  have h:∃qs,PSt (newC w X s false) [] (strm (bts s) 0) ⟨[],[]⟩ 0 qs W:=h;obtain⟨qs,h⟩:=h;have h2:=PSt.name h;obtain⟨cs,hB⟩:=h.isB;have h13:W.cell? ⟨(newC w X s false).B,13,none⟩=some (ji (newC w X s false).nm):=by
   obtain⟨-,n,t,rv,nv,cv,-,hB',-⟩:=h;exact(seventeen hB').2.1.2.2.2.2.1
  have hF:=zjj s hs;refine zn2 (newC w X s true) hX hs hM hMB hG ⟨U,U⟩ W _ (strm (bts s) 0).length ⟨_,h13⟩ hB.free ((z2k { newC w X s true with rv:=jf none 0 0 } hX hs (hM _) (hMB _) hG ⟨U,U⟩ [] qs _ (strm (bts s) 0) ⟨[],[]⟩ h2 hF).mono fun e w' k=>⟨k.1,?_⟩);have hO:fileL (bts s)=thenL (exprL false 200 true) (strm (bts s) 0).length (strm (bts s) 0) [] (defL false (exprL false 200 true) (strm (bts s) 0) ⟨[],[]⟩):=by
   rw[<-zk3];exact if_neg h9
  obtain⟨-,-,k⟩:=k;have hgr:=fun a g=>zw4 hG (a:=a) (g:=g) hF
  rw[hO];revert k hgr;cases defL false (exprL false 200 true) (strm (bts s) 0) ⟨[],[]⟩ with
  |bad a dp=>exact fun k _=>.inr ⟨a,dp,k,rfl⟩
  |ok a g=>
   intro k hgr;obtain⟨v',tq,k⟩:=k;obtain⟨f1,f2⟩:=hgr a g rfl;have h2:=(zjj s hs).2.1;have h3:(([]:List (List Nat × Nat × Int))++[(txt (strm (bts s) 0),pos (strm (bts s) 0),lastI g)]).length=1:=rfl;have h4:(strm (bts s) 0).length<=5000000:=by
    have:0+(strm (bts s) 0).length<=5000000:=h2;omega
   exact .inl ⟨v',_,a,g,_,k,⟨f1.1,f1.2.1,U,f1.2.2.2⟩,U,U,rfl⟩
theorem z4x {W2:World}{e:Ending}{cs:Array Value}(hb:Below w.heap.size w W)(hs:W.heap.size=w.heap.size+1)(hB:Bl W w.heap.size 46 cs)(h:zfb (.ok rs f) W e W2) :
  ∃va vn vc na nn nc ca cn cc,e=.returned (jk #[.agg #[jf va vn vc,jf na nn nc,jf ca cn cc],.nilIface])/\Bl W2 w.heap.size 46 cs/\∀a b c,zfb (.ok rs f) w e (((W2.setCell ⟨w.heap.size,0,none⟩ a).setCell ⟨w.heap.size,1,none⟩ b).setCell ⟨w.heap.size,2,none⟩ c):=by
 obtain⟨rv,nv,cv,qs,rfl,h1,h2,h3,h4⟩:=h;obtain⟨va,vc,e1⟩:=zag h3;obtain⟨na,nc,e2⟩:=zag h1.2.1;obtain⟨ca,cc,e3⟩:=zag h2;subst e1 e2 e3;refine⟨va,_,vc,na,_,nc,ca,_,cc,rfl,hB.below h4,fun a b c=>⟨_,_,_,qs,rfl,⟨h1.1,?_,fun j n q e1 e2=>?_⟩,?_,?_,?_⟩⟩
 ·exact za2 (zaw (zaw (zaw h1.2.1 U _ _) U _ _) U _ _) U
 ·exact za2 (zaw (zaw (zaw (h1.2.2 j n q e1 e2) U _ _) U _ _) U _ _) U
 ·exact za2 (zaw (zaw (zaw h2 U _ _) U _ _) U _ _) U
 ·exact za2 (zaw (zaw (zaw h3 U _ _) U _ _) U _ _) U
 ·exact(((hb.trans (h4.mono U)).setCell (p:=⟨w.heap.size,0,none⟩) (qac _) a).setCell (p:=⟨w.heap.size,1,none⟩) (qac _) b).setCell (p:=⟨w.heap.size,2,none⟩) (qac _) c
theorem zax (s:ByteArray)(w:World)(hSg:SignsAt w)(hs:s.size<=1050000):Calls qab 33 #[jh s] w (zfb (fileL (bts s)) w):=by
 have hw:=zaa w (.cells #[jf none 0 0,jf none 0 0,jf none 0 0] 46);have hC:=zw8 s (w.alloc (.cells #[jf none 0 0,jf none 0 0,jf none 0 0] 46)) (hSg.kept hw (qac _)) hs;have hB:=Bl.new w 46 #[jf none 0 0,jf none 0 0,jf none 0 0];generalize fileL (bts s)=O at hC ⊢;cases O with
 |bad a dp=>
  obtain⟨T,x,he⟩:∃T x,erV a dp=.iface T x:=⟨_,_,rfl⟩;have HC:Hid (Calls qab 42 #[jh s,.func (.func 55) #[] #[]] (w.alloc (.cells #[jf none 0 0,jf none 0 0,jf none 0 0] 46)) fun e w'=>e=.returned (jk #[.agg #[jf none 0 0,jf none 0 0,jf none 0 0],.iface T x])/\Below w.heap.size w w'/\Bl w' w.heap.size 46 #[jf none 0 0,jf none 0 0,jf none 0 0]):=qaa (by rw[<-he];exact hC.mono fun e w' h=>⟨h.1,hw.trans (h.2.mono jc),hB.below h.2⟩);have HE:=qaa he;clear hC he hSg hs hw hB;go_enter Tryz.func33,Tryz.ntmps33
  go_wp2_with (go_at_call 42;(with_reducible refine HC.out.mono ?_);rintro e w2 ⟨rfl,hb,hB2⟩;have b0:w2.cell? ⟨w.heap.size,0,none⟩=some (jf none 0 0):=hB2.cell rfl;have b1:w2.cell? ⟨w.heap.size,1,none⟩=some (jf none 0 0):=hB2.cell rfl;have b2:w2.cell? ⟨w.heap.size,2,none⟩=some (jf none 0 0):=hB2.cell rfl;have bf:=hB2.free;have bl:=hB2.lt;have HB:=qaa hb;clear hb hB2)
  have k0:(((w2.setCell ⟨w.heap.size,0,none⟩ (jf none 0 0)).setCell ⟨w.heap.size,1,none⟩ (jf none 0 0)).setCell ⟨w.heap.size,2,none⟩ (jf none 0 0)).cell? ⟨w.heap.size,0,none⟩=some (jf none 0 0):=by rw[cso ja,cso ja];exact css b0
  have k1:(((w2.setCell ⟨w.heap.size,0,none⟩ (jf none 0 0)).setCell ⟨w.heap.size,1,none⟩ (jf none 0 0)).setCell ⟨w.heap.size,2,none⟩ (jf none 0 0)).cell? ⟨w.heap.size,1,none⟩=some (jf none 0 0):=by rw[cso ja];exact css (by rw[cso ja];exact b1)
  have k2:(((w2.setCell ⟨w.heap.size,0,none⟩ (jf none 0 0)).setCell ⟨w.heap.size,1,none⟩ (jf none 0 0)).setCell ⟨w.heap.size,2,none⟩ (jf none 0 0)).cell? ⟨w.heap.size,2,none⟩=some (jf none 0 0):=css (by rw[cso ja,cso ja];exact b2);refine bodyPost_ret (v:=jk #[.agg #[jf none 0 0,jf none 0 0,jf none 0 0],.iface T x]) (by simp[results,Tryz.results33,go_sem,k0,k1,k2]) rfl ?_;exact⟨by rw[HE.out],((HB.out.setCell (p:=⟨w.heap.size,0,none⟩) (qac _) _).setCell (p:=⟨w.heap.size,1,none⟩) (qac _) _).setCell (p:=⟨w.heap.size,2,none⟩) (qac _) _⟩
 |ok rs f=>
  have HC:=qaa (hC.mono fun e w' h=>z4x hw jc hB h);clear hC hSg hs hw hB;go_enter Tryz.func33,Tryz.ntmps33
  go_wp2_with (go_at_call 42;(with_reducible refine HC.out.mono ?_);rintro e w2 ⟨va,vn,vc,na,nn,nc,ca,cn,cc,rfl,hB2,hf⟩;have b0:w2.cell? ⟨w.heap.size,0,none⟩=some (jf none 0 0):=hB2.cell rfl;have b1:w2.cell? ⟨w.heap.size,1,none⟩=some (jf none 0 0):=hB2.cell rfl;have b2:w2.cell? ⟨w.heap.size,2,none⟩=some (jf none 0 0):=hB2.cell rfl;have bf:=hB2.free;have bl:=hB2.lt;have HF:=qaa hf;clear hf hB2)
  have k0:(((w2.setCell ⟨w.heap.size,0,none⟩ (jf va vn vc)).setCell ⟨w.heap.size,1,none⟩ (jf na nn nc)).setCell ⟨w.heap.size,2,none⟩ (jf ca cn cc)).cell? ⟨w.heap.size,0,none⟩=some (jf va vn vc):=by rw[cso ja,cso ja];exact css b0
  have k1:(((w2.setCell ⟨w.heap.size,0,none⟩ (jf va vn vc)).setCell ⟨w.heap.size,1,none⟩ (jf na nn nc)).setCell ⟨w.heap.size,2,none⟩ (jf ca cn cc)).cell? ⟨w.heap.size,1,none⟩=some (jf na nn nc):=by rw[cso ja];exact css (by rw[cso ja];exact b1)
  have k2:(((w2.setCell ⟨w.heap.size,0,none⟩ (jf va vn vc)).setCell ⟨w.heap.size,1,none⟩ (jf na nn nc)).setCell ⟨w.heap.size,2,none⟩ (jf ca cn cc)).cell? ⟨w.heap.size,2,none⟩=some (jf ca cn cc):=css (by rw[cso ja,cso ja];exact b2);refine bodyPost_ret (v:=jk #[.agg #[jf va vn vc,jf na nn nc,jf ca cn cc],.nilIface]) (by simp[results,Tryz.results33,go_sem,k0,k1,k2]) rfl ?_;exact HF.out _ _ _
end
