/- The parser: definition, definitions, single. The parser: parse, Parse, Expression. The parser: Parse and Expression. -/
import Derived.Carry
import Derived.Test.YthhppmehhdlmnaaGreatDoorPzC
import Derived.Test.YthhppmehhdlmnaaGreatDoorPzO
set_option maxRecDepth 100000
set_option maxHeartbeats 4000000
namespace Go.Proofs.YthhppmehhdlmnaaGreatDoor
section
open Go.RowKit
section
variable {C:PC} {N N':Nat} {rs:List (List Nat × Nat × Int)} {d:Nat} {qs:List Value} {w W w':World} {o:PO} {e:Ending}
theorem z2t {F:List Tok->MF->PO}(hM:MOk C 162 F 2 N N' d)(hMB:MBad C 162 d 2)(hN:N<=N'/\N'<=800000000)(h:St C N rs d qs w o W)(hF:∀a g,o=.ok a g->Fit 2 N rs a g)(hG:Grow 0 2 F)(x:List Nat)(a0:Nat) :
  Calls Tryz.prog 151 #[.pointer (some ⟨C.B,0,none⟩),.agg #[.string (strOf x),.int .i64 (a0:Int),.int .i64 0]] W (RIs C rs x a0 d qs w (o.bind F)):=by
 obtain⟨k,h⟩:=h;cases o with
 |bad a dp=>exact(z2s hMB (by omega) h _ _).mono fun e w' h=>⟨h.1,Nat.le_trans k.size h.2.1,h.2.2⟩
 |ok a g=>
  obtain⟨tq,hP,ht⟩:=h;refine(z7j hM (by omega) hP (hF a g rfl) (fun a' g' e=>?_) x a0).mono fun e w' h=>⟨h.1,Nat.le_trans k.size h.2.1,?_⟩
  ·have hg:=hG a g
   rw[e] at hg;have:=((hF a g rfl).next hg (c':=0) (Nat.le_refl _)).1;have:=(hF a g rfl).2.2.2.1;omega
  ·obtain⟨-,-,h⟩:=h
   show match F a g with
    |.ok a g=>∃v tq,PSt { C with rv:=v } (rs++[(x,a0,lastI g)]) a g d (qs++tq) w'
    |.bad a dp=>PEnd C (erV a dp) w'
   cases hO:F a g with
   |bad b dp=>rw[hO] at h;exact h
   |ok b u=>
    rw[hO] at h;obtain⟨v,t2,h⟩:=h;exact⟨v,tq++t2,by rw[<-List.append_assoc];exact h⟩
end
theorem z7k (F:List Tok->MF->PO)(ts:List Tok)(f:MF):defL false F ts f=((expL 1 ts f).bind (expL 2)).bind F:=by
 unfold defL;unfold expL;by_cases h:kd ts=1
 ·rw[if_pos h,if_pos h]
  cases acc false ts.tail f with
  |bad a dp=>rfl
  |ok a g=>
   show(if kd a=2 then _ else _)=PO.bind (if kd a=2 then _ else _) F;by_cases h2:kd a=2
   ·rw[if_pos h2,if_pos h2]
   ·rw[if_neg h2,if_neg h2];rfl
 ·rw[if_neg h,if_neg h];rfl
theorem zsh (C:PC)(hSg:SignsAt C.w0)(hs:C.s.size<=1050000){F:List Tok->MF->PO}{N N' d:Nat}(hM:(MOk C 162 F 2 N N' d))(hMB:MBad C 162 d 2)(hG:Grow 0 2 F)(hN:N<=N'/\N'<=800000000)
  (rs:List (List Nat × Nat × Int)) (qs:List Value) (w:World) (o:PO) (x:List Nat) (a0:Nat) (hP:St C N rs d qs w o w) (hF:∀a g,o=.ok a g->Fit 2 N rs a g)
  (b3:w.cell? ⟨C.B,3,none⟩=some (.int .i64 (a0:Int))) (b4:w.cell? ⟨C.B,4,none⟩=some (.string (strOf x))) :
  Calls Tryz.prog 126 #[.pointer (some ⟨C.B,0,none⟩)] w (RIs C rs x a0 d qs w (((o.bind (expL 1)).bind (expL 2)).bind F)):=by
 have exF:∀(k:Nat) (o:PO),k≠0->(∀a g,o=.ok a g->Fit 2 N rs a g)->∀a g,o.bind (expL k)=.ok a g->Fit 2 N rs a g:=fun k o hk h a g e=>by
  cases o with
  |bad b dp=>cases e
  |ok b u=>
   have e:expL k b u=.ok a g:=e;unfold expL at e;split at e
   ·rename_i hkb
    unfold acc at e;split at e
    ·cases e
    ·cases e
     exact(h b _ rfl).tail (by omega) (by omega)
   ·cases e
 obtain⟨csB,hBw⟩:=hP.isB;have hDB:w.heap.size≠C.B:=by have:=hBw.lt;omega
 have bl:=hBw.lt;have expD:∀(k:Nat) (o:PO),k≠0->(∀a g,o=.ok a g->Fit 2 N rs a g)->∀(cs:Array Value) W,St C N rs d qs w o W->Bl W w.heap.size 173 cs->Calls Tryz.prog 150 #[.pointer (some ⟨C.B,0,none⟩),.int .i64 (k:Int)] W fun e w'=>e=.returned (.tuple #[])/\St C N rs d qs w (o.bind (expL k)) w'/\Bl w' w.heap.size 173 cs:=fun k o hk h cs W hW hD=>by
  obtain⟨kq,hW⟩:=hW;cases o with
  |bad a dp=>exact(zyl C a dp N d W k hk hW).mono fun e w' h=>⟨h.1,⟨kq.trans h.2.1,h.2.2⟩,h.2.1.bl hD hDB (by decide)⟩
  |ok a g=>
   obtain⟨tq,hP,ht⟩:=hW;obtain⟨f1,f2,f3,-⟩:=h a g rfl;exact(z38 C hSg hs rs a g d (qs++tq) W N k hk hP (by omega) (by omega) f3).mono fun e w' h=>⟨h.1,St.trans kq ht h.2,h.2.1.bl hD hDB (by decide)⟩
 have HX1:=Lib.hid fun(W:World) (h:Below w.heap.size w W) (hD:Bl W w.heap.size 173 #[.string (strOf x),.int .i64 (a0:Int),.int .i64 0])=>(show Calls Tryz.prog 150 #[.pointer (some ⟨C.B,0,none⟩),.int .i64 1] W _ from expD 1 o (by decide) hF _ W (hP.below h) hD)
 have HX2:=Lib.hid fun(W:World) (h:St C N rs d qs w (o.bind (expL 1)) W) (hD:Bl W w.heap.size 173 #[.string (strOf x),.int .i64 (a0:Int),.int .i64 0])=>(show Calls Tryz.prog 150 #[.pointer (some ⟨C.B,0,none⟩),.int .i64 2] W _ from expD 2 _ (by decide) (exF 1 o (by decide) hF) _ W h hD)
 have HR:=Lib.hid fun(W:World) (h:St C N rs d qs w ((o.bind (expL 1)).bind (expL 2)) W)=>z2t hM hMB hN h (exF 2 _ (by decide) (exF 1 o (by decide) hF)) hG x a0
 obtain⟨st,hst⟩:∃y,strOf x=y:=⟨_,rfl⟩;rw[hst] at b4 HX1 HX2 HR;clear hP hF hM hMB hG hN exF expD hSg hs hBw hst;go_enter Tryz.func126,Tryz.ntmps126;go_wp2
 go_region_with fail
 all_goals
  clear b3 b4
  go_wp2_with (first
   |(go_at_call 150;(with_reducible refine(HX1.out _ ?_ ?_).mono ?_);(· repeat (first|exact Below.refl _ _|refine Below.drew ?_|refine zae ?_ rfl _));(· repeat (first|(refine Bl.new' ?_;simp;done)|refine Bl.drew ?_|refine Bl.past ?_));rintro e w1 h;have h1:=h.1;subst h1;have H1:=Lib.hid h.2;clear h)
   |(go_at_call 150;(with_reducible refine(HX2.out _ H1.out.1 H1.out.2).mono ?_);rintro e w2 h;have h1:=h.1;subst h1;have D0:w2.cell? ⟨w.heap.size,0,none⟩=some (.string st):=h.2.2.cell rfl;have D1:w2.cell? ⟨w.heap.size,1,none⟩=some (.int .i64 (a0:Int)):=h.2.2.cell rfl;have D2:w2.cell? ⟨w.heap.size,2,none⟩=some (.int .i64 0):=h.2.2.cell rfl;have dl:=h.2.2.lt;have H2:=Lib.hid h.2.1;clear h)
   |(go_at_call 151;(with_reducible refine(HR.out _ H2.out).mono ?_);rintro e w3 h;have h1:=h.1;subst h1;have H3:=Lib.hid h;clear h))
  go_end0
  exact H3.out
theorem z39 (C:PC)(hSg:SignsAt C.w0)(hs:C.s.size<=1050000){F:List Tok->MF->PO}{N N' d:Nat}(hM:MOk C 162 F 2 N N' d)(hMB:MBad C 162 d 2)(hG:Grow 0 2 F)(hN:N<=N'/\N'<=800000000)
  (rs:List (List Nat × Nat × Int)) (qs:List Value) (w:World) (ts:List Tok) (f:MF) (hP:PSt C rs ts f d qs w) (hF:Fit 2 N rs ts f) :
  Calls Tryz.prog 126 #[.pointer (some ⟨C.B,0,none⟩)] w (RIs C rs (txt ts) (pos ts) d qs w (defL false F ts f)):=by
 obtain⟨k,a,x,r,tl,rfl,-,⟨-,b3,b4,-⟩,-⟩:=hP.token;have:=zsh C hSg hs hM hMB hG hN rs qs w (.ok (⟨k,a,x,r⟩::tl) f) x a (St.start hP) (fun a' g' e=>by cases e;exact hF) b3 b4;rw[z7k];exact this
theorem z7l (C:PC)(hSg:SignsAt C.w0)(hs:C.s.size<=1050000){F:List Tok->MF->PO}{N N' d:Nat}(hM:MOk C 162 F 2 N N' d)(hMB:MBad C 162 d 2)(hG:Grow 0 2 F)(hN:N<=N'/\N'<=800000000)
  (w:World) (a:List Tok) (dp:Bool) (hP:PBad C (erV a dp) N d w) :
  Calls Tryz.prog 126 #[.pointer (some ⟨C.B,0,none⟩)] w fun e w'=>e=.returned (.tuple #[])/\w.heap.size<=w'.heap.size/\PEnd C (erV a dp) w':=by
 have hP':=hP;obtain⟨-,n,rv,nv,cv,m1,m2,m3,c1,c2,c3,hB,-⟩:=hP';obtain⟨⟨-,-,-,b3,b4,-⟩,-⟩:=seventeen hB.unzero;exact zsh C hSg hs hM hMB hG hN [] [] w (.bad a dp) [] 0 ⟨Kq.refl w,hP⟩ (fun a' g' e=>by cases e) b3 b4
def FEnd (C:PC)(O:FO)(w:World):Prop:=match O with
 |.ok rs f=>∃v qs ts,kd ts=0/\PSt { C with rv:=v } rs ts f 0 qs w
 |.bad a dp=>PEnd C (erV a dp) w
def DefsR (C:PC)(F:List Tok->MF->PO)(N:Nat)(O:FO)(gk:Nat)(w:World):Prop:=
 (∃v rs ts f qs,PSt { C with rv:=v } rs ts f 0 qs w/\Fit 2 N rs ts f/\rs.length+ts.length<=N/\ts.length<=gk/\(if kd ts=0 then FO.ok rs f else defsL false F gk ts f rs)=O)∨(∃a dp,PEnd C (erV a dp) w/\O=.bad a dp)
theorem zyz {F:List Tok->MF->PO}(hG:Grow 0 2 F){N:Nat}{rs:List (List Nat × Nat × Int)}{ts a:List Tok}{f g:MF}(hF:Fit 2 N rs ts f)(h:defL false F ts f=.ok a g):Fit 2 N rs a g/\a.length+2<=ts.length:=by
 unfold defL at h;split at h
 ·rename_i h1
  unfold acc at h;split at h
  ·cases h
  ·have h:(if kd ts.tail=2 then (acc false ts.tail.tail f).bind F else PO.bad ts.tail false)=.ok a g:=h
   split at h
   ·rename_i h2
    unfold acc at h;split at h
    ·cases h
    ·have h:F ts.tail.tail f=.ok a g:=h
     have hf1:Fit 5 N rs ts.tail f:=hF.tail (by omega) (by omega);have hf2:Fit 8 N rs ts.tail.tail f:=hf1.tail (by omega) (by omega);have hg:=hG ts.tail.tail f;rw[h] at hg;have t1:=zb6 (ts:=ts) (by omega);have t2:=zb6 (ts:=ts.tail) (by omega);have:=hg.2.1;exact⟨hf2.next hg (by omega),by omega⟩
   ·cases h
 ·cases h
theorem PEnd.kind {C:PC}{er:Value}{w:World}(h:PEnd C er w):w.cell? ⟨C.B,2,none⟩=some (.int .i64 0):=by
 obtain⟨-,pc,hB,h2,-⟩:=h;exact hB.cell h2
theorem PEnd.lt {C:PC}{er:Value}{w:World}(h:PEnd C er w):C.B<w.heap.size:=by
 obtain⟨-,pc,hB,h2,-⟩:=h;exact hB.lt
theorem PSt.name {C:PC}{rs:List (List Nat × Nat × Int)}{ts:List Tok}{f:MF}{d:Nat}{qs:List Value}{w:World}(h:PSt C rs ts f d qs w):PSt { C with nm:=true } rs ts f d qs (w.setCell ⟨C.B,13,none⟩ (.bool true)):=by
 obtain⟨hF,n,t,rv,nv,cv,hc,hB,hR⟩:=h;exact⟨hF.set _ _,n,t,rv,nv,cv,hc,put13 hB _,hR.only hB ((OnlyB.refl _ _).set _ _)⟩
theorem PBad.name {C:PC}{er:Value}{N d:Nat}{w:World}(h:PBad C er N d w):PBad { C with nm:=true } er N d (w.setCell ⟨C.B,13,none⟩ (.bool true)):=by
 obtain⟨hF,n,rv,nv,cv,m1,m2,m3,c1,c2,c3,hB,h1,h2,h3,l⟩:=h;have ho:=(OnlyB.refl C.B w).set 13 (.bool true);exact⟨hF.set _ _,n,rv,nv,cv,m1,m2,m3,c1,c2,c3,put13 hB _,ho.row h1 (own_ne h1 hB (by decide)),ho.row h2 (own_ne h2 hB (by decide)),ho.row h3 (own_ne h3 hB (by decide)),l⟩
def FDo (C:PC)(O:FO)(e:Ending)(w':World):Prop:=e=.returned (.tuple #[])/\FEnd C O w'
def thenL (F:List Tok->MF->PO)(n:Nat)(ts:List Tok)(rs:List (List Nat × Nat × Int))(o:PO):FO:=match o with
 |.bad a d=>.bad a d
 |.ok a g=>if kd a=0 then .ok (rs++[(txt ts,pos ts,lastI g)]) g else defsL false F n a g (rs++[(txt ts,pos ts,lastI g)])
theorem zkk (F:List Tok->MF->PO)(n:Nat)(ts:List Tok)(f:MF)(rs:List (List Nat × Nat × Int)):defsL false F (n+1) ts f rs=thenL F n ts rs (defL false F ts f):=by
 show(match defL false F ts f with
  |.bad a d=>FO.bad a d
  |.ok a g=>if kd a=0 then .ok (rs++[(txt ts,pos ts,lastI g)]) g else defsL false F n a g (rs++[(txt ts,pos ts,lastI g)]))=_
 unfold thenL;rfl
theorem zn3 (C:PC)(hSg:SignsAt C.w0)(hs:C.s.size<=1050000){F:List Tok->MF->PO}{N N':Nat}(hM:∀v,MOk { C with rv:=v } 162 F 2 N N' 0)(hMB:∀v,MBad { C with rv:=v } 162 0 2)(hG:Grow 0 2 F)(hN:N<=N'/\N'<=800000000)
  (w:World) (O:FO) (n:Nat) (c13:∃v,w.cell? ⟨C.B,13,none⟩=some v) (bf:∀o,w.frozen? ⟨C.B,o,none⟩=false)
  (hD:Calls Tryz.prog 126 #[.pointer (some ⟨C.B,0,none⟩)] (w.setCell ⟨C.B,13,none⟩ (.bool true)) fun e w'=>e=.returned (.tuple #[])/\DefsR C F N O n w') :
  Calls Tryz.prog 88 #[.pointer (some ⟨C.B,0,none⟩)] w (FDo C O):=by
 have HD:=Lib.hid hD;obtain⟨v13,c13⟩:=c13;have HDEF:=Lib.hid fun(v:Value) (rs:List (List Nat × Nat × Int)) (ts:List Tok) (f:MF) (qs:List Value) (W:World) (h:PSt { C with rv:=v } rs ts f 0 qs W) (hF:Fit 2 N rs ts f)=>z39 { C with rv:=v } hSg hs (hM v) (hMB v) hG hN rs qs W ts f h hF
 have HGR:=Lib.hid hG;clear hD hM hMB hG hSg hs hN;go_enter Tryz.func88,Tryz.ntmps88
 go_wp2_with (go_at_call 126;(with_reducible refine HD.out.mono ?_);rintro e w1 ⟨rfl,h⟩;have H1:=Lib.hid h;clear h)
 go_loopg [] n (fun gk wr=>DefsR C F N O gk wr)
 case atStart=>exact H1.out
 case round=>
  rcases hrel with⟨v,rs,ts,f,qs,hP,hF,hL,hgk,hO⟩|⟨a,dp,hE,hO⟩
  ·have c2:=hP.kind
   have bl1:C.B<wr.heap.size:=by obtain⟨cs,h⟩:=hP.isB;exact h.lt
   by_cases h0:kd ts=0
   ·have h0':((kd ts:Nat):Int)=0:=by rw[h0];rfl
    rw[if_pos h0] at hO;rw[h0'] at c2;have c2:wr.cell? ⟨C.B,2,none⟩=some (.int .i64 0):=c2;have HE:Hid (FEnd C O wr):=Lib.hid (by rw[<-hO];exact⟨v,qs,ts,h0,hP⟩);clear hP hF hL hgk hO h0 h0';go_wp2
    go_end0
    exact⟨rfl,HE.out⟩
   ·rw[if_neg h0] at hO
    obtain⟨m,rfl⟩:∃m,gk=m+1:=⟨gk-1,by
     have:=zb6 h0;omega⟩
    rw[zkk] at hO;have HC:=Lib.hid (HDEF.out v rs ts f qs wr hP hF);have e1:(((kd ts:Nat):Int) != 0)=true:=by rw[bne_iff_ne];omega
    have HR:=Lib.hid fun(e:Ending) (W:World) (h:RIs { C with rv:=v } rs (txt ts) (pos ts) 0 qs wr (defL false F ts f) e W)=>(by
     obtain⟨-,-,h⟩:=h;have hgr:=fun a g=>zyz HGR.out (a:=a) (g:=g) hF
     revert h hO hgr;cases defL false F ts f with
     |bad a dp=>exact fun hO h _=>.inr ⟨a,dp,h,hO.symm⟩
     |ok a g=>
      intro hO h hgr;obtain⟨v',tq,h⟩:=h;obtain⟨f1,f2⟩:=hgr a g rfl;have hl:(rs++[(txt ts,pos ts,lastI g)]).length=rs.length+1:=by rw[List.length_append];rfl
      exact .inl ⟨v',_,a,g,_,h,⟨f1.1,f1.2.1,by omega,f1.2.2.2⟩,by omega,by omega,hO⟩:DefsR C F N O m W)
    obtain⟨z,hz⟩:∃z:Int,((kd ts:Nat):Int)=z:=⟨_,rfl⟩;rw[hz] at e1 c2;have c2:wr.cell? ⟨C.B,2,none⟩=some (.int .i64 z):=c2;clear hP hF hL hgk hO h0 hz
    go_wp2_with (go_at_call 126;(with_reducible refine HC.out.mono ?_);rintro e w2 h;have HR2:=Lib.hid (HR.out _ _ h);have h1:=h.1;subst h1;clear h)
    go_roundg m
    case measure=>exact Nat.lt_succ_self m
    case rel=>exact HR2.out
  ·have c2:=hE.kind
   have bl1:=hE.lt;have HE:Hid (FEnd C O wr):=Lib.hid (by rw[hO];exact hE);clear hE hO;go_wp2
   go_end0
   exact⟨rfl,HE.out⟩
theorem PBad.fin {C:PC}{er:Value}{N d:Nat}{w:World}(h:PBad C er N d w):PEnd C er w:=by
 obtain⟨hF,n,rv,nv,cv,m1,m2,m3,c1,c2,c3,hB,-⟩:=h;exact⟨hF,_,hB.unzero,rfl,rfl⟩
end
section
open Go.RowKit Go.Maps
def PutAt (w W:World)(b:Nat)(o:Obj):Prop:=W.heap[b]?=some o/\(∀i,i≠b->W.heap[i]?=w.heap[i]?)/\W.heap.size=w.heap.size/\W.os=w.os/\W.tape=w.tape/\W.output=w.output
theorem ziv {w:World}{b:Nat}{es:Array MapEntry}{clock:Nat}(hb:w.heap[b]?=some (.map es clock))(hk:∀e ∈ es.toList,∃l,keyOf Tryz.prog 3 e.key=some l)(n:Nat)(hn:n<=1000)(v:Value)(h:∀e ∈ es.toList,e.key≠.int .i64 (n:Int)) :
  ∃W,(Instr.mapUpdate 101 (.map (some b)) (.int .i64 (n:Int)) v).run Tryz.prog w=.ok () W/\PutAt w W b (.map (es.push ⟨.int .i64 (n:Int),v,clock⟩) (clock+1)):=by
 rcases zgy.find w (zb0 n hn) es.toList hk with⟨h1,-⟩|⟨j,e,-,h2,h3⟩
 ·refine⟨ChangeMaps.setBlock w b (.map (es.push ⟨.int .i64 (n:Int),v,clock⟩) (clock+1)),?_,ChangeMaps.heap_setBlock_same hb _,fun i hi=>ChangeMaps.heap_setBlock_other hb _ hi,by simp[ChangeMaps.setBlock],rfl,rfl,rfl⟩
  simp[Instr.mapUpdate,run_underlying Tryz.underlying101,MapKept.run_getObj_map hb,zgy.check w false (zb0 n hn),h1,MapKept.run_setObj_map _ hb,Result.andThen,ChangeMaps.setBlock]
 ·exact absurd h3 (h e (List.mem_of_getElem? h2))
theorem PutAt.below {w W:World}{b:Nat}{o:Obj}{n:Nat}(h:PutAt w W b o)(hn:n<=b):Below n w W:=⟨h.2.2.2.1,h.2.2.2.2.1,h.2.2.2.2.2,Nat.le_of_eq h.2.2.1.symm,fun k hk=>h.2.1 k (by omega)⟩
theorem zy0 (w:World):∃X1 X2 X3 X4 X5:World,
  (Instr.mapUpdate 101 (.map (some (w.heap.size+1))) (.int .i64 4) (.int .i64 8)).run Tryz.prog ((w.alloc (.cells #[.slice none 0 0,.slice none 0 0,.slice none 0 0] 88)).alloc (.map #[] 0))=.ok () X1 /\
  (Instr.mapUpdate 101 (.map (some (w.heap.size+1))) (.int .i64 5) (.int .i64 9)).run Tryz.prog X1=.ok () X2 /\
  (Instr.mapUpdate 101 (.map (some X2.heap.size)) (.int .i64 6) (.int .i64 7)).run Tryz.prog (X2.alloc (.map #[] 0))=.ok () X3 /\
  (Instr.mapUpdate 101 (.map (some X2.heap.size)) (.int .i64 7) (.int .i64 5)).run Tryz.prog X3=.ok () X4 /\
  (Instr.mapUpdate 101 (.map (some X2.heap.size)) (.int .i64 8) (.int .i64 6)).run Tryz.prog X4=.ok () X5 /\
  X5.heap[w.heap.size+1]?=some preO/\X5.heap[X2.heap.size]?=some sufO/\Below w.heap.size w X5/\X5.heap.size=w.heap.size+3/\X2.heap.size=w.heap.size+2/\Bl X5 w.heap.size 88 #[.slice none 0 0,.slice none 0 0,.slice none 0 0]:=by
 obtain⟨A,hA⟩:∃A,w.alloc (.cells #[.slice none 0 0,.slice none 0 0,.slice none 0 0] 88)=A:=⟨_,rfl⟩;have sA:A.heap.size=w.heap.size+1:=by rw[<-hA];simp
 have bA:Below w.heap.size w A:=by rw[<-hA];exact zab w _
 have fA:Bl A w.heap.size 88 #[.slice none 0 0,.slice none 0 0,.slice none 0 0]:=by rw[<-hA];exact Bl.new w _ _
 rw[hA];obtain⟨X1,r1,p1⟩:=ziv (heap_alloc_new A (.map #[] 0)) (fun e he=>by simp at he) 4 (by decide) (.int .i64 8) (fun e he=>by simp at he);obtain⟨X2,r2,p2⟩:=ziv p1.1 (fun e he=>by simp at he;subst he;exact⟨_,zb0 4 (by decide)⟩) 5 (by decide) (.int .i64 9) (fun e he=>by simp at he;subst he;intro e;injection e with _ e;exact absurd e (by decide));obtain⟨X3,r3,p3⟩:=ziv (heap_alloc_new X2 (.map #[] 0)) (fun e he=>by simp at he) 6 (by decide) (.int .i64 7) (fun e he=>by simp at he);obtain⟨X4,r4,p4⟩:=ziv p3.1 (fun e he=>by simp at he;subst he;exact⟨_,zb0 6 (by decide)⟩) 7 (by decide) (.int .i64 5) (fun e he=>by simp at he;subst he;intro e;injection e with _ e;exact absurd e (by decide));obtain⟨X5,r5,p5⟩:=ziv p4.1 (fun e he=>by
  simp at he;rcases he with rfl|rfl
  ·exact⟨_,zb0 6 (by decide)⟩
  ·exact⟨_,zb0 7 (by decide)⟩) 8 (by decide) (.int .i64 6) (fun e he=>by
  simp at he;rcases he with rfl|rfl<;>(intro e;injection e with _ e;exact absurd e (by decide)))
 rw[sA] at r1 r2 p1 p2;have s1:=p1.2.2.1;have s2:=p2.2.2.1;have s3:=p3.2.2.1;have s4:=p4.2.2.1;have s5:=p5.2.2.1;simp at s1 s3;have n2:X2.heap.size=w.heap.size+2:=by omega
 have g2:X5.heap[w.heap.size+1]?=X2.heap[w.heap.size+1]?:=by
  rw[p5.2.1 _ (by omega),p4.2.1 _ (by omega),p3.2.1 _ (by omega)];exact(zab X2 (.map #[] 0)).block _ (by omega)
 have g1:X5.heap[w.heap.size]?=A.heap[w.heap.size]?:=by
  rw[p5.2.1 _ (by omega),p4.2.1 _ (by omega),p3.2.1 _ (by omega),(zab X2 (.map #[] 0)).block _ (by omega),p2.2.1 _ (by omega),p1.2.1 _ (by omega)];exact(zab A (.map #[] 0)).block _ (by omega)
 refine⟨X1,X2,X3,X4,X5,r1,r2,r3,r4,r5,?_,p5.1,?_,by omega,n2,?_⟩
 ·rw[g2,p2.1];rfl
 ·exact((((((bA.trans ((zab A _).mono (by omega))).trans (p1.below (by omega))).trans (p2.below (by omega))).trans ((zab X2 _).mono (by omega))).trans (p3.below (by omega))).trans (p4.below (by omega))).trans (p5.below (by omega))
 ·unfold Bl;rw[g1];exact fA
theorem ztx (C:PC)(hSg:SignsAt C.w0)(hs:C.s.size<=1050000)(N:Nat)(w:World)(hF:PFix C w)(hrv:C.rv=.slice none 0 0)(hB:PB C 0 ⟨0,0,[],[]⟩ .nilIface (.slice none 0 0) (.slice none 0 0) (.slice none 0 0) 0 w) :
  Calls Tryz.prog 125 #[.pointer (some ⟨C.B,0,none⟩)] w (DoIs C N [] 0 [] w (acc false (strm (bts C.s) 0) ⟨[],[]⟩)):=by
 have hS:=PSt.signs hF hSg;have hR:∀W,PRows C [] ⟨[],[]⟩ [] (.slice none 0 0) (.slice none 0 0) (.slice none 0 0) W:=fun W=>⟨NRow.nil _ _,World.ownsRow_nil _ _ _ _,hrv.symm,World.ownsRow_nil _ _ _ _⟩
 cases hx:nextL (bts C.s) 0 with
 |error k=>
  have hst:=zd0 hx;refine(zit C 0 _ .nilIface _ _ _ 0 w ⟨0,0,[],[]⟩ 0 k hB hS (fun W hW=>?_)).mono ?_
  ·have:=zis C.s 0 k W hs (Nat.zero_le _) hW hx
   simp only[zc0];exact this
  ·rintro e w' ⟨rfl,hB',w2,hb,ho⟩
   have hk2:Kq C.w0.heap.size C.B w w':=(Kq.of_below hb).trans ho.kq;have ha:acc false (strm (bts C.s) 0) ⟨[],[]⟩=.bad (strm (bts C.s) 0) false:=by
    unfold acc;rw[hst];exact if_pos ⟨rfl,rfl⟩
   rw[ha];refine⟨rfl,hk2,hF.kept hk2,0,.slice none 0 0,.slice none 0 0,.slice none 0 0,0,0,0,[],[],[],?_,World.ownsRow_nil _ _ _ _,World.ownsRow_nil _ _ _ _,World.ownsRow_nil _ _ _ _,Nat.zero_le _,Nat.zero_le _,Nat.zero_le _⟩;rw[hst];exact hB'
 |ok y=>
  obtain⟨t',n'⟩:=y;have hmv:=zbz (bts C.s) 0 (Nat.zero_le _) t' n' hx;rw[zag] at hmv;refine(zkc C 0 _ .nilIface _ _ _ 0 w t' n' hB hS (fun W hW=>zl5 C.s 0 t' n' W hs (Nat.zero_le _) hW hx)).mono ?_;rintro e w' ⟨rfl,hB',w2,hb,ho⟩;have hk2:Kq C.w0.heap.size C.B w w':=(Kq.of_below hb).trans ho.kq;have hkd:=zgs hx;obtain⟨tl,htl',hcl⟩:∃tl,strm (bts C.s) 0=t'::tl/\(t'.kind≠0->tl=strm (bts C.s) n'):=by
   by_cases h0:t'.kind=0
   ·exact⟨[],zcp hx h0,fun h=>absurd h0 h⟩
   ·exact⟨_,zao hx h0 (by
                   rw[zag];rcases hmv with h|h
                   ·exact absurd h.1 h0
                   ·exact h.2),fun _=>rfl⟩
  have ha:acc false (strm (bts C.s) 0) ⟨[],[]⟩=.ok (strm (bts C.s) 0) ⟨[],[]⟩:=by
   unfold acc;refine if_neg ?_;rw[htl'];show ¬(_/\t'.kind=99);omega
  rw[ha];exact⟨rfl,hk2,[],⟨hF.kept hk2,n',t',_,_,_,⟨by omega,by omega,tl,htl',hcl⟩,hB',hR _⟩,fun q h=>nomatch h⟩
def zfp (O:FO)(w:World)(e:Ending)(w':World):Prop:=match O with
 |.ok rs f=>∃rv nv cv qs,e=.returned (.tuple #[.agg #[rv,nv,cv],.nilIface])/\NRow w.heap.size nv f.nodes qs w'/\w'.ownsRow w.heap.size 175 2 cv f.calls.length (zd7 f.calls)/\w'.ownsRow w.heap.size 173 3 rv rs.length (defsC rs)/\Below w.heap.size w w'
 |.bad a dp=>e=.returned (.tuple #[.agg #[.slice none 0 0,.slice none 0 0,.slice none 0 0],erV a dp])/\Below w.heap.size w w'
def newC (w X:World)(s:ByteArray)(nm:Bool):PC:=⟨X,s,nm,w.heap.size+3,w.heap.size+1,w.heap.size+2,.slice none 0 0⟩
def zy1 (s:ByteArray):PO:=acc false (strm (bts s) 0) ⟨[],[]⟩
def SNow (C:PC)(N:Nat)(o:PO)(W:World):Prop:=match o with
 |.ok a g=>∃qs,PSt C [] a g 0 qs W
 |.bad a dp=>PBad C (erV a dp) N 0 W
theorem SNow.of {C:PC}{N:Nat}{o:PO}{w W:World}(h:St C N [] 0 [] w o W):SNow C N o W:=by
 obtain⟨-,h⟩:=h;cases o with
 |bad a dp=>exact h
 |ok a g=>obtain⟨tq,h,-⟩:=h;exact⟨_,h⟩
theorem z88 {w X W:World}{s:ByteArray}{rs:List (List Nat × Nat × Int)}{f:MF}{v:Value}{qs:List Value}{ts:List Tok}(hX:Below w.heap.size w X)(hs:X.heap.size=w.heap.size+3)(hb:Bl X w.heap.size 88 #[.slice none 0 0,.slice none 0 0,.slice none 0 0]){nm:Bool}(h:PSt { newC w X s nm with rv:=v } rs ts f 0 qs W) :
  ∃nv cv pc,Bl W (w.heap.size+3) 170 pc/\pc[9]?=some .nilIface/\pc[10]?=some v/\pc[11]?=some nv/\pc[12]?=some cv/\Bl W w.heap.size 88 #[.slice none 0 0,.slice none 0 0,.slice none 0 0] /\
   ∀a b c,zfp (.ok rs f) w (.returned (.tuple #[.agg #[v,nv,cv],.nilIface])) (((W.setCell ⟨w.heap.size,0,none⟩ a).setCell ⟨w.heap.size,1,none⟩ b).setCell ⟨w.heap.size,2,none⟩ c):=by
 obtain⟨hF,n,t,rv,nv,cv,hc,hB,hR⟩:=h;have hbl:Bl W w.heap.size 88 #[.slice none 0 0,.slice none 0 0,.slice none 0 0]:=by
  unfold Bl;rw[hF.1.block _ (by show w.heap.size<X.heap.size;omega)];exact hb
 obtain⟨hR1,hR2,hrv,hR3⟩:=hR;have hrv:rv=v:=hrv;subst hrv;refine⟨nv,cv,_,hB,rfl,rfl,rfl,rfl,hbl,fun a b c=>⟨rv,nv,cv,qs,rfl,⟨hR1.1,?_,fun j n q e1 e2=>?_⟩,?_,?_,?_⟩⟩
 all_goals first
  |exact(((hX.trans (hF.1.mono (by show w.heap.size<=X.heap.size;omega))).setCell (p:=⟨w.heap.size,0,none⟩) (Nat.le_refl _) a).setCell (p:=⟨w.heap.size,1,none⟩) (Nat.le_refl _) b).setCell (p:=⟨w.heap.size,2,none⟩) (Nat.le_refl _) c
  |skip
 ·exact zax (zau (zau (zau hR1.2.1 (by show w.heap.size<X.heap.size;omega) _ _) (by show w.heap.size<X.heap.size;omega) _ _) (by show w.heap.size<X.heap.size;omega) _ _) (by show w.heap.size<=X.heap.size;omega)
 ·exact zax (zau (zau (zau (hR1.2.2 j n q e1 e2) (by show w.heap.size<X.heap.size;omega) _ _) (by show w.heap.size<X.heap.size;omega) _ _) (by show w.heap.size<X.heap.size;omega) _ _) (by show w.heap.size<=X.heap.size;omega)
 ·exact zax (zau (zau (zau hR2 (by show w.heap.size<X.heap.size;omega) _ _) (by show w.heap.size<X.heap.size;omega) _ _) (by show w.heap.size<X.heap.size;omega) _ _) (by show w.heap.size<=X.heap.size;omega)
 ·exact zax (zau (zau (zau hR3 (by show w.heap.size<X.heap.size;omega) _ _) (by show w.heap.size<X.heap.size;omega) _ _) (by show w.heap.size<X.heap.size;omega) _ _) (by show w.heap.size<=X.heap.size;omega)
theorem z7m {w X W:World}{s:ByteArray}{a:List Tok}{dp:Bool}(hX:Below w.heap.size w X)(hs:X.heap.size=w.heap.size+3)(hb:Bl X w.heap.size 88 #[.slice none 0 0,.slice none 0 0,.slice none 0 0]){nm:Bool}(h:PEnd (newC w X s nm) (erV a dp) W) :
  ∃pc,Bl W (w.heap.size+3) 170 pc/\pc[9]?=some (erV a dp)/\Bl W w.heap.size 88 #[.slice none 0 0,.slice none 0 0,.slice none 0 0]/\Below w.heap.size w W:=by
 obtain⟨hF,pc,hB,-,h9⟩:=h;have hbl:Bl W w.heap.size 88 #[.slice none 0 0,.slice none 0 0,.slice none 0 0]:=by
  unfold Bl;rw[hF.1.block _ (by show w.heap.size<X.heap.size;omega)];exact hb
 exact⟨pc,hB,h9,hbl,hX.trans (hF.1.mono (by show w.heap.size<=X.heap.size;omega))⟩
theorem zty (s:ByteArray)(w:World)(N:Nat)(O:FO)(hSg:SignsAt w)(hs:s.size<=1050000)
  (hAll:∀X W,SignsAt X->SNow (newC w X s false) N (zy1 s) W->Calls Tryz.prog 88 #[.pointer (some ⟨w.heap.size+3,0,none⟩)] W (FDo (newC w X s true) O)) :
  Calls Tryz.prog 87 #[.string s,.func (.func 88) #[] #[]] w (zfp O w):=by
 obtain⟨X1,X2,X3,X4,X5,r1,r2,r3,r4,r5,hmp,hms,hbX,hsX,hs2,hFb⟩:=zy0 w;rw[hs2] at r3 r4 r5 hms;have hm1:∀t,(Instr.makeMap t none).run Tryz.prog (w.alloc (.cells #[.slice none 0 0,.slice none 0 0,.slice none 0 0] 88))=.ok (.map (some (w.heap.size+1))) ((w.alloc (.cells #[.slice none 0 0,.slice none 0 0,.slice none 0 0] 88)).alloc (.map #[] 0)):=fun t=>by
  rw[run_makeMap];simp
 have hm2:∀t,(Instr.makeMap t none).run Tryz.prog X2=.ok (.map (some (w.heap.size+2))) (X2.alloc (.map #[] 0)):=fun t=>by
  rw[run_makeMap,hs2]
 have hSX:SignsAt X5:=hSg.kept hbX (Nat.le_refl _);have hF:PFix (newC w X5 s false) (X5.alloc (.cells #[.string s,.int .i64 0,.int .i64 0,.int .i64 0,.string ⟨#[]⟩,.int .u64 0,.int .u64 0,.int .u64 0,.int .u64 0,.nilIface,.slice none 0 0,.slice none 0 0,.slice none 0 0,.bool false,.int .i64 0,.map (some (w.heap.size+1)),.map (some (w.heap.size+2))] 170)):=
  ⟨zab X5 _,by show X5.heap.size<=w.heap.size+3;omega,by show w.heap.size+3≠w.heap.size+1;omega,by show w.heap.size+3≠w.heap.size+2;omega,by show(X5.alloc _).heap[w.heap.size+1]?=_;rw[(zab X5 _).block _ (by omega)];exact hmp,by show(X5.alloc _).heap[w.heap.size+2]?=_;rw[(zab X5 _).block _ (by omega)];exact hms⟩
 have hB:PB (newC w X5 s false) 0 ⟨0,0,[],[]⟩ .nilIface (.slice none 0 0) (.slice none 0 0) (.slice none 0 0) 0 (X5.alloc (.cells #[.string s,.int .i64 0,.int .i64 0,.int .i64 0,.string ⟨#[]⟩,.int .u64 0,.int .u64 0,.int .u64 0,.int .u64 0,.nilIface,.slice none 0 0,.slice none 0 0,.slice none 0 0,.bool false,.int .i64 0,.map (some (w.heap.size+1)),.map (some (w.heap.size+2))] 170)):=by
  refine PB.zero ?_;exact Bl.new' (by show w.heap.size+3=X5.heap.size;omega)
 have HA:=Lib.hid (show Calls Tryz.prog 125 #[.pointer (some ⟨w.heap.size+3,0,none⟩)] _ _ from ztx (newC w X5 s false) hSX hs N _ hF rfl hB);have HALL:=Lib.hid fun(W:World) (h:SNow (newC w X5 s false) N (zy1 s) W)=>hAll X5 W hSX h
 have HFB:=Lib.hid hFb;have HBX:=Lib.hid hbX;have HSX:=Lib.hid hsX;clear hF hB hAll hSg hs hSX hFb hbX hmp hms hs2;cases O with
 |bad a dp=>
  obtain⟨T,x,he⟩:∃T x,erV a dp=.iface T x:=⟨_,_,rfl⟩;have HE:=Lib.hid he;clear he;go_enter Tryz.func87,Tryz.ntmps87
  go_upto_region 4 with(first
   |(go_at_call 125;(with_reducible refine HA.out.mono ?_);rintro e w2 h;have h1:=h.1;subst h1;have H2:=Lib.hid (SNow.of h.2);clear h)
   |(go_at_call 88;(refine(HALL.out _ H2.out).mono ?_);rintro e w3 h;have h1:=h.1;subst h1;have H3:=Lib.hid h.2;clear h))
  obtain⟨pc,hB3,p9,hb3,hw3⟩:=z7m HBX.out HSX.out HFB.out H3.out;rw[HE.out] at p9;have c9:w3.cell? ⟨w.heap.size+3,9,none⟩=some (.iface T x):=hB3.cell p9;have b0:w3.cell? ⟨w.heap.size,0,none⟩=some (.slice none 0 0):=hb3.cell rfl;have b1:w3.cell? ⟨w.heap.size,1,none⟩=some (.slice none 0 0):=hb3.cell rfl;have b2:w3.cell? ⟨w.heap.size,2,none⟩=some (.slice none 0 0):=hb3.cell rfl;have bf:=hb3.free;have bl:=hb3.lt;have bl3:=hB3.lt;have HW3:=Lib.hid hw3;have k0:(((w3.setCell ⟨w.heap.size,0,none⟩ (.slice none 0 0)).setCell ⟨w.heap.size,1,none⟩ (.slice none 0 0)).setCell ⟨w.heap.size,2,none⟩ (.slice none 0 0)).cell? ⟨w.heap.size,0,none⟩=some (.slice none 0 0):=by rw[cso (by decide),cso (by decide)];exact css b0
  have k1:(((w3.setCell ⟨w.heap.size,0,none⟩ (.slice none 0 0)).setCell ⟨w.heap.size,1,none⟩ (.slice none 0 0)).setCell ⟨w.heap.size,2,none⟩ (.slice none 0 0)).cell? ⟨w.heap.size,1,none⟩=some (.slice none 0 0):=by rw[cso (by decide)];exact css (by rw[cso (by decide)];exact b1)
  have k2:(((w3.setCell ⟨w.heap.size,0,none⟩ (.slice none 0 0)).setCell ⟨w.heap.size,1,none⟩ (.slice none 0 0)).setCell ⟨w.heap.size,2,none⟩ (.slice none 0 0)).cell? ⟨w.heap.size,2,none⟩=some (.slice none 0 0):=css (by rw[cso (by decide),cso (by decide)];exact b2);clear hB3 p9 hb3 hw3 r1 r2 r3 r4 r5 hm1 hm2;go_wp2
  go_region_with fail
  all_goals
   clear b0 b1 b2 c9;go_wp2;refine bodyPost_ret (v:=.tuple #[.agg #[.slice none 0 0,.slice none 0 0,.slice none 0 0],.iface T x]) (by simp[results,Tryz.results87,go_sem,k0,k1,k2]) rfl ?_;refine⟨by rw[HE.out],?_⟩;exact((((HW3.out).setCell (p:=⟨w.heap.size,0,none⟩) (Nat.le_refl _) _).setCell (p:=⟨w.heap.size,1,none⟩) (Nat.le_refl _) _).setCell (p:=⟨w.heap.size,2,none⟩) (Nat.le_refl _) _).drew
 |ok rs f=>
  go_enter Tryz.func87,Tryz.ntmps87
  go_upto_region 4 with(first
   |(go_at_call 125;(with_reducible refine HA.out.mono ?_);rintro e w2 h;have h1:=h.1;subst h1;have H2:=Lib.hid (SNow.of h.2);clear h)
   |(go_at_call 88;(refine(HALL.out _ H2.out).mono ?_);rintro e w3 h;have h1:=h.1;subst h1;have H3:=Lib.hid h.2;clear h))
  obtain⟨v,qs,ts,-,hP⟩:=H3.out;obtain⟨nv,cv,pc,hB3,p9,p10,p11,p12,hb3,hfin⟩:=z88 HBX.out HSX.out HFB.out hP;have c9:w3.cell? ⟨w.heap.size+3,9,none⟩=some .nilIface:=hB3.cell p9;have c10:w3.cell? ⟨w.heap.size+3,10,none⟩=some v:=hB3.cell p10;have c11:w3.cell? ⟨w.heap.size+3,11,none⟩=some nv:=hB3.cell p11;have c12:w3.cell? ⟨w.heap.size+3,12,none⟩=some cv:=hB3.cell p12;have b0:w3.cell? ⟨w.heap.size,0,none⟩=some (.slice none 0 0):=hb3.cell rfl;have b1:w3.cell? ⟨w.heap.size,1,none⟩=some (.slice none 0 0):=hb3.cell rfl;have b2:w3.cell? ⟨w.heap.size,2,none⟩=some (.slice none 0 0):=hb3.cell rfl;have bf:=hb3.free;have bl:=hb3.lt;have bl3:=hB3.lt;have HFIN:=Lib.hid hfin;obtain⟨va,vn,vc,rfl⟩:∃a n c,v=.slice a n c:=by
   obtain⟨-,n,t,rv,nv,cv,-,-,hR⟩:=hP;have:=hR.2.2.2;rw[hR.2.2.1] at this;obtain⟨a,c,h⟩:=zad this;exact⟨a,_,c,h⟩
  obtain⟨na,nn,nc,rfl⟩:∃a n c,nv=.slice a n c:=by
   have h:=hfin .nilIface .nilIface .nilIface;obtain⟨rv,nv',cv',qs',e,h1,-⟩:=h;injection e with e;injection e with e;injection e with e;simp at e;obtain⟨-,rfl,-⟩:=e;obtain⟨a,c,h⟩:=zad h1.2.1;exact⟨a,_,c,h⟩
  obtain⟨ca,cn,cc,rfl⟩:∃a n c,cv=.slice a n c:=by
   have h:=hfin .nilIface .nilIface .nilIface;obtain⟨rv,nv',cv',qs',e,-,h1,-⟩:=h;injection e with e;injection e with e;injection e with e;simp at e;obtain⟨-,-,rfl⟩:=e;obtain⟨a,c,h⟩:=zad h1;exact⟨a,_,c,h⟩
  have k0:(((w3.setCell ⟨w.heap.size,0,none⟩ (.slice va vn vc)).setCell ⟨w.heap.size,1,none⟩ (.slice na nn nc)).setCell ⟨w.heap.size,2,none⟩ (.slice ca cn cc)).cell? ⟨w.heap.size,0,none⟩=some (.slice va vn vc):=by rw[cso (by decide),cso (by decide)];exact css b0
  have k1:(((w3.setCell ⟨w.heap.size,0,none⟩ (.slice va vn vc)).setCell ⟨w.heap.size,1,none⟩ (.slice na nn nc)).setCell ⟨w.heap.size,2,none⟩ (.slice ca cn cc)).cell? ⟨w.heap.size,1,none⟩=some (.slice na nn nc):=by rw[cso (by decide)];exact css (by rw[cso (by decide)];exact b1)
  have k2:(((w3.setCell ⟨w.heap.size,0,none⟩ (.slice va vn vc)).setCell ⟨w.heap.size,1,none⟩ (.slice na nn nc)).setCell ⟨w.heap.size,2,none⟩ (.slice ca cn cc)).cell? ⟨w.heap.size,2,none⟩=some (.slice ca cn cc):=css (by rw[cso (by decide),cso (by decide)];exact b2);clear hB3 p9 p10 p11 p12 hb3 hfin hP r1 r2 r3 r4 r5 hm1 hm2;go_wp2;refine bodyPost_ret (v:=.tuple #[.agg #[.slice va vn vc,.slice na nn nc,.slice ca cn cc],.nilIface]) (by simp[results,Tryz.results87,go_sem,k0,k1,k2]) rfl ?_;exact HFIN.out _ _ _
end
section
open Go.RowKit
theorem zn4 (s:ByteArray)(hs:s.size<=1050000):Fit 2 5000000 [] (strm (bts s) 0) ⟨[],[]⟩:=by
 obtain⟨h1,h2,h3⟩:=zgu (bts s) _ 0 (Nat.zero_le _) (Nat.le_refl _);rw[zag] at h1 h2;refine⟨?_,?_,Nat.zero_le _,by omega,fun t ht=>⟨(h3 t ht).1,(h3 t ht).2 (zua s)⟩⟩
 ·show 0+wt _+2<=_;omega
 ·show 0+(strm (bts s) 0).length<=_;omega
theorem zy2 (s:ByteArray)(w:World)(hSg:SignsAt w)(hs:s.size<=1050000):Calls Tryz.prog 87 #[.string s,.func (.func 88) #[] #[]] w (zfp (fileL (bts s)) w):=by
 refine zty s w 5000000 (fileL (bts s)) hSg hs fun X W hX h=>?_
 have hM:∀v,MOk { newC w X s true with rv:=v } 162 (exprL false 200 true) 2 5000000 (5000000+10*(200+1)) 0:=fun v=>z7h { newC w X s true with rv:=v } hX hs (by omega) 200 0 rfl
 have hMB:∀v,MBad { newC w X s true with rv:=v } 162 0 2:=fun v=>zsf { newC w X s true with rv:=v } hX hs 0
 have hG:Grow 0 2 (exprL false 200 true):=Gr.expr 200 true;unfold zy1 at h;unfold acc at h;by_cases h9:kd (strm (bts s) 0)=99
 ·have hO:fileL (bts s)=.bad (strm (bts s) 0) false:=if_pos h9
  rw[if_pos ⟨rfl,h9⟩] at h;have h:PBad (newC w X s false) (erV (strm (bts s) 0) false) 5000000 0 W:=h;have h2:=PBad.name h;obtain⟨cs,hB⟩:=h.isB;obtain⟨-,n,rv,nv,cv,m1,m2,m3,c1,c2,c3,hB',-⟩:=h;have h13:=(seventeen hB').2.1.2.2.2.2.1;refine zn3 (newC w X s true) hX hs hM hMB hG ⟨by omega,by omega⟩ W _ 0 ⟨_,h13⟩ hB.free ((z7l { newC w X s true with rv:=.slice none 0 0 } hX hs (hM _) (hMB _) hG ⟨by omega,by omega⟩ _ _ _ h2).mono fun e w' k=>⟨k.1,.inr ⟨_,_,k.2.2,hO⟩⟩)
 ·rw[if_neg (fun k=>h9 k.2)] at h
  have h:∃qs,PSt (newC w X s false) [] (strm (bts s) 0) ⟨[],[]⟩ 0 qs W:=h;obtain⟨qs,h⟩:=h;have h2:=PSt.name h;obtain⟨cs,hB⟩:=h.isB;have h13:W.cell? ⟨(newC w X s false).B,13,none⟩=some (.bool (newC w X s false).nm):=by
   obtain⟨-,n,t,rv,nv,cv,-,hB',-⟩:=h;exact(seventeen hB').2.1.2.2.2.2.1
  have hF:=zn4 s hs;refine zn3 (newC w X s true) hX hs hM hMB hG ⟨by omega,by omega⟩ W _ (strm (bts s) 0).length ⟨_,h13⟩ hB.free ((z39 { newC w X s true with rv:=.slice none 0 0 } hX hs (hM _) (hMB _) hG ⟨by omega,by omega⟩ [] qs _ (strm (bts s) 0) ⟨[],[]⟩ h2 hF).mono fun e w' k=>⟨k.1,?_⟩);have hO:fileL (bts s)=thenL (exprL false 200 true) (strm (bts s) 0).length (strm (bts s) 0) [] (defL false (exprL false 200 true) (strm (bts s) 0) ⟨[],[]⟩):=by
   rw[<-zkk];exact if_neg h9
  obtain⟨-,-,k⟩:=k;have hgr:=fun a g=>zyz hG (a:=a) (g:=g) hF
  rw[hO];revert k hgr;cases defL false (exprL false 200 true) (strm (bts s) 0) ⟨[],[]⟩ with
  |bad a dp=>exact fun k _=>.inr ⟨a,dp,k,rfl⟩
  |ok a g=>
   intro k hgr;obtain⟨v',tq,k⟩:=k;obtain⟨f1,f2⟩:=hgr a g rfl;have h2:=(zn4 s hs).2.1;have h3:(([]:List (List Nat × Nat × Int))++[(txt (strm (bts s) 0),pos (strm (bts s) 0),lastI g)]).length=1:=rfl;have h4:(strm (bts s) 0).length<=5000000:=by
    have:0+(strm (bts s) 0).length<=5000000:=h2;omega
   exact .inl ⟨v',_,a,g,_,k,⟨f1.1,f1.2.1,by omega,f1.2.2.2⟩,by omega,by omega,rfl⟩
theorem z7n {w W W2:World}{rs:List (List Nat × Nat × Int)}{f:MF}{e:Ending}{cs:Array Value}(hb:Below w.heap.size w W)(hs:W.heap.size=w.heap.size+1)(hB:Bl W w.heap.size 88 cs)(h:zfp (.ok rs f) W e W2) :
  ∃va vn vc na nn nc ca cn cc,e=.returned (.tuple #[.agg #[.slice va vn vc,.slice na nn nc,.slice ca cn cc],.nilIface])/\Bl W2 w.heap.size 88 cs/\∀a b c,zfp (.ok rs f) w e (((W2.setCell ⟨w.heap.size,0,none⟩ a).setCell ⟨w.heap.size,1,none⟩ b).setCell ⟨w.heap.size,2,none⟩ c):=by
 obtain⟨rv,nv,cv,qs,rfl,h1,h2,h3,h4⟩:=h;obtain⟨va,vc,e1⟩:=zad h3;obtain⟨na,nc,e2⟩:=zad h1.2.1;obtain⟨ca,cc,e3⟩:=zad h2;subst e1 e2 e3;refine⟨va,_,vc,na,_,nc,ca,_,cc,rfl,hB.below h4,fun a b c=>⟨_,_,_,qs,rfl,⟨h1.1,?_,fun j n q e1 e2=>?_⟩,?_,?_,?_⟩⟩
 ·exact zax (zau (zau (zau h1.2.1 (by omega) _ _) (by omega) _ _) (by omega) _ _) (by omega)
 ·exact zax (zau (zau (zau (h1.2.2 j n q e1 e2) (by omega) _ _) (by omega) _ _) (by omega) _ _) (by omega)
 ·exact zax (zau (zau (zau h2 (by omega) _ _) (by omega) _ _) (by omega) _ _) (by omega)
 ·exact zax (zau (zau (zau h3 (by omega) _ _) (by omega) _ _) (by omega) _ _) (by omega)
 ·exact(((hb.trans (h4.mono (by omega))).setCell (p:=⟨w.heap.size,0,none⟩) (Nat.le_refl _) a).setCell (p:=⟨w.heap.size,1,none⟩) (Nat.le_refl _) b).setCell (p:=⟨w.heap.size,2,none⟩) (Nat.le_refl _) c
theorem ztz (s:ByteArray)(w:World)(hSg:SignsAt w)(hs:s.size<=1050000):Calls Tryz.prog 57 #[.string s] w (zfp (fileL (bts s)) w):=by
 have hw:=zab w (.cells #[.slice none 0 0,.slice none 0 0,.slice none 0 0] 88);have hC:=zy2 s (w.alloc (.cells #[.slice none 0 0,.slice none 0 0,.slice none 0 0] 88)) (hSg.kept hw (Nat.le_refl _)) hs;have hB:=Bl.new w 88 #[.slice none 0 0,.slice none 0 0,.slice none 0 0];generalize fileL (bts s)=O at hC ⊢;cases O with
 |bad a dp=>
  obtain⟨T,x,he⟩:∃T x,erV a dp=.iface T x:=⟨_,_,rfl⟩;have HC:Hid (Calls Tryz.prog 87 #[.string s,.func (.func 88) #[] #[]] (w.alloc (.cells #[.slice none 0 0,.slice none 0 0,.slice none 0 0] 88)) fun e w'=>e=.returned (.tuple #[.agg #[.slice none 0 0,.slice none 0 0,.slice none 0 0],.iface T x])/\Below w.heap.size w w'/\Bl w' w.heap.size 88 #[.slice none 0 0,.slice none 0 0,.slice none 0 0]):=Lib.hid (by rw[<-he];exact hC.mono fun e w' h=>⟨h.1,hw.trans (h.2.mono (by simp)),hB.below h.2⟩);have HE:=Lib.hid he;clear hC he hSg hs hw hB;go_enter Tryz.func57,Tryz.ntmps57
  go_wp2_with (go_at_call 87;(with_reducible refine HC.out.mono ?_);rintro e w2 ⟨rfl,hb,hB2⟩;have b0:w2.cell? ⟨w.heap.size,0,none⟩=some (.slice none 0 0):=hB2.cell rfl;have b1:w2.cell? ⟨w.heap.size,1,none⟩=some (.slice none 0 0):=hB2.cell rfl;have b2:w2.cell? ⟨w.heap.size,2,none⟩=some (.slice none 0 0):=hB2.cell rfl;have bf:=hB2.free;have bl:=hB2.lt;have HB:=Lib.hid hb;clear hb hB2)
  have k0:(((w2.setCell ⟨w.heap.size,0,none⟩ (.slice none 0 0)).setCell ⟨w.heap.size,1,none⟩ (.slice none 0 0)).setCell ⟨w.heap.size,2,none⟩ (.slice none 0 0)).cell? ⟨w.heap.size,0,none⟩=some (.slice none 0 0):=by rw[cso (by decide),cso (by decide)];exact css b0
  have k1:(((w2.setCell ⟨w.heap.size,0,none⟩ (.slice none 0 0)).setCell ⟨w.heap.size,1,none⟩ (.slice none 0 0)).setCell ⟨w.heap.size,2,none⟩ (.slice none 0 0)).cell? ⟨w.heap.size,1,none⟩=some (.slice none 0 0):=by rw[cso (by decide)];exact css (by rw[cso (by decide)];exact b1)
  have k2:(((w2.setCell ⟨w.heap.size,0,none⟩ (.slice none 0 0)).setCell ⟨w.heap.size,1,none⟩ (.slice none 0 0)).setCell ⟨w.heap.size,2,none⟩ (.slice none 0 0)).cell? ⟨w.heap.size,2,none⟩=some (.slice none 0 0):=css (by rw[cso (by decide),cso (by decide)];exact b2);refine bodyPost_ret (v:=.tuple #[.agg #[.slice none 0 0,.slice none 0 0,.slice none 0 0],.iface T x]) (by simp[results,Tryz.results57,go_sem,k0,k1,k2]) rfl ?_;exact⟨by rw[HE.out],((HB.out.setCell (p:=⟨w.heap.size,0,none⟩) (Nat.le_refl _) _).setCell (p:=⟨w.heap.size,1,none⟩) (Nat.le_refl _) _).setCell (p:=⟨w.heap.size,2,none⟩) (Nat.le_refl _) _⟩
 |ok rs f=>
  have HC:=Lib.hid (hC.mono fun e w' h=>z7n hw (by simp) hB h);clear hC hSg hs hw hB;go_enter Tryz.func57,Tryz.ntmps57
  go_wp2_with (go_at_call 87;(with_reducible refine HC.out.mono ?_);rintro e w2 ⟨va,vn,vc,na,nn,nc,ca,cn,cc,rfl,hB2,hf⟩;have b0:w2.cell? ⟨w.heap.size,0,none⟩=some (.slice none 0 0):=hB2.cell rfl;have b1:w2.cell? ⟨w.heap.size,1,none⟩=some (.slice none 0 0):=hB2.cell rfl;have b2:w2.cell? ⟨w.heap.size,2,none⟩=some (.slice none 0 0):=hB2.cell rfl;have bf:=hB2.free;have bl:=hB2.lt;have HF:=Lib.hid hf;clear hf hB2)
  have k0:(((w2.setCell ⟨w.heap.size,0,none⟩ (.slice va vn vc)).setCell ⟨w.heap.size,1,none⟩ (.slice na nn nc)).setCell ⟨w.heap.size,2,none⟩ (.slice ca cn cc)).cell? ⟨w.heap.size,0,none⟩=some (.slice va vn vc):=by rw[cso (by decide),cso (by decide)];exact css b0
  have k1:(((w2.setCell ⟨w.heap.size,0,none⟩ (.slice va vn vc)).setCell ⟨w.heap.size,1,none⟩ (.slice na nn nc)).setCell ⟨w.heap.size,2,none⟩ (.slice ca cn cc)).cell? ⟨w.heap.size,1,none⟩=some (.slice na nn nc):=by rw[cso (by decide)];exact css (by rw[cso (by decide)];exact b1)
  have k2:(((w2.setCell ⟨w.heap.size,0,none⟩ (.slice va vn vc)).setCell ⟨w.heap.size,1,none⟩ (.slice na nn nc)).setCell ⟨w.heap.size,2,none⟩ (.slice ca cn cc)).cell? ⟨w.heap.size,2,none⟩=some (.slice ca cn cc):=css (by rw[cso (by decide),cso (by decide)];exact b2);refine bodyPost_ret (v:=.tuple #[.agg #[.slice va vn vc,.slice na nn nc,.slice ca cn cc],.nilIface]) (by simp[results,Tryz.results57,go_sem,k0,k1,k2]) rfl ?_;exact HF.out _ _ _
end
end Go.Proofs.YthhppmehhdlmnaaGreatDoor
