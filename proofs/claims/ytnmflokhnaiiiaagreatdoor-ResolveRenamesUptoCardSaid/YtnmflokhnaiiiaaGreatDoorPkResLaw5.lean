/- ResolveRenames. Written by wip/gen/reslaw5.py. -/
import Derived.Deep.Cut
import Derived.Test.YtnmflokhnaiiiaaGreatDoorPkRR
import Derived.Test.YtnmflokhnaiiiaaGreatDoorPkRN
set_option maxRecDepth 100000
set_option maxHeartbeats 8000000
namespace Go.Proofs.YtnmflokhnaiiiaaGreatDoor
section
open Go.RowKit
theorem z3h:∀(ts:List Tok) (i:Nat) (t:Tok) (j:Nat),ts[i]?=some t->j<7->(toksC ts)[i*7+j]?=(tokC t)[j]?
 | [],i,t,j,h,_=>by simp at h
 |x::r,0,t,j,h,hj=>by
  have:x=t:=by simpa using h
  subst this;show(tokC x++toksC r)[0*7+j]?=_;rw[Nat.zero_mul,Nat.zero_add,List.getElem?_append_left (show j<(tokC x).length from hj)]
 |x::r,i+1,t,j,h,hj=>by
  have h':r[i]?=some t:=by simpa using h
  have ih:=z3h r i t j h' hj;show(tokC x++toksC r)[(i+1)*7+j]?=_;rw[List.getElem?_append_right (show(tokC x).length<=(i+1)*7+j by show 7<=_;omega),show(i+1)*7+j-(tokC x).length=i*7+j by show(i+1)*7+j-7=_;omega];exact ih
def TkRow (g:Nat)(ts:List Tok)(w:World):Prop:=∀i t,ts[i]?=some t->w.cell? ⟨g,i*7,none⟩=some (.int .i64 (t.kind:Int))/\w.cell? ⟨g,i*7+1,none⟩=some (.int .i64 (t.at_:Int))/\w.cell? ⟨g,i*7+2,none⟩=some (.string (strOf t.text))/\w.cell? ⟨g,i*7+3,none⟩=some (.int .u64 (setW (inRs t.rs) 0))/\w.cell? ⟨g,i*7+4,none⟩=some (.int .u64 (setW (inRs t.rs) 1))/\w.cell? ⟨g,i*7+5,none⟩=some (.int .u64 (setW (inRs t.rs) 2))/\w.cell? ⟨g,i*7+6,none⟩=some (.int .u64 (setW (inRs t.rs) 3))
theorem TkRow.kept {g n:Nat}{ts:List Tok}{w w':World}(h:TkRow g ts w)(hb:Below n w w')(hg:g<n):TkRow g ts w':=fun i t ht=>by
 obtain⟨h0,h1,h2,h3,h4,h5,h6⟩:=h i t ht;have hc:=(bcell hb).1;exact⟨by rw[hc _ _ hg];exact h0,by rw[hc _ _ hg];exact h1,by rw[hc _ _ hg];exact h2,by rw[hc _ _ hg];exact h3,by rw[hc _ _ hg];exact h4,by rw[hc _ _ hg];exact h5,by rw[hc _ _ hg];exact h6⟩
theorem TkRow.of {w:World}{b:Nat}{T:TypeId}{v:Value}{ts:List Tok}(h:w.ownsRow b T 7 v ts.length (toksC ts))(h0:0<ts.length):∃g cap,v=.slice (some ⟨g,0,none⟩) ts.length cap/\TkRow g ts w/\g<w.heap.size:=by
 have h2:=h;rcases h.2 with⟨-,h1⟩|⟨g,cap,cur,rfl,-⟩
 ·omega
 ·have hc:∀(j:Nat) u,(toksC ts)[j]?=some u->w.cell? ⟨g,j,none⟩=some u:=fun j u hu=>by
   have:=h2.cells rfl j u hu;rw[Addr.add_lit,Nat.zero_add] at this;exact this
  refine⟨g,cap,rfl,fun i t ht=>?_,(h2.lt g rfl).2⟩;have hk:∀j u,j<7->(tokC t)[j]?=some u->w.cell? ⟨g,i*7+j,none⟩=some u:=fun j u hj hu=>hc _ u (by rw[z3h ts i t j ht hj];exact hu)
  exact⟨hk 0 _ (by decide) rfl,hk 1 _ (by decide) rfl,hk 2 _ (by decide) rfl,hk 3 _ (by decide) rfl,hk 4 _ (by decide) rfl,hk 5 _ (by decide) rfl,hk 6 _ (by decide) rfl⟩
theorem z81:∀(n:Nat) (l:List Nat) (p:Nat) (ts:List Tok),l.length-p<=n->p<=l.length->toksL l p=.ok ts->0<ts.length
 |n,l,p,ts,hn,hp,h=>by
  rw[toksL] at h;split at h
  ·cases h
  ·split at h
   ·cases h;simp
   ·split at h
    ·cases hr:toksL l _ with
     |error k=>rw[hr] at h;cases h
     |ok q=>rw[hr] at h;cases h;simp
    ·cases h;simp
theorem zy1:∀(n:Nat) (l:List Nat) (p:Nat) (ts:List Tok),l.length-p<=n->toksL l p=.ok ts->ts.length<=n+1
 |0,l,p,ts,hn,h=>by
  rw[toksL] at h;split at h
  ·cases h
  ·split at h
   ·cases h;simp
   ·split at h
    ·omega
    ·cases h;simp
 |n+1,l,p,ts,hn,h=>by
  rw[toksL] at h;split at h
  ·cases h
  ·split at h
   ·cases h;simp
   ·split at h
    ·rename_i hm
     cases hr:toksL l _ with
     |error k=>rw[hr] at h;cases h
     |ok q=>
      rw[hr] at h;cases h;have:=zy1 n l _ q (by omega) hr;rw[List.length_cons];omega
    ·cases h;simp
theorem tk_ok (s:ByteArray)(ts:List Tok)(w:World)(hs:s.size<=1050000)(hS:SignsAt w)(h:toksL (bts s) 0=.ok ts) :
  Calls Tryz.prog 27 #[.string s] w fun e w'=>∃g cap,e=.returned (.tuple #[.slice (some ⟨g,0,none⟩) ts.length cap,.nilIface])/\(TkRow g ts w'/\g<w'.heap.size)/\Below w.heap.size w w':=by
 refine(zpv s w hs hS).mono fun e w' hh=>?_
 unfold PToksIs at hh;rw[h] at hh;obtain⟨v,rfl,ho,hb⟩:=hh;obtain⟨g,cap,rfl,hr⟩:=TkRow.of ho (z81 _ _ 0 ts (Nat.le_refl _) (Nat.zero_le _) h);exact⟨g,cap,rfl,hr,hb⟩
theorem z15 {W:World}{base:Nat}{e:TypeId}{size n c g j:Nat}{xs:List Value}(h:W.ownsRow base e size (.slice (some ⟨g,0,none⟩) n c) n xs)(u:Value):(W.setCell ⟨g,j,none⟩ u).ownsRow base e size (.slice (some ⟨g,0,none⟩) n c) n (xs.set j u):=by
 obtain⟨hl,h⟩:=h;refine⟨by rw[List.length_set];exact hl,?_⟩;rcases h with⟨h,-⟩|⟨g',cap,cur,hv,hb,hh,h1,h2,h3,h4⟩
 ·cases h
 ·injection hv with e1 e2 e3
  injection e1 with e1;injection e1 with e1;subst e1 e3;refine .inr ⟨g,c,cur.setIfInBounds j u,rfl,hb,heap_setCell_same W g j _ _ u hh,h1,h2,by simpa using h3,?_⟩;rw[<-h4];rw[Array.toList_setIfInBounds,List.take_set]
theorem zy2 {W:World}{base:Nat}{e:TypeId}{size n c:Nat}{a:Option Addr}{xs:List Value}(h:W.ownsRow base e size (.slice a n c) n xs)(hn:0<n):∃g,a=some ⟨g,0,none⟩/\base<=g/\g<W.heap.size/\(∀j u,xs[j]?=some u->W.cell? ⟨g,j,none⟩=some u)/\(∀o,W.frozen? ⟨g,o,none⟩=false)/\∃cs,W.heap[g]?=some (.cells cs e (0,0)):=by
 have h':=h;rcases h.2 with⟨-,e0⟩|⟨g,cap,cur,e,hb,hh,-⟩
 ·omega
 ·injection e with e1 e2 e3
  subst e1 e3;exact⟨g,rfl,hb,(Array.getElem?_eq_some_iff.1 hh).1,fun j u hu=>by have:=h'.cells rfl j u hu;rw[Addr.add_lit,Nat.zero_add] at this;exact this,fun o=>h'.frozenAt o,cur,hh⟩
def bkN {α:Type}(m:α->α)(k:Nat)(l:List α):List α:=l.take k++(l.drop k).map m
theorem bn_at {α:Type}{m:α->α}{k:Nat}{l:List α}{x:α}(h:l[k]?=some x):(bkN m k l)[k]?=some (m x):=by
 have hk:=(List.getElem?_eq_some_iff.1 h).1;unfold bkN;rw[List.getElem?_append_right (by rw[List.length_take];omega),List.length_take,Nat.min_eq_left (by omega),Nat.sub_self,List.getElem?_map,List.getElem?_drop,Nat.add_zero,h];rfl
theorem z16 {α:Type}(A B c:List α)(n j:Nat)(hn:A.length=n)(hj:j<c.length)(u:α):(A++(c++B)).set (n+j) u=A++(c.set j u++B):=by
 subst hn;rw[List.set_append_right _ _ (by omega),Nat.add_sub_cancel_left,List.set_append_left _ _ hj]
theorem zov {α:Type}{F:α->List Value}{n:Nat}(hF:∀x,(F x).length=n):∀l:List α,(l.flatMap F).length=l.length*n
 | []=>by simp
 |x::r=>by rw[List.flatMap_cons,List.length_append,hF,zov hF r,List.length_cons,Nat.succ_mul,Nat.add_comm]
theorem z82 {α:Type}{m:α->α}{F:α->List Value}{n j:Nat}(hF:∀x,(F x).length=n)(hj:j<n){k:Nat}{l:List α}{x:α}(h:l[k]?=some x)(u:Value)(hu:(F (m x)).set j u=F x) :
  ((bkN m k l).flatMap F).set (k*n+j) u=(bkN m (k+1) l).flatMap F:=by
 have hk:=(List.getElem?_eq_some_iff.1 h).1;have e1:l.drop k=x::l.drop (k+1):=by
  rw[List.drop_eq_getElem_cons hk];congr 1;exact(List.getElem?_eq_some_iff.1 h).2
 have e2:l.take (k+1)=l.take k++[x]:=by
  rw[List.take_add_one,h];rfl
 unfold bkN;rw[e1,e2,List.map_cons,List.flatMap_append,List.flatMap_cons,z16 _ _ _ (k*n) j (by rw[zov hF,List.length_take,Nat.min_eq_left (by omega)]) (by rw[hF];exact hj),hu,List.flatMap_append,List.flatMap_append,List.append_assoc];simp
theorem z83 {α:Type}(m:α->α)(l:List α):bkN m l.length l=l:=by
 unfold bkN;rw[List.take_length,List.drop_length,List.map_nil,List.append_nil]
def RnS (W5:World)(F:Nat)(c3:Array Value)(rv nv:Value)(n:Nat)(rs:List Value)(ns:List PN)(qs:List Value)(wr:World):Prop:=
 wr.ownsRow W5.heap.size 75 2 rv n rs/\NRow W5.heap.size nv ns qs wr/\Bl wr F 40 c3/\Below W5.heap.size W5 wr
theorem RnS.put {W5 wr:World}{F:Nat}{c3:Array Value}{nv:Value}{g n c:Nat}{rs:List Value}{ns:List PN}{qs:List Value}(h:RnS W5 F c3 (.slice (some ⟨g,0,none⟩) n c) nv n rs ns qs wr)(hn:0<n)(j:Nat)(u:Value):RnS W5 F c3 (.slice (some ⟨g,0,none⟩) n c) nv n (rs.set j u) ns qs (wr.setCell ⟨g,j,none⟩ u):=by
 obtain⟨h1,h2,h3,h4⟩:=h;obtain⟨g',e,hb,hl,-,-,cs,hcs⟩:=zy2 h1 hn;obtain rfl:g'=g:=by injection e with e;injection e with e;exact e.symm
 have hB:Bl wr g' 75 cs:=hcs;refine⟨z15 h1 u,h2.set (zaq h2.2.1 hB (by decide)) (fun q hq=>?_) u,h3.other (fun e=>by subst e;unfold Bl at h3 hB;rw[h3] at hB;injection hB with hB;injection hB with _ hB;exact absurd hB (by decide)) u,h4.setCell (p:=⟨g',j,none⟩) hb u⟩;obtain⟨i,hi⟩:=List.getElem?_of_mem hq;obtain⟨m,hm⟩:∃m,ns[i]?=some m:=⟨_,List.getElem?_eq_getElem (by rw[<-h2.1];exact(List.getElem?_eq_some_iff.1 hi).1)⟩;exact zaq (h2.2.2 i m q hm hi) hB (by decide)
theorem RnS.drewN {W5 wr:World}{F:Nat}{c3:Array Value}{rv nv:Value}{n:Nat}{rs:List Value}{ns:List PN}{qs:List Value}(h:RnS W5 F c3 rv nv n rs ns qs wr)(j:Nat):RnS W5 F c3 rv nv n rs ns qs (wr.drewN j):=
 ⟨zab h.1 (zak (Below.refl _ _)),h.2.1.grown (zak (Below.refl _ _)),h.2.2.1,zak h.2.2.2⟩
theorem RnS.drew {W5 wr:World}{F:Nat}{c3:Array Value}{rv nv:Value}{n:Nat}{rs:List Value}{ns:List PN}{qs:List Value}(h:RnS W5 F c3 rv nv n rs ns qs wr):RnS W5 F c3 rv nv n rs ns qs wr.drew:=
 ⟨zab h.1 (Below.drew (Below.refl _ _)),h.2.1.grown (Below.drew (Below.refl _ _)),h.2.2.1.drew,Below.drew h.2.2.2⟩
theorem z17 (hA:zbx)(s:ByteArray)(w:World)(hl:LexLaid w)(c:Int)(hc:c≠0)(hr:∀W,Calls Tryz.prog 25 #[.string s] W (RErr c W)):Calls Tryz.prog 7 #[.string s] w fun e w'=>e=.returned (.bool true)/\Below w.heap.size w w':=by
 have HAW:=Lib.hid fun(W:World) (hb:Below w.heap.size w W)=>hA W (hl.kept hb (Nat.le_refl _))
 have HB0:=Lib.hid (Below.refl w.heap.size w);have HL:=Lib.hid hl;have HR:=Lib.hid hr;have hc0:(c != 0)=true:=by rw[bne_iff_ne];exact hc
 clear hl hA hr hc;by_cases k1:(500:Int)<(s.size:Int)
 all_goals
  go_enter Tryz.func7,Tryz.ntmps7
  go_wp2_with (first
   |(go_at_call 25;(with_reducible refine(HR.out _).mono ?_);rintro e w1 ⟨rfl,hb⟩;have hn:=zaa w1 (.cells #[.slice none 0 0,.slice none 0 0] 40);have HB1:=Lib.hid (HB0.out.trans ((hb.trans (hn.mono hb.size)).mono HB0.out.size));clear hb hn)
   |(go_at_call 10;(with_reducible refine(HAW.out _ HB2.out).mono ?_);rintro e w3 ⟨rfl,hb⟩;have HB3:=Lib.hid (HB2.out.trans (hb.mono HB2.out.size));clear hb)
   |(go_at_call 10;(with_reducible refine(HAW.out _ HB1.out).mono ?_);rintro e w2 ⟨rfl,hb⟩;have HB2:=Lib.hid (HB1.out.trans (hb.mono HB1.out.size));clear hb))
  go_ret;exact⟨rfl,HB3.out⟩
theorem z18 (hA:zbx)(s:ByteArray)(w:World)(hl:LexLaid w)(rs:List PR)(ns:List PN)(hr:∀W,Calls Tryz.prog 25 #[.string s] W (zml rs ns W))(k1:(500:Int)<(s.size:Int)):Calls Tryz.prog 7 #[.string s] w fun e w'=>e=.returned (.bool true)/\Below w.heap.size w w':=by
 have HAW:=Lib.hid fun(W:World) (hb:Below w.heap.size w W)=>hA W (hl.kept hb (Nat.le_refl _))
 have HB0:=Lib.hid (Below.refl w.heap.size w);have HL:=Lib.hid hl;have HR:=Lib.hid hr;clear hl hA hr;go_enter Tryz.func7,Tryz.ntmps7
 go_wp2_with (first
  |(go_at_call 25;(with_reducible refine(HR.out _).mono ?_);rintro e w1 ⟨ra,rc,na,nc,rfl,-,-,hb⟩;have hn:=zaa w1 (.cells #[.slice ra rs.length rc,.slice na ns.length nc] 40);have HB1:=Lib.hid (HB0.out.trans ((hb.trans (hn.mono hb.size)).mono HB0.out.size));clear hb hn)
  |(go_at_call 10;(with_reducible refine(HAW.out _ HB2.out).mono ?_);rintro e w3 ⟨rfl,hb⟩;have HB3:=Lib.hid (HB2.out.trans (hb.mono HB2.out.size));clear hb)
  |(go_at_call 10;(with_reducible refine(HAW.out _ HB1.out).mono ?_);rintro e w2 ⟨rfl,hb⟩;have HB2:=Lib.hid (HB1.out.trans (hb.mono HB1.out.size));clear hb))
 go_ret;exact⟨rfl,HB3.out⟩
def GramX (rs:List PR)(ns:List PN)(W:World)(e:Ending)(w':World):Prop:=∃ra rc na nc qs,e=.returned (.tuple #[.agg #[.slice ra rs.length rc,.slice na ns.length nc],.nilIface])/\w'.ownsRow W.heap.size 75 2 (.slice ra rs.length rc) rs.length (zb5 (bkN xR 0 rs))/\NRow W.heap.size (.slice na ns.length nc) ns qs w'/\Below W.heap.size W w'
theorem GramX.of {rs:List PR}{ns:List PN}{W w':World}{e:Ending}(h:zr7 (rs.map xR) ns W e w'):GramX rs ns W e w':=by
 obtain⟨rv,nv,qs,rfl,hR,hN,hb⟩:=h;rw[List.length_map] at hR;obtain⟨ra,rc,rfl⟩:=zag hR;obtain⟨na,nc,rfl⟩:=zag hN.2.1;exact⟨ra,rc,na,nc,qs,rfl,hR,hN,hb⟩
theorem neqS5 (s:ByteArray)(w:World):(Op.stringOp .neq s s).run Tryz.prog w=.ok (.bool false) w:=by
 simp[Op.stringOp]
theorem z84 (hA:zbx)(s:ByteArray)(w:World)(hl:LexLaid w)(hs:s.size<=500)(rs:List PR)(ns:List PN)(ts:List Tok)(ht:toksL (bts s) 0=.ok ts)(hlr:rs.length<=maxLen)(hln:ns.length<=maxLen)(hkl:∀n,n ∈ ns->n.kids.length<=maxLen)(hnz:∀r,r ∈ rs->r.name.size<=2000000)(hr:∀W,Calls Tryz.prog 25 #[.string s] W (zml rs ns W))(hn:∀u:ByteArray,bts u=renL (bts s) 0 ts->u.size<=1050000->∀W,Below w.heap.size w W->Calls Tryz.prog 24 #[.string u] W (GramX rs ns W)):Calls Tryz.prog 7 #[.string s] w fun e w'=>e=.returned (.bool true)/\Below w.heap.size w w':=by
 have HAW:=Lib.hid fun(W:World) (hb:Below w.heap.size w W)=>hA W (hl.kept hb (Nat.le_refl _))
 have HB0:=Lib.hid (Below.refl w.heap.size w);have HL:=Lib.hid hl;have k1:¬(500:Int)<(s.size:Int):=by omega
 obtain⟨m,hm⟩:∃m,ts.length=m:=⟨_,rfl⟩;have hml:m<=s.size+1:=by
  have:=zy1 _ _ _ _ (Nat.le_refl _) ht;rw[Nat.sub_zero,zaj] at this;omega
 have hat:∀t ∈ ts,t.at_<=s.size:=by
  have:=z3l _ 0 ts (Nat.le_refl _) (Nat.zero_le _) ht;rw[zaj] at this;exact this
 have HT:=Lib.hid fun(W:World) (hb:Below w.heap.size w W)=>(show Calls Tryz.prog 27 #[.string s] W (fun e w'=>∃g cap,e=.returned (.tuple #[.slice (some ⟨g,0,none⟩) m cap,.nilIface])/\(TkRow g ts w'/\g<w'.heap.size)/\Below W.heap.size W w') from by rw[<-hm];exact tk_ok s ts W (by omega) (hl.2.kept hb (Nat.le_refl _)) ht)
 have HR:=Lib.hid hr;have HN:=Lib.hid hn;have HLR:=Lib.hid hlr;have HLN:=Lib.hid hln;have HKL:=Lib.hid hkl;have HNZ:=Lib.hid hnz;have HM:=Lib.hid (And.intro hm hml);have HAT:=Lib.hid hat;have HZ:=Lib.hid (RnA.zero ht);have HSZ:=Lib.hid hs;clear hl hA hr hn hlr hln hkl hnz hm hml hat ht hs;go_enter Tryz.func7,Tryz.ntmps7
 go_upto_region 5 with(first
  |(go_at_call 25;(with_reducible refine(HR.out _).mono ?_);rintro e w1 ⟨ra,rc,na,nc,rfl,hR,hN,hb⟩;have hn:=zaa w1 (.cells #[.slice ra rs.length rc,.slice na ns.length nc] 40);have hbn:=hb.trans (hn.mono hb.size);have HR1:=Lib.hid (hR.kept hn (Nat.le_refl _));have HN1:=Lib.hid (hN.kept hn (Nat.le_refl _));have HG1:=Lib.hid (Bl.new w1 40 #[.slice ra rs.length rc,.slice na ns.length nc]);have HB1:=Lib.hid (HB0.out.trans (hbn.mono HB0.out.size));clear hR hN hb hn hbn)
  |(go_at_call 10;(with_reducible refine(HAW.out _ HB1.out).mono ?_);rintro e w2 ⟨rfl,hb⟩;have HR2:=Lib.hid (HR1.out.kept hb (Nat.le_refl _));have HN2:=Lib.hid (HN1.out.kept hb (Nat.le_refl _));have HG2:=Lib.hid (HG1.out.below hb);have HB2:=Lib.hid (HB1.out.trans (hb.mono HB1.out.size));clear hb)
  |(go_at_call 27;(with_reducible refine(HT.out _ HB2.out).mono ?_);rintro e w3 ⟨gl,cl,rfl,hT,hb⟩;have HGL:=Lib.hid hT;have HR3:=Lib.hid (HR2.out.kept hb (Nat.le_refl _));have HN3:=Lib.hid (HN2.out.kept hb (Nat.le_refl _));have HG3:=Lib.hid (HG2.out.below hb);have HB3:=Lib.hid (HB2.out.trans (hb.mono HB2.out.size));clear hT hb))
 obtain⟨G,hG⟩:∃G,w1.heap.size=G:=⟨_,rfl⟩;rw[hG] at HG3;rw[hG];clear hG HR1 HN1 HG1 HB1 HR2 HN2 HG2 HB2 HR HT HAW;go_wp2
 go_loopw [7,8,9] (fun t a c wr=>∃(k A:Nat) (T:ByteArray),k<=m/\t=.string T/\a=.int .i64 A/\c=.int .i64 k/\wr=w3/\RnA s ts k A T) (fun _ _ c _=>m-(intOf c).toNat)
 case atStart=>exact⟨0,0,⟨#[]⟩,Nat.zero_le _,rfl,rfl,rfl,rfl,HZ.out⟩
 case round=>
  obtain⟨k,A,T,hk,rfl,rfl,rfl,hwr,hI⟩:=hrel;obtain rfl:=hwr.symm;clear hwr;have HI:=Lib.hid hI;by_cases hlt:k<m
  ·obtain⟨t,ht⟩:∃t,ts[k]?=some t:=⟨ts[k]'(by rw[HM.out.1];exact hlt),List.getElem?_eq_getElem _⟩
   have hts:=HAT.out t (List.mem_of_getElem? ht);obtain⟨c0,c1,-⟩:=HGL.out.1 k t ht;have hgl:=HGL.out.2;have hle:=hI.le ht;have hmid:=hI.mid ht hts;have hsz:=HSZ.out;have hmm:=HM.out.2;have HID:=Lib.hid (fun h:t.kind=1=>hI.id ht hts h);have HNO:=Lib.hid (fun h:t.kind≠1=>hI.no ht hts h);obtain⟨p,hp⟩:∃p,t.at_=p:=⟨_,rfl⟩;rw[hp] at hts c1 hle hmid HID HNO;have k2:(k:Int)<(m:Int):=by omega
   have k3:¬(p:Int)<(A:Int):=by omega
   have k4:¬(s.size:Int)<(p:Int):=by omega
   have hlp:p<=s.size:=hts;have ksl:∀w,(Instr.slice 9 (.string s) (some (.int .i64 (A:Int))) (some (.int .i64 (p:Int))) none).run Tryz.prog w=.ok (.string (s.extract A p)) w:=fun w=>run_slice_string (P:=Tryz.prog) (w:=w) 9 s .i64 .i64 (A:Int) (p:Int) Tryz.underlying9 (by omega) (by omega) (by omega)
   have s1:∀w,(Op.stringOp .add T (s.extract A p)).run Tryz.prog w=.ok (.string (T++s.extract A p)) w:=fun w=>run_string_add_sum w _ _ (by rw[ByteArray.size_append] at hmid;omega)
   have s2:∀w,(Op.stringOp .add (T++s.extract A p) ⟨#[120,95]⟩).run Tryz.prog w=.ok (.string (T++s.extract A p++⟨#[120,95]⟩)) w:=fun w=>run_string_add_sum w _ _ (by have e:(⟨#[120,95]⟩:ByteArray).size=2:=rfl;omega)
   obtain⟨S1,hS1⟩:∃S1,T++s.extract A p=S1:=⟨_,rfl⟩;rw[hS1] at s1 s2 HID HNO;have e1:IntKind.i64.wrap ((k:Int)+1)=(k:Int)+1:=IntWalk.i64_in _ (by omega);by_cases hk1:t.kind=1
   ·have c0':w3.cell? ⟨gl,k*7,none⟩=some (.int .i64 1):=by rw[c0,hk1];rfl
    clear HI hI ht hts hle hmid hsz hmm hp hS1 hlp c0;go_wp2;go_roundw
    case rel=>exact⟨k+1,p,_,by omega,rfl,rfl,by go_num,by trivial,HID.out hk1⟩
    case measure=>simp[intOf];omega
   ·have e2:(((t.kind:Nat):Int) == 1)=false:=by rw[beq_eq_false_iff_ne];omega
    obtain⟨tk,htk⟩:∃tk:Int,((t.kind:Nat):Int)=tk:=⟨_,rfl⟩;rw[htk] at c0 e2;clear HI hI ht hts hle hmid hsz hmm hp hS1 hlp htk;go_wp2;go_roundw
    case rel=>exact⟨k+1,p,_,by omega,rfl,rfl,by go_num,by trivial,HNO.out hk1⟩
    case measure=>simp[intOf];omega
  ·obtain rfl:k=m:=by omega
   have k2:¬(k:Int)<(k:Int):=by omega
   have hA1:=hI.1;have hT1:=hI.2.1;have hsz:=HSZ.out;have hmm:=HM.out.2;obtain⟨d1,d2⟩:=RnA.done (s:=s) (ts:=ts) (A:=A) (T:=T) (by rw[HM.out.1];exact hI);have ksl:∀w,(Instr.slice 9 (.string s) (some (.int .i64 (A:Int))) none none).run Tryz.prog w=.ok (.string (s.extract A s.size)) w:=fun w=>run_slice_string_l (P:=Tryz.prog) (w:=w) 9 s Tryz.underlying9 .i64 (A:Int) (by omega) (by omega)
   have hmt:=HM.out.1;have s1:∀w,(Op.stringOp .add T (s.extract A s.size)).run Tryz.prog w=.ok (.string (T++s.extract A s.size)) w:=fun w=>run_string_add_sum w _ _ (by rw[ByteArray.size_append] at d2;omega)
   obtain⟨U,hU⟩:∃U,T++s.extract A s.size=U:=⟨_,rfl⟩;rw[hU] at s1 d1 d2;have HNU:=Lib.hid (HN.out U d1 (by omega) w3 HB3.out);clear HN HI hI hA1 hT1 hsz hmm d1 d2 hmt hU hlt hk HZ
   go_upto_region 19 with(go_at_call 24;(with_reducible refine HNU.out.mono ?_);rintro e w4 ⟨ra4,rc4,na4,nc4,qs4,rfl,hR,hN,hb⟩)
   have HS0:Hid (RnS w3 w4.heap.size #[.slice ra4 rs.length rc4,.slice na4 ns.length nc4] (.slice ra4 rs.length rc4) (.slice na4 ns.length nc4) rs.length (zb5 (bkN xR 0 rs)) ns qs4 (w4.alloc (.cells #[.slice ra4 rs.length rc4,.slice na4 ns.length nc4] 40))):=Lib.hid ⟨zab hR (zaa w4 _),hN.grown (zaa w4 _),Bl.new w4 40 _,hb.trans ((zaa w4 _).mono hb.size)⟩;obtain⟨W4,hW4⟩:∃W4,w4.alloc (.cells #[.slice ra4 rs.length rc4,.slice na4 ns.length nc4] 40)=W4:=⟨_,rfl⟩;obtain⟨H,hH⟩:∃H,w4.heap.size=H:=⟨_,rfl⟩;rw[hW4,hH] at HS0;rw[hW4,hH];clear hW4 hH hR hN hb HNU ksl s1;have f0:=HS0.out.2.2.1.cell (o:=0) (u:=.slice ra4 rs.length rc4) rfl;have fl:=HS0.out.2.2.1.lt;have hg:=HG3.out.below HS0.out.2.2.2;have g0:=hg.cell (o:=0) (u:=.slice ra rs.length rc) rfl;have gl0:=hg.lt;clear hg;go_wp2;clear f0 fl g0 gl0
   go_loopw [11] (fun c wq=>∃k:Nat,k<=rs.length/\c=.int .i64 k/\RnS w3 H #[.slice ra4 rs.length rc4,.slice na4 ns.length nc4] (.slice ra4 rs.length rc4) (.slice na4 ns.length nc4) rs.length (zb5 (bkN xR k rs)) ns qs4 wq) (fun c _=>rs.length-(intOf c).toNat)
   case atStart=>exact⟨0,Nat.zero_le _,rfl,HS0.out⟩
   case round=>
    obtain⟨k,hk,rfl,hS⟩:=hrel;clear HS0;have f0:=hS.2.2.1.cell (o:=0) (u:=.slice ra4 rs.length rc4) rfl;have f1:=hS.2.2.1.cell (o:=1) (u:=.slice na4 ns.length nc4) rfl;have fl:=hS.2.2.1.lt;have hg:=HG3.out.below hS.2.2.2;have g0:=hg.cell (o:=0) (u:=.slice ra rs.length rc) rfl;have g1:=hg.cell (o:=1) (u:=.slice na ns.length nc) rfl;have gl0:=hg.lt;have hRr:=HR3.out.kept hS.2.2.2 (Nat.le_refl _);have HS:=Lib.hid hS;by_cases hlt:k<rs.length
    ·obtain⟨y,hy⟩:∃y,rs[k]?=some y:=⟨_,List.getElem?_eq_getElem hlt⟩
     obtain⟨g,rfl,hgb,hgl,hgc,hgf,-⟩:=zy2 hS.1 (by omega);obtain⟨-,a9,c9,hv,ho⟩:=hRr;injection hv with hv1 hv2 hv3;subst hv1 hv3;obtain⟨bb,bo,rfl,hcb⟩:∃b off,ra=some ⟨b,off,none⟩/\∀i r,rs[i]?=some r->RuleAt wr b (off+i*2) r:=by
      rcases ho with h0|h0
      ·rw[h0] at hlt;exact absurd hlt (Nat.not_lt_zero _)
      ·exact h0
     obtain⟨d1,-⟩:=hcb k y hy;have c1:wr.cell? ⟨g,k*2,none⟩=some (.string (xB y.name)):=hgc _ _ (by
      have e:=zd2 ruleC 2 (fun _=>rfl) (bkN xR k rs) k (xR y) 0 (bn_at hy) (by omega);exact e)
     have x1:=hgf (k*2);have hz:=HNZ.out y (List.mem_of_getElem? hy);have s1:∀w,(Op.stringOp .add ⟨#[120,95]⟩ y.name).run Tryz.prog w=.ok (.string (xB y.name)) w:=fun w=>run_string_add_sum w _ _ (by have e:(⟨#[120,95]⟩:ByteArray).size=2:=rfl;omega)
     have s2:=neqS5 (xB y.name);have k2:(k:Int)<(rs.length:Int):=by omega
     have hl5:=HLR.out;unfold maxLen at hl5;have HY:=Lib.hid hy;obtain⟨Y,hY⟩:∃Y,xB y.name=Y:=⟨_,rfl⟩;rw[hY] at c1 s1 s2;clear hS hgc hgf hy hcb hz hgb hY hg ho;go_wp2;go_quiet (fail);go_wp2
     go_region_with fail
     all_goals
      go_wp2;go_roundw
      case rel=>
       refine⟨k+1,hlt,by go_num,?_⟩;rw[<-show(zb5 (bkN xR k rs)).set (k*2) (.string y.name)=zb5 (bkN xR (k+1) rs) from z82 (F:=ruleC) (n:=2) (j:=0) (fun _=>rfl) (by omega) HY.out _ rfl]
       first|exact(HS.out.drewN _).put (by omega) _ _|exact((HS.out.drewN _).put (by omega) _ _).drew
      case measure=>simp[intOf];omega
    ·obtain rfl:k=rs.length:=by omega
     have k2:¬(rs.length:Int)<(rs.length:Int):=by omega
     obtain⟨s1,s2,s3,s4⟩:=HS.out;rw[z83] at s1;have HGR:=Lib.hid (RulesIn.of_own s1 HLR.out);have HGN:=Lib.hid (s2.nodes HLN.out HKL.out);have HWR:=Lib.hid hRr;have HWN:=Lib.hid (HN3.out.kept s4 (Nat.le_refl _));have HB9:=Lib.hid (HB3.out.trans (s4.mono HB3.out.size));clear hS HS hlt hk s1 s2 s3 s4 hg hRr
     go_wp2_with (go_at_call 13;(with_reducible refine(zmj _ _ _ _ _ _ _ HGR.out HGN.out HWR.out HWN.out).mono ?_);rintro e w8 ⟨rfl,hb⟩;have HB10:=Lib.hid (HB9.out.trans (hb.mono HB9.out.size));clear hb)
     go_ret;exact⟨rfl,HB10.out⟩
theorem z19 (hA:zbx)(s:ByteArray)(w:World)(hl:LexLaid w)(hs:s.size<=1050000):Calls Tryz.prog 7 #[.string s] w fun e w'=>e=.returned (.bool true)/\Below w.heap.size w w':=by
 rcases zyp s w hl hs with⟨hc,-,hr⟩|⟨rs,f,hO,hd,hu,hK,hk,-,hr⟩
 ·exact z17 hA s w hl _ hc hr
 ·by_cases k1:s.size<=500
  ·obtain⟨ht,-⟩:=zne hO
   refine z84 hA s w hl k1 _ _ _ ht (zse hK) (zsf hK) (zhl hK) (zhk hK) hr fun u hu1 hu2 W hb=>?_
   obtain⟨rs',g,h',hd',hu',e1,e2,hk'⟩:=z14 hO hK.ok hd hu hk;rw[<-hu1] at h';have h:=zxz u W (hl.kept hb (Nat.le_refl _)) hu2 h' hd' hu' hk';rw[e1,e2] at h;exact h.mono fun e w' h=>GramX.of h
  ·exact z18 hA s w hl _ _ hr (by omega)
end
end Go.Proofs.YtnmflokhnaiiiaaGreatDoor
