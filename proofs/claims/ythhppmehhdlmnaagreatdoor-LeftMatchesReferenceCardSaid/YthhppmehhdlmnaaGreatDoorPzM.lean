/- The parser: arrowNext, begins. The parser: join; the state behind a step; kids that grow beside it. The parser: literal. -/
import Derived.Deep.QuietTactic
import Derived.Deep.Cut
import Derived.Test.YthhppmehhdlmnaaGreatDoorPzL
set_option maxRecDepth 100000
set_option maxHeartbeats 4000000
namespace Go.Proofs.YthhppmehhdlmnaaGreatDoor
section
open Go.RowKit
def zg7 (b:Bool)(w:World)(e:Ending)(w':World):Prop:=e=.returned (.bool b)/\Below w.heap.size w w'
theorem z2f (C:PC)(n:Nat)(t:Tok)(rv nv cv:Value)(d:Nat)(w:World)(t':Tok)(n':Nat)(hB:PB C n t .nilIface rv nv cv d w)(hS:SignsAt w)
  (hC:∀W,SignsAt W->Calls Tryz.prog 149 #[.string C.s,.int .i64 (n:Int)] W fun e w'=>e=.returned (.tuple #[.agg #[.int .i64 (t'.kind:Int),.int .i64 (t'.at_:Int),.string (strOf t'.text),.int .u64 (setW (inRs t'.rs) 0),.int .u64 (setW (inRs t'.rs) 1),.int .u64 (setW (inRs t'.rs) 2),.int .u64 (setW (inRs t'.rs) 3)],.int .i64 (n':Int),.nilIface])/\Below W.heap.size W w') :
  Calls Tryz.prog 193 #[.pointer (some ⟨C.B,0,none⟩)] w (zg7 ((t'.kind:Int) == 2) w):=by
 have HC:=Lib.hid (fun W (hW:Below w.heap.size w W)=>hC W (hS.kept hW (Nat.le_refl _)));obtain⟨⟨b0,b1,-⟩,-,bf,bl⟩:=seventeen hB;obtain⟨st,hst⟩:∃st,strOf t'.text=st:=⟨_,rfl⟩;obtain⟨x0,hx0⟩:∃y,setW (inRs t'.rs) 0=y:=⟨_,rfl⟩;obtain⟨x1,hx1⟩:∃y,setW (inRs t'.rs) 1=y:=⟨_,rfl⟩;obtain⟨x2,hx2⟩:∃y,setW (inRs t'.rs) 2=y:=⟨_,rfl⟩;obtain⟨x3,hx3⟩:∃y,setW (inRs t'.rs) 3=y:=⟨_,rfl⟩;obtain⟨kk,hkk⟩:∃y:Int,(t'.kind:Int)=y:=⟨_,rfl⟩;rw[hst,hx0,hx1,hx2,hx3,hkk] at HC;rw[hkk];clear hB hS hC hst hx0 hx1 hx2 hx3 hkk;go_enter Tryz.func193,Tryz.ntmps193;go_wp2
 go_cut [3,5] (fun p er wx=>∃b,p=.pointer (some ⟨b,0,none⟩)/\er=.nilIface/\Below w.heap.size w wx/\wx.cell? ⟨b,0,none⟩=some (.int .i64 kk))
 case first=>
  go_region_with (go_at_call 149;(with_reducible refine(HC.out _ ?_).mono ?_);(· repeat (first|exact Below.refl _ _|refine Below.drew ?_|refine zae ?_ rfl _));rintro e w2 ⟨rfl,hb⟩;have HB2:Hid (Below w.heap.size w w2):=Lib.hid (Below.trans (by repeat (first|exact Below.refl _ _|refine Below.drew ?_|refine zae ?_ rfl _)) (hb.mono (by simp)));obtain⟨hc2,hf2⟩:=bcell hb;have hz2:=hb.size;simp at hz2;clear hb)
  all_goals
   clear b0 b1 bf;go_wp2
   go_meet
   first
    |(
      (with_reducible refine⟨w2.heap.size,rfl,rfl,?_,?_⟩)
      ·exact HB2.out.alloc (by omega) _
      ·simp)
    |(
      (with_reducible refine⟨w.heap.size,rfl,rfl,?_,?_⟩)
      ·exact za8 HB2.out _ _ _ _ _ _ _
      ·rw[cso (by decide),cso (by decide),cso (by decide),cso (by decide),cso (by decide),cso (by decide)]
       refine css (u:=.int .i64 0) ?_;rw[hc2 _ _ (by simp)];simp)
 case rest=>
  obtain⟨b,rfl,rfl,hb,c0⟩:=hcut;have HB:=Lib.hid hb;clear hb b0 b1 bf;go_wp2;go_ret;exact⟨rfl,HB.out⟩
theorem zyn (C:PC)(n:Nat)(t:Tok)(rv nv cv:Value)(d:Nat)(w:World)(k:Nat)(hB:PB C n t .nilIface rv nv cv d w)(hS:SignsAt w)
  (hC:∀W,SignsAt W->Calls Tryz.prog 149 #[.string C.s,.int .i64 (n:Int)] W fun e w'=>e=.returned (.tuple #[.agg #[.int .i64 0,.int .i64 0,.string ⟨#[]⟩,.int .u64 0,.int .u64 0,.int .u64 0,.int .u64 0],.int .i64 0,.iface 132 (.agg #[.int .i64 1,.int .i64 (k:Int)])])/\Below W.heap.size W w') :
  Calls Tryz.prog 193 #[.pointer (some ⟨C.B,0,none⟩)] w (zg7 false w):=by
 have HC:=Lib.hid (fun W (hW:Below w.heap.size w W)=>hC W (hS.kept hW (Nat.le_refl _)));obtain⟨⟨b0,b1,-⟩,-,bf,bl⟩:=seventeen hB;clear hB hS hC;go_enter Tryz.func193,Tryz.ntmps193;go_wp2
 go_cut [3,5] (fun p er wx=>∃b,p=.pointer (some ⟨b,0,none⟩)/\er=.iface 132 (.agg #[.int .i64 1,.int .i64 (k:Int)])/\Below w.heap.size w wx/\wx.cell? ⟨b,0,none⟩=some (.int .i64 0))
 case first=>
  go_region_with (go_at_call 149;(with_reducible refine(HC.out _ ?_).mono ?_);(· repeat (first|exact Below.refl _ _|refine Below.drew ?_|refine zae ?_ rfl _));rintro e w2 ⟨rfl,hb⟩;have HB2:Hid (Below w.heap.size w w2):=Lib.hid (Below.trans (by repeat (first|exact Below.refl _ _|refine Below.drew ?_|refine zae ?_ rfl _)) (hb.mono (by simp)));obtain⟨hc2,hf2⟩:=bcell hb;have hz2:=hb.size;simp at hz2;clear hb)
  all_goals
   clear b0 b1 bf;go_wp2
   go_meet
   first
    |(
      (with_reducible refine⟨w2.heap.size,rfl,rfl,?_,?_⟩)
      ·exact HB2.out.alloc (by omega) _
      ·simp)
    |(
      (with_reducible refine⟨w.heap.size,rfl,rfl,?_,?_⟩)
      ·exact za8 HB2.out _ _ _ _ _ _ _
      ·rw[cso (by decide),cso (by decide),cso (by decide),cso (by decide),cso (by decide),cso (by decide)]
       refine css (u:=.int .i64 0) ?_;rw[hc2 _ _ (by simp)];simp)
 case rest=>
  obtain⟨b,rfl,rfl,hb,c0⟩:=hcut;have HB:=Lib.hid hb;clear hb b0 b1 bf;go_wp2;go_ret;exact⟨rfl,HB.out⟩
theorem z2g (C:PC)(hSg:SignsAt C.w0)(hs:C.s.size<=1050000)(rs:List (List Nat × Nat × Int))(ts:List Tok)(f:MF)(d:Nat)(qs:List Value)(w:World)(hP:PSt C rs ts f d qs w)(hk:kd ts≠0) :
  Calls Tryz.prog 193 #[.pointer (some ⟨C.B,0,none⟩)] w (zg7 (kd ts.tail == 2) w):=by
 obtain⟨hF,n,t,rv,nv,cv,hcur,hB,hR⟩:=hP;have hk':t.kind≠0:=by rw[<-hcur.kd];exact hk
 have htl:ts.tail=strm (bts C.s) n:=by rw[hcur.tail hk'];rfl
 have hn:=hcur.2.1;rw[htl];cases hx:nextL (bts C.s) n with
 |error k=>
  rw[zd0 hx];exact zyn C n t rv nv cv d w k hB (PSt.signs hF hSg) (fun W hW=>zis C.s n k W hs hn hW hx)
 |ok y=>
  obtain⟨t',n'⟩:=y;have hmv:=zbz (bts C.s) n (by rw[zag];exact hn) t' n' hx;have e:kd (strm (bts C.s) n)=t'.kind:=by
   by_cases h0:t'.kind=0
   ·rw[zcp hx h0];rfl
   ·rw[zao hx h0 (by
                rcases hmv with h|h
                ·exact absurd h.1 h0
                ·exact h.2)];rfl
  rw[e];have:=z2f C n t rv nv cv d w t' n' hB (PSt.signs hF hSg) (fun W hW=>zl5 C.s n t' n' W hs hn hW hx);have e2:((t'.kind:Int) == 2)=(t'.kind == 2):=by
   rw[Bool.eq_iff_iff,beq_iff_eq,beq_iff_eq];omega
  rw[<-e2];exact this
theorem zfo {a:Nat}{b:Int}(h:(a:Int)≠b):((a:Int) == b)=false:=by rw[beq_eq_false_iff_ne];exact h
theorem zg8 (B:Nat)(k d:Nat)(nm ar:Bool)(w:World)(h2:w.cell? ⟨B,2,none⟩=some (.int .i64 (k:Int)))(h13:w.cell? ⟨B,13,none⟩=some (.bool nm))(h14:w.cell? ⟨B,14,none⟩=some (.int .i64 (d:Int)))
  (hA:k≠0->Calls Tryz.prog 193 #[.pointer (some ⟨B,0,none⟩)] w (zg7 ar w)) :
  Calls Tryz.prog 183 #[.pointer (some ⟨B,0,none⟩)] w (zg7 (if k=1 then !((nm&&decide (d=0))&&ar) else decide (k=4∨k=5∨k=9∨k=11∨k=12∨k=13)) w):=by
 by_cases h1:k=1
 ·subst h1
  rw[if_pos rfl];have HA:=Lib.hid (hA (by decide));clear hA;cases nm with
  |false=>
   go_enter Tryz.func183,Tryz.ntmps183;go_wp2;go_ret;exact⟨rfl,Below.refl _ _⟩
  |true=>
   by_cases hd:d=0
   ·subst hd
    cases ar with
    |false=>
     go_enter Tryz.func183,Tryz.ntmps183
     go_wp2_with (go_at_call 193;(with_reducible refine HA.out.mono ?_);rintro e w2 ⟨rfl,hb⟩;have HB:=Lib.hid hb;clear hb)
     go_ret;exact⟨rfl,HB.out⟩
    |true=>
     go_enter Tryz.func183,Tryz.ntmps183
     go_wp2_with (go_at_call 193;(with_reducible refine HA.out.mono ?_);rintro e w2 ⟨rfl,hb⟩;have HB:=Lib.hid hb;clear hb)
     go_ret;exact⟨rfl,HB.out⟩
   ·have e:decide (d=0)=false:=decide_eq_false hd
    rw[e];have k1:(0:Int)<(d:Int):=by omega
    have k2:0<d:=by omega
    clear hd e;go_enter Tryz.func183,Tryz.ntmps183;go_wp2;go_ret;exact⟨rfl,Below.refl _ _⟩
 ·rw[if_neg h1]
  clear hA;by_cases hk:k=4∨k=5∨k=9∨k=11∨k=12∨k=13
  ·rw[decide_eq_true hk]
   rcases hk with rfl|rfl|rfl|rfl|rfl|rfl
   all_goals
    clear h1;go_enter Tryz.func183,Tryz.ntmps183;go_wp2;go_ret;exact⟨rfl,Below.refl _ _⟩
  ·rw[decide_eq_false hk]
   have e4:((k:Int) == 4)=false:=zfo (by omega);have e5:((k:Int) == 5)=false:=zfo (by omega);have e9:((k:Int) == 9)=false:=zfo (by omega);have e11:((k:Int) == 11)=false:=zfo (by omega);have e12:((k:Int) == 12)=false:=zfo (by omega);have e13:((k:Int) == 13)=false:=zfo (by omega);have e1:((k:Int) == 1)=false:=zfo (by omega);clear h1 hk;go_enter Tryz.func183,Tryz.ntmps183;go_wp2;go_ret;exact⟨rfl,Below.refl _ _⟩
theorem zyo (C:PC)(hSg:SignsAt C.w0)(hs:C.s.size<=1050000)(rs:List (List Nat × Nat × Int))(ts:List Tok)(f:MF)(d:Nat)(qs:List Value)(w:World)(hP:PSt C rs ts f d qs w) :
  Calls Tryz.prog 183 #[.pointer (some ⟨C.B,0,none⟩)] w (zg7 (begBY (C.nm&&decide (d=0)) ts) w):=by
 have hA:=fun h=>z2g C hSg hs rs ts f d qs w hP h
 obtain⟨hF,n,t,rv,nv,cv,hcur,hB,hR⟩:=hP;have hkd:=hcur.kd;obtain⟨⟨-,-,b2,-⟩,⟨-,-,-,-,b13,b14,-⟩,-,-⟩:=seventeen hB;have:=zg8 C.B t.kind d C.nm (kd ts.tail == 2) w b2 b13 b14 (fun h=>hA (by rw[hkd];exact h));unfold begBY;rw[hkd];exact this
theorem zkg (C:PC)(er:Value)(N d:Nat)(w:World)(hP:PBad C er N d w):Calls Tryz.prog 183 #[.pointer (some ⟨C.B,0,none⟩)] w (zg7 false w):=by
 obtain⟨-,n,rv,nv,cv,m1,m2,m3,c1,c2,c3,hB,-⟩:=hP;obtain⟨⟨-,-,b2,-⟩,⟨-,-,-,-,b13,b14,-⟩,-,-⟩:=seventeen hB;exact zg8 C.B 0 d C.nm false w b2 b13 b14 (fun h=>absurd rfl h)
end
section
open Go.RowKit
theorem zny (B:Nat)(op:Int)(ka:Option Addr)(kc:Nat)(w:World)(Q:World->Prop)
  (hC:Calls Tryz.prog 185 #[.pointer (some ⟨B,0,none⟩),.agg #[.int .i64 0,.slice none 0 0,.int .i64 0,.int .u64 0,.int .u64 0,.int .u64 0,.int .u64 0]] w fun e w'=>e=.returned (.tuple #[])/\Q w') :
  Calls Tryz.prog 173 #[.pointer (some ⟨B,0,none⟩),.int .i64 op,.slice ka 0 kc] w fun e w'=>e=.returned (.tuple #[])/\Q w':=by
 have HC:=Lib.hid hC;clear hC;go_enter Tryz.func173,Tryz.ntmps173
 go_wp2_with (go_at_call 185;(with_reducible refine HC.out.mono ?_);rintro e w1 ⟨rfl,hq⟩;have HQ:=Lib.hid hq;clear hq)
 go_end0
 exact⟨rfl,HQ.out⟩
theorem join_one (B:Nat)(op:Int)(ka:Option Addr)(kc:Nat)(w:World) :
  Calls Tryz.prog 173 #[.pointer (some ⟨B,0,none⟩),.int .i64 op,.slice ka 1 kc] w fun e w'=>e=.returned (.tuple #[])/\w=w':=by
 go_enter Tryz.func173,Tryz.ntmps173;go_wp2
 go_end0
 exact⟨rfl,rfl⟩
theorem znz (B k:Nat)(op:Int)(ka:Option Addr)(kc:Nat)(w:World)(Q:World->Prop)(hk:2<=k)
  (hC:Calls Tryz.prog 185 #[.pointer (some ⟨B,0,none⟩),.agg #[.int .i64 op,.slice ka k kc,.int .i64 0,.int .u64 0,.int .u64 0,.int .u64 0,.int .u64 0]] w fun e w'=>e=.returned (.tuple #[])/\Q w') :
  Calls Tryz.prog 173 #[.pointer (some ⟨B,0,none⟩),.int .i64 op,.slice ka k kc] w fun e w'=>e=.returned (.tuple #[])/\Q w':=by
 have HC:=Lib.hid hC;have e0:((k:Int) == 0)=false:=za2 (by omega);have k1:(1:Int)<(k:Int):=by omega
 have k2:1<k:=by omega
 clear hC hk;go_enter Tryz.func173,Tryz.ntmps173
 go_wp2_with (go_at_call 185;(with_reducible refine HC.out.mono ?_);rintro e w1 ⟨rfl,hq⟩;have HQ:=Lib.hid hq;clear hq)
 go_end0
 exact⟨rfl,HQ.out⟩
def Fit (c N:Nat)(rs:List (List Nat × Nat × Int))(ts:List Tok)(f:MF):Prop:=
 f.nodes.length+wt ts+c<=N/\f.calls.length+ts.length<=N/\rs.length<=N/\N<=100000000/\∀t,t ∈ ts->t.kind<=99/\∀x,x ∈ t.text->x<256
section
variable {c c' c1 k N:Nat} {rs:List (List Nat × Nat × Int)} {ts a:List Tok} {f g:MF}
theorem Fit.weak (h:Fit c N rs ts f)(hc:c'<=c):Fit c' N rs ts f:=⟨by have:=h.1;omega,h.2⟩
theorem z2h:Clo fun us=>∀t,t ∈ us->t.kind<=99/\∀x,x ∈ t.text->x<256:=fun _ h _ _ t ht=>h t (List.mem_of_mem_tail ht)
theorem Fit.next (h:Fit c N rs ts f)(hg:Gr k c1 ts f (.ok a g))(hc:c'+c1<=c):Fit c' N rs a g:=by
 obtain⟨s1,l1,n1,m1,w1,q1⟩:=hg;obtain⟨h1,h2,h3,h4,h5⟩:=h;exact⟨by omega,by omega,h3,h4,s1 _ z2h h5⟩
theorem Fit.kind (h:Fit c N rs ts f):kd ts<=99:=by
 cases ts with
 |nil=>exact Nat.zero_le _
 |cons t r=>exact(h.2.2.2.2 t List.mem_cons_self).1
theorem Fit.tail (h:Fit c N rs ts f)(h0:kd ts≠0)(hc:c'<=c+3):Fit c' N rs ts.tail f:=by
 obtain⟨h1,h2,h3,h4,h5⟩:=h;have:=zb6 h0;exact⟨by omega,by omega,h3,h4,fun t ht=>h5 t (List.mem_of_mem_tail ht)⟩
end
def St (C:PC)(N:Nat)(rs:List (List Nat × Nat × Int))(d:Nat)(qs:List Value)(w:World)(o:PO)(w':World):Prop:=
 Kq C.w0.heap.size C.B w w'/\match o with
 |.ok a g=>∃tq,PSt C rs a g d (qs++tq) w'/\∀q,q ∈ tq->∀b,q.ownBlock=some b->w.heap.size<=b
 |.bad a dp=>PBad C (erV a dp) N d w'
def DoIs (C:PC)(N:Nat)(rs:List (List Nat × Nat × Int))(d:Nat)(qs:List Value)(w:World)(o:PO)(e:Ending)(w':World):Prop:=e=.returned (.tuple #[])/\St C N rs d qs w o w'
section
variable {C:PC} {N N':Nat} {rs:List (List Nat × Nat × Int)} {d d':Nat} {qs tq:List Value} {w W w':World} {o:PO} {e:Ending}
theorem St.trans (hK:Kq C.w0.heap.size C.B w W)(ht:∀q,q ∈ tq->∀b,q.ownBlock=some b->w.heap.size<=b)(h:St C N rs d (qs++tq) W o w'):St C N rs d qs w o w':=by
 obtain⟨k,h⟩:=h;refine⟨hK.trans k,?_⟩;cases o with
 |bad a dp=>exact h
 |ok a g=>
  obtain⟨t2,h1,h2⟩:=h;refine⟨tq++t2,by rw[<-List.append_assoc];exact h1,fun q hq b hb=>?_⟩;rcases List.mem_append.1 hq with hq|hq
  ·exact ht q hq b hb
  ·exact Nat.le_trans hK.size (h2 q hq b hb)
theorem St.mono (h:St C N rs d qs w o w')(hN:N<=N'):St C N' rs d qs w o w':=by
 obtain⟨k,h⟩:=h;refine⟨k,?_⟩;cases o with
 |bad a dp=>exact PBad.mono h hN
 |ok a g=>exact h
theorem St.start {ts:List Tok}{f:MF}(h:PSt C rs ts f d qs w):St C N rs d qs w (.ok ts f) w:=⟨Kq.refl w,[],by rw[List.append_nil];exact h,fun q hq=>nomatch hq⟩
theorem PSt.lt {ts:List Tok}{f:MF}(h:PSt C rs ts f d qs w):∀q,q ∈ qs->∀b,q.ownBlock=some b->b<w.heap.size:=fun q hq b hb=>by
 obtain⟨-,n,t,rv,nv,cv,-,-,hR,-⟩:=h;obtain⟨j,hj⟩:=List.getElem?_of_mem hq;have hl:=(List.getElem?_eq_some_iff.1 hj).1;obtain⟨m,hm⟩:∃m,f.nodes[j]?=some m:=⟨_,List.getElem?_eq_getElem (by rw[<-hR.1];exact hl)⟩;exact((hR.2.2 j m q hm hj).lt b hb).2
theorem Below.row {n0:Nat}{r:Option Nat}(h:Below n0 w W)(hg:W.grownBy w' r)(hn:n0<=W.heap.size)(hr:∀g,r=some g->n0<=g):Below n0 w w':=h.grown hg hn hr
theorem PFix.row {r:Option Nat}(h:PFix C W)(hg:W.grownBy w' r)(hr:∀g,r=some g->C.w0.heap.size<=g/\∃c fz,W.heap[g]?=some (.cells c 3 fz)):PFix C w':=by
 obtain⟨h1,h2,h3,h4,h5,h6⟩:=h;have key:∀(b:Nat) (o:Obj),W.heap[b]?=some o->(∀c t fz,o≠.cells c t fz)->w'.heap[b]?=some o:=fun b o hb ho=>by
  rw[hg.block b (Array.getElem?_eq_some_iff.1 hb).1 (fun e=>by
   obtain⟨-,c,fz,hc⟩:=hr b e.symm;rw[hb] at hc;exact ho _ _ _ (Option.some.inj hc))]
  exact hb
 exact⟨h1.grown hg h1.size (fun g e=>(hr g e).1),h2,h3,h4,key _ _ h5 (fun _ _ _=>by unfold preO;exact fun e=>by injection e),key _ _ h6 (fun _ _ _=>by unfold sufO;exact fun e=>by injection e)⟩
theorem PSt.row {ts:List Tok}{f:MF}{r:Option Nat}(h:PSt C rs ts f d qs W)(hg:W.grownBy w' r)(hr:∀g,r=some g->C.w0.heap.size<=g/\∃c fz,W.heap[g]?=some (.cells c 3 fz))(hq:∀q,q ∈ qs->∀b,q.ownBlock=some b->r≠some b):PSt C rs ts f d qs w':=by
 obtain⟨hF,n,t,rv,nv,cv,hc,hB,hR⟩:=h;have kind:∀g,r=some g->∃c fz,W.heap[g]?=some (.cells c 3 fz):=fun g e=>(hr g e).2
 refine⟨hF.row hg hr,n,t,rv,nv,cv,hc,Bl.grown hB hg (fun g e=>?_),⟨hR.1.1,zbi hR.1.2.1 hg kind (by decide),fun j m q a b=>(hR.1.2.2 j m q a b).kept hg ?_⟩,zbi hR.2.1 hg kind (by decide),hR.2.2.1,zbi hR.2.2.2 hg kind (by decide)⟩
 ·obtain⟨c,fz,h⟩:=kind g e
  exact⟨c,_,fz,h,by decide⟩
 ·cases hv:q.ownBlock with
  |none=>exact .inl rfl
  |some b'=>exact .inr (Ne.symm (hq q (List.mem_of_getElem? b) b' hv))
theorem PBad.row {er:Value}{r:Option Nat}(h:PBad C er N d W)(hg:W.grownBy w' r)(hr:∀g,r=some g->C.w0.heap.size<=g/\∃c fz,W.heap[g]?=some (.cells c 3 fz)):PBad C er N d w':=by
 obtain⟨hF,n,rv,nv,cv,m1,m2,m3,c1,c2,c3,hB,h1,h2,h3,l⟩:=h;have kind:∀g,r=some g->∃c fz,W.heap[g]?=some (.cells c 3 fz):=fun g e=>(hr g e).2
 refine⟨hF.row hg hr,n,rv,nv,cv,m1,m2,m3,c1,c2,c3,Bl.grown hB hg (fun g e=>?_),zbi h1 hg kind (by decide),zbi h2 hg kind (by decide),zbi h3 hg kind (by decide),l⟩;obtain⟨c,fz,h⟩:=kind g e;exact⟨c,_,fz,h,by decide⟩
theorem PSt.below {ts:List Tok}{f:MF}(h:PSt C rs ts f d qs W)(hb:Below W.heap.size W w'):PSt C rs ts f d qs w':=by
 obtain⟨hF,n,t,rv,nv,cv,hc,hB,hR⟩:=h;exact⟨hF.kept (Kq.of_below hb),n,t,rv,nv,cv,hc,hB.same hb,hR.below hb⟩
theorem PBad.below {er:Value}(h:PBad C er N d W)(hb:Below W.heap.size W w'):PBad C er N d w':=by
 obtain⟨hF,n,rv,nv,cv,m1,m2,m3,c1,c2,c3,hB,h1,h2,h3,l⟩:=h;exact⟨hF.kept (Kq.of_below hb),n,rv,nv,cv,m1,m2,m3,c1,c2,c3,hB.same hb,zaa h1 hb,zaa h2 hb,zaa h3 hb,l⟩
theorem St.below (h:St C N rs d qs w o W)(hb:Below W.heap.size W w'):St C N rs d qs w o w':=by
 obtain⟨k,h⟩:=h;refine⟨k.trans (Kq.of_below hb),?_⟩;cases o with
 |bad a dp=>exact PBad.below h hb
 |ok a g=>
  obtain⟨t2,h1,h2⟩:=h;exact⟨t2,h1.below hb,h2⟩
end
def KSt (C:PC)(N:Nat)(rs:List (List Nat × Nat × Int))(d:Nat)(qs:List Value)(w:World)(kv:Value)(ks:MF->List Int)(o:PO)(W:World):Prop:=
 Kq C.w0.heap.size C.B w W/\(∀b,kv.ownBlock=some b->w.heap.size<=b)/\match o with
 |.ok a g=>W.ownsRow C.w0.heap.size 3 1 kv (ks g).length (intsV (ks g))/\∃tq,PSt C rs a g d (qs++tq) W/\∀q,q ∈ tq->∀b,q.ownBlock=some b->w.heap.size<=b/\kv.ownBlock≠some b
 |.bad a dp=>(∃k xs,k<=200000000/\W.ownsRow C.w0.heap.size 3 1 kv k xs)/\PBad C (erV a dp) N d W
def PO.kind:PO->Nat
 |.ok a _=>kd a
 |.bad _ _=>0
section
variable {C:PC} {N N':Nat} {rs:List (List Nat × Nat × Int)} {d d':Nat} {qs tq:List Value} {w W w':World} {o:PO} {e:Ending} {kv:Value} {ks:MF->List Int}
theorem PSt.kind {ts:List Tok}{f:MF}(h:PSt C rs ts f d qs W):W.cell? ⟨C.B,2,none⟩=some (.int .i64 (kd ts:Int)):=by
 obtain⟨hF,n,t,rv,nv,cv,hc,hB,hR⟩:=h;rw[hc.kd];exact(seventeen hB).1.2.2.1
theorem PBad.kind {er:Value}(h:PBad C er N d W):W.cell? ⟨C.B,2,none⟩=some (.int .i64 0):=by
 obtain⟨hF,n,rv,nv,cv,m1,m2,m3,c1,c2,c3,hB,-⟩:=h;exact(seventeen hB.unzero).1.2.2.1
theorem St.kind (h:St C N rs d qs w o W):W.cell? ⟨C.B,2,none⟩=some (.int .i64 (o.kind:Int)):=by
 obtain⟨k,h⟩:=h;cases o with
 |bad a dp=>exact PBad.kind h
 |ok a g=>obtain⟨t2,h1,h2⟩:=h;exact h1.kind
theorem KSt.kind (h:KSt C N rs d qs w kv ks o W):W.cell? ⟨C.B,2,none⟩=some (.int .i64 (o.kind:Int)):=by
 obtain⟨k,-,h⟩:=h;cases o with
 |bad a dp=>exact h.2.kind
 |ok a g=>obtain⟨-,t2,h1,h2⟩:=h;exact h1.kind
theorem KSt.slice (h:KSt C N rs d qs w kv ks o W):∃a n c,kv=.slice a n c:=by
 obtain⟨k,-,h⟩:=h;cases o with
 |bad a dp=>obtain⟨⟨k,xs,-,h⟩,-⟩:=h;obtain⟨a,c,h⟩:=zad h;exact⟨a,k,c,h⟩
 |ok a g=>obtain⟨a,c,h⟩:=zad h.1;exact⟨a,_,c,h⟩
theorem KSt.below (h:KSt C N rs d qs w kv ks o W)(hb:Below W.heap.size W w'):KSt C N rs d qs w kv ks o w':=by
 obtain⟨k,h0,h⟩:=h;refine⟨k.trans (Kq.of_below hb),h0,?_⟩;cases o with
 |bad a dp=>obtain⟨⟨k,xs,hk,h⟩,h2⟩:=h;exact⟨⟨k,xs,hk,zaa h hb⟩,h2.below hb⟩
 |ok a g=>
  obtain⟨h3,t2,h1,h2⟩:=h;exact⟨zaa h3 hb,t2,h1.below hb,h2⟩
theorem St.nokids (h:St C N rs d qs w o W):KSt C N rs d qs w (.slice none 0 0) (fun _=>[]) o W:=by
 obtain⟨k,h⟩:=h;refine⟨k,(fun b hb=>by cases hb),?_⟩;cases o with
 |bad a dp=>exact⟨⟨0,[],by omega,World.ownsRow_nil _ _ _ _⟩,h⟩
 |ok a g=>obtain⟨t2,h1,h2⟩:=h;exact⟨World.ownsRow_nil _ _ _ _,t2,h1,fun q hq b hb=>⟨h2 q hq b hb,fun e=>by cases e⟩⟩
theorem KSt.st (h:KSt C N rs d qs w kv ks o W):St C N rs d qs w o W:=by
 obtain⟨k,h0,h⟩:=h;refine⟨k,?_⟩;cases o with
 |bad a dp=>exact h.2
 |ok a g=>obtain⟨h3,t2,h1,h2⟩:=h;exact⟨t2,h1,fun q hq b hb=>(h2 q hq b hb).1⟩
theorem KSt.mono (h:KSt C N rs d qs w kv ks o W)(hN:N<=N'):KSt C N' rs d qs w kv ks o W:=by
 obtain⟨k,h0,h⟩:=h;refine⟨k,h0,?_⟩;cases o with
 |bad a dp=>exact⟨h.1,h.2.mono hN⟩
 |ok a g=>exact h
end
def MOk (C:PC)(fn:FuncId)(F:List Tok->MF->PO)(c N N' d:Nat):Prop:=
 ∀rs qs ts f w,PSt C rs ts f d qs w->Fit c N rs ts f->Calls Tryz.prog fn #[.pointer (some ⟨C.B,0,none⟩)] w (DoIs C N' rs d qs w (F ts f))
def MBad (C:PC)(fn:FuncId)(d m:Nat):Prop:=
 ∀a dp N w,N<=800000000->PBad C (erV a dp) N d w->Calls Tryz.prog fn #[.pointer (some ⟨C.B,0,none⟩)] w (BadIs C a dp (N+m) d w)
section
variable {C:PC} {N N':Nat} {rs:List (List Nat × Nat × Int)} {d:Nat} {qs tq:List Value} {w W w':World} {o:PO} {e:Ending}
theorem PSt.last {ts:List Tok}{f:MF}(h:PSt C rs ts f d qs W):∃na nc,W.cell? ⟨C.B,11,none⟩=some (.slice na f.nodes.length nc):=by
 obtain⟨hF,n,t,rv,nv,cv,hc,hB,hR⟩:=h;obtain⟨a,c,rfl⟩:=zad hR.1.2.1;exact⟨a,c,(seventeen hB).2.1.2.2.1⟩
theorem PBad.last {er:Value}(h:PBad C er N d W):∃na m nc,W.cell? ⟨C.B,11,none⟩=some (.slice na m nc)/\m<=N:=by
 obtain⟨hF,n,rv,nv,cv,m1,m2,m3,c1,c2,c3,hB,h1,h2,h3,l1,-⟩:=h;obtain⟨a,c,rfl⟩:=zad h1;exact⟨a,m1,c,(seventeen hB).2.1.2.2.1,l1⟩
theorem St.last (h:St C N rs d qs w o W)(hN:N<=900000000)(hf:∀a g,o=.ok a g->g.nodes.length<=900000000):∃na m nc,W.cell? ⟨C.B,11,none⟩=some (.slice na m nc)/\m<=2000000000:=by
 obtain⟨k,h⟩:=h;cases o with
 |bad a dp=>obtain⟨na,m,nc,h,hm⟩:=PBad.last h;exact⟨na,m,nc,h,by omega⟩
 |ok a g=>obtain⟨t2,h1,h2⟩:=h;obtain⟨na,nc,h⟩:=h1.last;exact⟨na,_,nc,h,by have:=hf a g rfl;omega⟩
theorem PSt.isB {ts:List Tok}{f:MF}(h:PSt C rs ts f d qs W):∃cs,Bl W C.B 170 cs:=by
 obtain⟨hF,n,t,rv,nv,cv,hc,hB,hR⟩:=h;exact⟨_,hB⟩
theorem PBad.isB {er:Value}(h:PBad C er N d W):∃cs,Bl W C.B 170 cs:=by
 obtain⟨hF,n,rv,nv,cv,m1,m2,m3,c1,c2,c3,hB,-⟩:=h;exact⟨_,hB⟩
theorem St.base (h:St C N rs d qs w o W):C.w0.heap.size<=W.heap.size:=by
 obtain⟨k,h⟩:=h;cases o with
 |bad a dp=>exact h.1.1.size
 |ok a g=>obtain⟨t2,h1,h2⟩:=h;exact h1.1.1.size
theorem zeq {a:List Tok}{g:MF}{F:PO}{k:Nat}{xs:List Value}{ka:Option Addr}{kc:Nat}{ks:List Int}(hlt:∀q,q ∈ qs->∀b,q.ownBlock=some b->b<w.heap.size)
  (hK:Kq C.w0.heap.size C.B w W) (h0:∀b,(Value.slice ka k kc).ownBlock=some b->w.heap.size<=b) (hrow:W.ownsRow C.w0.heap.size 3 1 (.slice ka k kc) ks.length (intsV ks))
  (hP:PSt C rs a g d (qs++tq) W) (ht:∀q,q ∈ tq->∀b,q.ownBlock=some b->w.heap.size<=b/\(Value.slice ka k kc).ownBlock≠some b)
  (hk:k=ks.length) (hkb:k<=100000000) (hxs:xs=intsV ks) (hI:KidIs C.B C.w0.heap.size k (.slice ka k kc) xs (St C N' rs d (qs++tq) W F) e w') :
  ∃kv',e=.returned kv'/\KSt C N' rs d qs w kv' (fun g'=>ks++[lastI g']) F w':=by
 obtain⟨w1,na,m,nc,a',c',o2,hS,hc11,rfl,hown,hgr,hat⟩:=hI;subst hk hxs;obtain⟨cs,hB⟩:=hP.isB;obtain⟨hK1,hS⟩:=hS;have hrow1:=hK1.own hrow (by decide) (own_ne hrow hB (by decide));have hb1:=zab w1 o2;have hrow2:=zaa hrow1 hb1;have hr:∀g',(Value.slice ka ks.length kc).ownBlock=some g'->C.w0.heap.size<=g'/\∃c fz,(w1.alloc o2).heap[g']?=some (.cells c 3 fz):=fun g' e=>⟨(hrow2.lt g' e).1,Lib.ownsRow_kind hrow2 g' e⟩
 have hKw:Kq C.w0.heap.size C.B w w':=((hK.trans hK1).trans (Kq.of_below hb1)).late hgr h0;have hge:∀b,(Value.slice a' (ks.length+1) c').ownBlock=some b->w.heap.size<=b:=fun b hb=>by
  rcases hat with h|h
  ·rw[h] at hb;exact h0 b hb
  ·rw[h] at hb
   cases hb;exact Nat.le_trans (Nat.le_trans hK.size hK1.size) hb1.size
 refine⟨_,rfl,hKw,hge,?_⟩;cases F with
 |bad a2 dp=>exact⟨⟨_,_,by omega,hown⟩,(PBad.below hS hb1).row hgr hr⟩
 |ok a2 g2=>
  obtain⟨t2,h1,h2⟩:=hS;have hne:∀q,q ∈ qs++tq++t2->∀b,q.ownBlock=some b->(Value.slice ka ks.length kc).ownBlock≠some b:=fun q hq b hb=>by
   rcases List.mem_append.1 hq with hq|hq
   ·rcases List.mem_append.1 hq with hq|hq
    ·intro e;have:=hlt q hq b hb;have:=h0 b e;omega
    ·exact(ht q hq b hb).2
   ·exact zee hrow (h2 q hq b hb)
  obtain⟨na',nc',hl⟩:=h1.last;rw[hc11] at hl;have hm:m=g2.nodes.length:=by
   injection hl with hl;injection hl
  have h3:=(h1.below hb1).row hgr hr hne;rw[List.append_assoc] at h3;refine⟨?_,tq++t2,h3,fun q hq b hb=>?_⟩
  ·show w'.ownsRow _ _ _ _ (ks++[lastI g2]).length (intsV (ks++[lastI g2]))
   rw[List.length_append,List.length_singleton];unfold intsV at hown ⊢;rw[List.map_append];rw[hm] at hown;exact hown
  ·have hq':q ∈ qs++tq++t2:=by
    rw[List.append_assoc];exact List.mem_append_right _ hq
   refine⟨?_,fun e=>?_⟩
   ·rcases List.mem_append.1 hq with hq|hq
    ·exact(ht q hq b hb).1
    ·exact Nat.le_trans hK.size (h2 q hq b hb)
   ·rcases hat with h|h
    ·rw[h] at e;exact hne q hq' b hb e
    ·rw[h] at e
     cases e;have:=h1.lt q hq' _ hb;have:=hb1.size;omega
end
end
section
open Go.RowKit
theorem z2i (c:Nat):lset [(c:Int)]=fun i=>decide (i=c):=by
 funext i;unfold lset;simp;rfl
theorem z67 (c:Nat)(hc:c<256)(w:World):Calls Tryz.prog 202 #[.slice (some ⟨w.heap.size,0,none⟩) 1 1] (w.alloc (.cells #[.int .u8 (c:Int)] 5))
  fun e w'=>e=.returned (.agg #[.int .u64 (setW (fun i=>decide (i=c)) 0),.int .u64 (setW (fun i=>decide (i=c)) 1),.int .u64 (setW (fun i=>decide (i=c)) 2),.int .u64 (setW (fun i=>decide (i=c)) 3)])/\Below w.heap.size w w':=by
 have hS:Bl (w.alloc (.cells #[.int .u8 (c:Int)] 5)) w.heap.size 5 #[.int .u8 (c:Int)]:=Bl.new w _ _;have h:=z7v [(c:Int)] (.slice (some ⟨w.heap.size,0,none⟩) 1 1) (w.alloc (.cells #[.int .u8 (c:Int)] 5)) ⟨_,1,rfl,.inr ⟨_,0,rfl,fun i u hu=>by
  match i,hu with
  |0,hu=>
        obtain rfl:_=u:=by simpa using hu
        exact hS.cell rfl⟩⟩ (fun x hx=>by obtain rfl:=List.mem_singleton.1 hx;omega) (by simp)
 rw[z2i] at h;refine h.mono fun e w' h=>⟨h.1,(zab w _).trans (h.2.mono ?_)⟩
 simp
theorem zyp {s:ByteArray}{k:Nat}{g:MF}{ks:List Int}(h:k<s.size):litF g ((bts s).drop k) ks=litF (addNY g (clsN (fun i=>decide (i=s[k].toNat)))) ((bts s).drop (k+1)) (ks++[lastI (addNY g (clsN (fun i=>decide (i=s[k].toNat))))]):=by
 rw[zbd s k h];have e:lastI (addNY g (clsN (fun i=>decide (i=s[k].toNat))))=(g.nodes.length:Int):=by
  show(((g.nodes++[_]).length:Nat):Int)-1=_;rw[List.length_append,List.length_singleton];omega
 rw[e];rfl
theorem z68 (C:PC)(N:Nat)(rs:List (List Nat × Nat × Int))(ts:List Tok)(f:MF)(d:Nat)(qs:List Value)(w:World)(s:ByteArray)(hP:PSt C rs ts f d qs w)(hn:f.nodes.length+s.size<=100000000)
  (hJ:∀(g:MF) (ks:List Int) (ka:Option Addr) (kc:Nat) (W:World),KSt C N rs d qs w (.slice ka ks.length kc) (fun _=>ks) (.ok ts g) W->g.nodes.length<=100000000->Calls Tryz.prog 173 #[.pointer (some ⟨C.B,0,none⟩),.int .i64 3,.slice ka ks.length kc] W (DoIs C N rs d qs w (.ok ts (joinN g 3 ks)))) :
  Calls Tryz.prog 200 #[.pointer (some ⟨C.B,0,none⟩),.string s] w (DoIs C N rs d qs w (.ok ts (litN f (bts s)))):=by
 have hlt:=hP.lt;have HP:=Lib.hid (St.start (N:=N) hP).nokids;have HLT:=Lib.hid hlt;have HJ:=Lib.hid hJ;obtain⟨ii,hii,hzi0,hzi1,hzi2⟩:=info_parts za3;clear hP hlt hJ;go_enter Tryz.func200,Tryz.ntmps200;go_wp2
 go_loopw [8,4] (fun c kv wr=>∃(k:Nat) (g:MF) (ks:List Int),k<=s.size/\c=.int .i64 k/\g.nodes.length+(s.size-k)<=100000000/\ks.length=k/\KSt C N rs d qs w kv (fun _=>ks) (.ok ts g) wr/\litF f (bts s) []=litF g ((bts s).drop k) ks) (fun c _ _=>s.size-(intOf c).toNat)
 case atStart=>exact⟨0,f,[],Nat.zero_le _,rfl,by omega,rfl,HP.out,rfl⟩
 case round=>
  obtain⟨k,g,ks,hk,rfl,hgn,hkl,hK,hF⟩:=hrel;by_cases hlt:k<s.size
  ·obtain⟨hKq,h0,hrow,tq,hPS,ht⟩:=hK
   obtain⟨ka,kc,rfl⟩:=zad hrow;have hb:=s[k].toNat_lt;have hstep:=zyp (g:=g) (ks:=ks) hlt;obtain⟨c,hc⟩:∃c,s[k].toNat=c:=⟨_,rfl⟩;have hOf:=z67 c (by omega) wr;have hAdd:=fun w2 (h2:Below wr.heap.size wr w2)=>zkd C rs ts g d (qs++tq) w2 (clsN (fun i=>decide (i=c))) none 0 (hPS.below h2) (World.ownsRow_nil _ _ _ _) (by omega)
   obtain⟨nd,hnd⟩:∃nd,clsN (fun i=>decide (i=c))=nd:=⟨_,rfl⟩;have hnv:ndV (clsN (fun i=>decide (i=c))) (.slice none 0 0)=.agg #[.int .i64 1,.slice none 0 0,.int .i64 0,.int .u64 (setW (fun i=>decide (i=c)) 0),.int .u64 (setW (fun i=>decide (i=c)) 1),.int .u64 (setW (fun i=>decide (i=c)) 2),.int .u64 (setW (fun i=>decide (i=c)) 3)]:=rfl;have hkd:(clsN (fun i=>decide (i=c))).kids.length=0:=rfl;rw[hkd,hnv,hnd] at hAdd;rw[hc,hnd] at hstep;generalize setW (fun i=>decide (i=c)) 0=x0 at hOf hAdd;generalize setW (fun i=>decide (i=c)) 1=x1 at hOf hAdd;generalize setW (fun i=>decide (i=c)) 2=x2 at hOf hAdd;generalize setW (fun i=>decide (i=c)) 3=x3 at hOf hAdd;have HOF:=Lib.hid hOf;have HADD:=Lib.hid hAdd;have HSTEP:=Lib.hid hstep;have HFF:=Lib.hid hF;have HKQ:=Lib.hid hKq;have HH0:=Lib.hid h0;have HROW:=Lib.hid hrow;have HPS:=Lib.hid hPS;have HT:=Lib.hid ht;have HKL:=Lib.hid hkl;have HC:=Lib.hid hc;have k1:(k:Int)<(s.size:Int):=by omega
   have hks:ks.length<=100000000:=by omega
   clear hOf hAdd hstep hF hKq h0 hrow hPS ht hnd hnv hkd hkl
   go_wp2_with (first
    |(go_at_call 202;(with_reducible refine HOF.out.mono ?_);rintro e w2 ⟨rfl,hb2⟩;have HB2:=Lib.hid hb2;clear hb2)
    |(go_at_call 185;(with_reducible refine(HADD.out w2 HB2.out).mono ?_);rintro e w3 h3;have h3r:=h3.1;subst h3r;have HA:=Lib.hid h3;obtain⟨na,nc,h11⟩:=h3.2.2.last;have h11:w3.cell? ⟨C.B,11,none⟩=some (.slice na (addNY g nd).nodes.length nc):=h11;have hm:(addNY g nd).nodes.length<=2000000000:=(by show(g.nodes++[nd]).length<=_;rw[List.length_append,List.length_singleton];omega);obtain⟨m,hm'⟩:∃m,(addNY g nd).nodes.length=m:=⟨_,rfl⟩;rw[hm'] at h11 hm;have HM:=Lib.hid hm';clear h3 hm';have HKQ3:=Lib.hid (((Kq.of_below HB2.out).trans HA.out.2.1:Kq C.w0.heap.size C.B wr w3));have HR3:=Lib.hid (HKQ3.out.own HROW.out (by decide) (own_ne HROW.out HPS.out.isB.choose_spec (by decide))))
    |(go_at_call 163;(with_reducible refine(ze3 C.B na m nc w3 h11 hm).mono ?_);rintro e w4 ⟨rfl,rfl⟩)
    |(at_builtin;refine wpList_append_own_at _ rfl _ _ 29 rfl C.w0.heap.size 3 ii (.int .i64 0) 1 8 Tryz.underlying29 hii hzi0 hzi1 hzi2 rfl (by decide) _ ks.length _ rfl (zaa HR3.out (zab _ _)) ⟨w3.heap.size,0,none⟩ 1 1 [.int .i64 ((m:Int)-1)] rfl rfl (zaq _ _ _) (by simp[Value.oneCell']) (by unfold maxLen;omega) (by omega) (by have:=HKQ3.out.size;have:=HPS.out.1.1.size;simp;omega) ?_;intro v5 w5 hown' hgrow _ hat;have HO:=Lib.hid hown';have HG:=Lib.hid hgrow;have HAT:=Lib.hid hat;clear hown' hgrow hat))
   obtain⟨a5,c5,e5⟩:=zad HO.out;subst e5;have hS:St C N rs d (qs++tq) wr (.ok ts (addNY g nd)) w3:=⟨HKQ3.out,[.slice none 0 0],HA.out.2.2,fun q hq b hb=>by
    obtain rfl:=List.mem_singleton.1 hq;cases hb⟩
   obtain⟨kv',hkv,hK'⟩:=zeq HLT.out HKQ.out HH0.out HROW.out HPS.out HT.out rfl (by omega) rfl (e:=.returned (.slice a5 (ks.length+1) c5)) ⟨w3,na,m,nc,a5,c5,_,hS,h11,rfl,HO.out,HG.out,HAT.out⟩;injection hkv with hkv;subst hkv;have HK':=Lib.hid hK';clear hK' hS;go_roundw
   case rel=>exact⟨k+1,addNY g nd,ks++[lastI (addNY g nd)],by omega,by go_num,by
    show(g.nodes++[nd]).length+_<=_;rw[List.length_append,List.length_singleton];omega,by rw[List.length_append,List.length_singleton,HKL.out],HK'.out,HFF.out.trans HSTEP.out⟩
   case measure=>simp[intOf];omega
  ·obtain rfl:k=s.size:=by omega
   have k1:¬(s.size:Int)<(s.size:Int):=by omega
   rw[List.drop_eq_nil_of_le (by rw[zag];exact Nat.le_refl _)] at hF;have hl:litN f (bts s)=joinN g 3 ks:=by unfold litN;rw[hF];rfl
   obtain⟨ka,kc,rfl⟩:=zad hK.2.2.1;have HC:=Lib.hid (HJ.out g ks ka kc wr hK (by omega));have HL:=Lib.hid hl;have HK:=Lib.hid hK;have HKL:=Lib.hid hkl;clear hK hF hl hkl
   go_wp2_with (go_at_call 173;(with_reducible refine HC.out.mono ?_);rintro e w2 h;have h1:=h.1;subst h1;have HO:=Lib.hid h;clear h)
   go_end0
   rw[HL.out];exact HO.out
end
end Go.Proofs.YthhppmehhdlmnaaGreatDoor
