/- The reference: all tokens. The reference: its state; kind, wrong, add. append(append([]T{}, xs...), y): what is known of the blocks while its operations are dra -/
import Derived.Deep.QuietTactic
import Derived.Deep.Cut
import Derived.Test.YtmopdlbpkiaoeaaGreatDoorPkA
import Derived.Test.YtmopdlbpkiaoeaaGreatDoorPkD
import Derived.Test.YtmopdlbpkiaoeaaGreatDoorPkC
import Derived.Test.YtmopdlbpkiaoeaaGreatDoorPkF
import Derived.Test.YtmopdlbpkiaoeaaGreatDoorPkL
namespace Go.Proofs.YtmopdlbpkiaoeaaGreatDoor
section
open Go.RowKit
def kI (k:Nat):Int:=if k=99 then -1 else (k:Int)
def rtokC (t:Tok):List Value:=[.int .i64 (kI t.kind),.int .i64 (t.at_:Int),.string (strOf t.text),.int .u64 (setW (inRs t.rs) 0),.int .u64 (setW (inRs t.rs) 1),.int .u64 (setW (inRs t.rs) 2),.int .u64 (setW (inRs t.rs) 3)]
def zgr (ts:List Tok):List Value:=ts.flatMap rtokC
end
section
open Go.RowKit
structure RC where
 base:Nat
 T:List Tok
 one:Bool
structure SV where
 la:Option Addr
 lc:Nat
 i:Int
 ra:Option Addr
 rn:Nat
 rc:Nat
 na:Option Addr
 nn:Nat
 nc:Nat
 ca:Option Addr
 cn:Nat
 cc:Nat
 bad:Int
 dp:Bool
def SV.v (x:SV)(R:RC):Value:=.agg #[.slice x.la R.T.length x.lc,.int .i64 x.i,.slice x.ra x.rn x.rc,.slice x.na x.nn x.nc,.slice x.ca x.cn x.cc,.int .i64 x.bad,.bool x.dp,.bool R.one]
def RFix (R:RC)(x:SV)(W:World):Prop:=W.ownsRow R.base 169 7 (.slice x.la R.T.length x.lc) R.T.length (zgr R.T)/\R.T.length<=2000000
def RSt (R:RC)(rs:List (List Nat × Nat × Int))(ts:List Tok)(f:MF)(qs:List Value)(x:SV)(W:World):Prop:=
 RFix R x W/\x.bad=-1/\x.dp=false/\(∃n:Nat,x.i=n/\R.T.drop n=ts)/\ts≠[]/\x.rn=rs.length/\x.nn=f.nodes.length/\x.cn=f.calls.length /\
  NRow R.base (.slice x.na x.nn x.nc) f.nodes qs W/\W.ownsRow R.base 176 2 (.slice x.ca x.cn x.cc) f.calls.length (zcw f.calls)/\W.ownsRow R.base 173 3 (.slice x.ra x.rn x.rc) rs.length (defsC rs)
def RF (R:RC)(rs:List (List Nat × Nat × Int))(ts:List Tok)(f:MF)(qs:List Value)(lo:Nat)(x:SV)(W:World):Prop:=∃tq,RSt R rs ts f (qs++tq) x W/\∀q,q ∈ tq->∀b,q.ownBlock=some b->lo<=b
def DRow (R:RC)(rs:List (List Nat × Nat × Int))(x:SV)(W:World):Prop:=x.rn=rs.length/\W.ownsRow R.base 173 3 (.slice x.ra x.rn x.rc) rs.length (defsC rs)
def RBad (R:RC)(rs:List (List Nat × Nat × Int))(a:List Tok)(dp:Bool)(x:SV)(W:World):Prop:=RFix R x W/\x.dp=dp/\(∃n:Nat,x.bad=n/\R.T.drop n=a)/\a≠[]/\DRow R rs x W
section
variable {R:RC} {rs:List (List Nat × Nat × Int)} {ts a:List Tok} {f:MF} {x:SV} {W W':World} {dp:Bool}
theorem RFix.below (h:RFix R x W)(hb:Below W.heap.size W W'):RFix R x W':=⟨zab h.1 hb,h.2⟩
theorem RSt.below {qs:List Value}(h:RSt R rs ts f qs x W)(hb:Below W.heap.size W W'):RSt R rs ts f qs x W':=by
 obtain⟨h1,h2,h3,h4,h5,h6,h7,h8,h9,h10,h11⟩:=h;exact⟨h1.below hb,h2,h3,h4,h5,h6,h7,h8,h9.grown hb,zab h10 hb,zab h11 hb⟩
theorem RF.below {qs:List Value}{lo:Nat}(h:RF R rs ts f qs lo x W)(hb:Below W.heap.size W W'):RF R rs ts f qs lo x W':=by
 obtain⟨tq,h1,h2⟩:=h;exact⟨tq,h1.below hb,h2⟩
theorem RF.trans {qs tq:List Value}{lo lo':Nat}(h:RF R rs ts f (qs++tq) lo' x W)(ht:∀q,q ∈ tq->∀b,q.ownBlock=some b->lo<=b)(hl:lo<=lo'):RF R rs ts f qs lo x W:=by
 obtain⟨t2,h1,h2⟩:=h;refine⟨tq++t2,by rw[<-List.append_assoc];exact h1,fun q hq b hb=>?_⟩;rcases List.mem_append.1 hq with hq|hq
 ·exact ht q hq b hb
 ·exact Nat.le_trans hl (h2 q hq b hb)
theorem RF.lo {qs:List Value}{lo lo':Nat}(h:RF R rs ts f qs lo x W)(hl:lo'<=lo):RF R rs ts f qs lo' x W:=by
 obtain⟨tq,h1,h2⟩:=h;exact⟨tq,h1,fun q hq b hb=>Nat.le_trans hl (h2 q hq b hb)⟩
theorem RSt.lt {qs:List Value}(h:RSt R rs ts f qs x W):∀q,q ∈ qs->∀b,q.ownBlock=some b->b<W.heap.size:=fun q hq b hb=>by
 have hR:=h.2.2.2.2.2.2.2.2.1;obtain⟨j,hj⟩:=List.getElem?_of_mem hq;have hl:=(List.getElem?_eq_some_iff.1 hj).1;obtain⟨m,hm⟩:∃m,f.nodes[j]?=some m:=⟨_,List.getElem?_eq_getElem (by rw[<-hR.1];exact hl)⟩;exact((hR.2.2 j m q hm hj).lt b hb).2
theorem DRow.below (h:DRow R rs x W)(hb:Below W.heap.size W W'):DRow R rs x W':=⟨h.1,zab h.2 hb⟩
theorem RBad.below (h:RBad R rs a dp x W)(hb:Below W.heap.size W W'):RBad R rs a dp x W':=⟨h.1.below hb,h.2.1,h.2.2.1,h.2.2.2.1,h.2.2.2.2.below hb⟩
theorem zwj {T:List Tok}{i j:Nat}{t:Tok}(h:T[i]?=some t)(hj:j<7):(zgr T)[i*7+j]?=(rtokC t)[j]?:=zd2 rtokC 7 (fun _=>rfl) T i t j h hj
theorem RFix.tok (h:RFix R x W){n:Nat}{t:Tok}{tl:List Tok}(hn:R.T.drop n=t::tl):n<R.T.length/\∃b,x.la=some ⟨b,0,none⟩/\(W.cell? ⟨b,n*7,none⟩=some (.int .i64 (kI t.kind))/\W.cell? ⟨b,n*7+1,none⟩=some (.int .i64 (t.at_:Int))/\W.cell? ⟨b,n*7+2,none⟩=some (.string (strOf t.text))/\W.cell? ⟨b,n*7+3,none⟩=some (.int .u64 (setW (inRs t.rs) 0))/\W.cell? ⟨b,n*7+4,none⟩=some (.int .u64 (setW (inRs t.rs) 1))/\W.cell? ⟨b,n*7+5,none⟩=some (.int .u64 (setW (inRs t.rs) 2))/\W.cell? ⟨b,n*7+6,none⟩=some (.int .u64 (setW (inRs t.rs) 3)))/\b<W.heap.size:=by
 have hlt:n<R.T.length:=by
  rcases Nat.lt_or_ge n R.T.length with h|h
  ·exact h
  ·rw[List.drop_eq_nil_of_le h] at hn;cases hn
 have ht:R.T[n]?=some t:=by
  have:(R.T.drop n)[0]?=some t:=by rw[hn];rfl
  rw[List.getElem?_drop] at this;exact this
 obtain⟨h,-⟩:=h;have h':=h;rcases h.2 with⟨e,h0⟩|⟨g,cap,cur,e,-⟩
 ·have:R.T.length=0:=by
   injection e
  omega
 ·injection e with e1 e2 e3
  have hc:∀j,j<7->W.cell? ⟨g,n*7+j,none⟩=(rtokC t)[j]?:=fun j hj=>by
   have hx:=zwj ht hj;cases hv:(rtokC t)[j]? with
   |none=>exact absurd (List.getElem?_eq_none_iff.1 hv) (by show ¬7<=j;omega)
   |some u=>
    rw[hv] at hx;rw[e1] at h';have:=h'.cells rfl (n*7+j) u hx;rw[Addr.add_lit,Nat.zero_add] at this;exact this
  refine⟨hlt,g,e1,⟨hc 0 (by decide),hc 1 (by decide),hc 2 (by decide),hc 3 (by decide),hc 4 (by decide),hc 5 (by decide),hc 6 (by decide)⟩,?_⟩;rw[e1] at h';exact(h'.lt g rfl).2
end
end
section
open Go.RowKit
def RK (lo:Nat)(e:TypeId)(k:Nat)(elem:List Value)(W W':World):Prop:=
 W.heap.size<=W'.heap.size/\∀(b:Nat) (c:Array Value),lo<=b->W.heap[b]?=some (.cells c e (0,0))->∃c':Array Value,W'.heap[b]?=some (.cells c' e (0,0))/\c'.size=c.size/\∀j,j<c.size->c'[j]?=c[j]?∨(k<=j/\k+elem.length<=c.size/\c'[j]?=elem[j-k]?)
section
variable {lo k sz n:Nat} {e:TypeId} {elem xs:List Value} {W W':World} {v:Value}
theorem RK.of_grown (h:W.grownBy W' none):RK lo e k elem W W':=⟨h.size,fun b c _ hb=>⟨c,by rw[h.block b (Array.getElem?_eq_some_iff.1 hb).1 (by simp)];exact hb,rfl,fun _ _=>.inl rfl⟩⟩
end
section
variable {P:Program} (w:World) (lo:Nat) (t ty e:TypeId) (i:TypeInfo) (z:Value) (size bytes:Nat) (ht:P.underlying t=some (.slice e)) (hi:P.info? e=some i) (hz:i.zero=some z)
  (hsize:i.size=size) (hby:i.bytes=bytes) (hzs:z.cells.size=size)
include ht hi hz hsize hby hzs
end
end
section
open Go.RowKit
def zeroV:Array Value:=#[.slice none 0 0,.int .i64 0,.slice none 0 0,.slice none 0 0,.slice none 0 0,.int .i64 0,.bool false,.bool false]
theorem Bl.keep {w w':World}{b lo:Nat}{t:TypeId}{cs:Array Value}(h:Bl w b t cs)(hb:Below lo w w')(hl:b<lo):Bl w' b t cs:=by
 unfold Bl at h ⊢;rw[hb.block b hl];exact h
section
variable (lo X:Nat) (v0 ev:Value) (n:Nat) (cs elem:List Value)
end
end
section
open Go.RowKit
section
variable {R:RC} {rs:List (List Nat × Nat × Int)} {ts a:List Tok} {f g:MF} {x:SV} {w W W':World} {dp:Bool} {o:PO} {e:Ending}
end
def RRes (R:RC)(k:Int)(Q:SV->World->Prop)(w:World)(e:Ending)(w':World):Prop:=
 ∃(la:Option Addr) (lc:Nat) (i:Int) (ra:Option Addr) (rn rc:Nat) (na:Option Addr) (nn nc:Nat) (ca:Option Addr) (cn cc:Nat) (bad:Int) (dp:Bool),
  e=.returned (.tuple #[.agg #[.slice la R.T.length lc,.int .i64 i,.slice ra rn rc,.slice na nn nc,.slice ca cn cc,.int .i64 bad,.bool dp,.bool R.one],.int .i64 k])/\Below w.heap.size w w'/\Q ⟨la,lc,i,ra,rn,rc,na,nn,nc,ca,cn,cc,bad,dp⟩ w'
theorem RRes.mono {R:RC}{k:Int}{Q Q':SV->World->Prop}{w w':World}{e:Ending}(h:RRes R k Q w e w')(hq:∀x W,Q x W->Q' x W):RRes R k Q' w e w':=by
 obtain⟨la,lc,i,ra,rn,rc,na,nn,nc,ca,cn,cc,bad,dp,h1,h2,h3⟩:=h;exact⟨la,lc,i,ra,rn,rc,na,nn,nc,ca,cn,cc,bad,dp,h1,h2,hq _ _ h3⟩
section
variable {R:RC} {rs:List (List Nat × Nat × Int)} {ts:List Tok} {f:MF} {qs:List Value} {lo:Nat} {w:World}
end
end
section
open Go.RowKit
section
variable (R:RC) (la:Option Addr) (lc:Nat) (i:Int) (ra:Option Addr) (rn rc:Nat) (na:Option Addr) (nn nc:Nat) (ca:Option Addr) (cn cc:Nat) (bad:Int) (dp:Bool) (d:Nat) (w:World)
end
end
end Go.Proofs.YtmopdlbpkiaoeaaGreatDoor
