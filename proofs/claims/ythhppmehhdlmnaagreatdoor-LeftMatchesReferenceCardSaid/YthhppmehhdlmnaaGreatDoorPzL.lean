/- The parser in memory, what a call of its methods leaves as it was; accept. The parser: add, the append of a rule and of a call. The parser: last, fail, expect,  -/
import Derived.Deep.RegionWith
import Derived.Laws.EntriesVeiled
import Derived.Test.YthhppmehhdlmnaaGreatDoorPzD
import Derived.Test.YthhppmehhdlmnaaGreatDoorPzJ
import Derived.Test.YthhppmehhdlmnaaGreatDoorPzC
import Derived.Test.YthhppmehhdlmnaaGreatDoorPzSynFIn
import Derived.Test.YthhppmehhdlmnaaGreatDoorPzK
set_option maxRecDepth 100000
set_option maxHeartbeats 4000000
namespace Go.Proofs.YthhppmehhdlmnaaGreatDoor
section
open Go.RowKit
theorem Bl.put {w:World}{b i:Nat}{t:TypeId}{cs:Array Value}(h:Bl w b t cs)(v:Value):Bl (w.setCell ⟨b,i,none⟩ v) b t (cs.setIfInBounds i v):=heap_setCell_same w b i _ _ v h
structure PC where
 w0:World
 s:ByteArray
 nm:Bool
 B:Nat
 mp:Nat
 ms:Nat
 rv:Value
def preO:Obj:=.map #[⟨.int .i64 4,.int .i64 8,0⟩,⟨.int .i64 5,.int .i64 9,1⟩] 2
def sufO:Obj:=.map #[⟨.int .i64 6,.int .i64 7,0⟩,⟨.int .i64 7,.int .i64 5,1⟩,⟨.int .i64 8,.int .i64 6,2⟩] 3
def PB (C:PC)(n:Nat)(t:Tok)(er rv nv cv:Value)(d:Nat)(w:World):Prop:=
 Bl w C.B 170 #[.string C.s,.int .i64 (n:Int),.int .i64 (t.kind:Int),.int .i64 (t.at_:Int),.string (strOf t.text),.int .u64 (setW (inRs t.rs) 0),.int .u64 (setW (inRs t.rs) 1),.int .u64 (setW (inRs t.rs) 2),.int .u64 (setW (inRs t.rs) 3),
  er,rv,nv,cv,.bool C.nm,.int .i64 (d:Int),.map (some C.mp),.map (some C.ms)]
structure Kq (base B:Nat) (w w':World):Prop where
 os:w'.os=w.os
 tape:w'.tape=w.tape
 output:w'.output=w.output
 size:w.heap.size<=w'.heap.size
 block:∀k,k<w.heap.size->k≠B->(k<base∨∀c t fz,w.heap[k]?=some (.cells c t fz)->t≠51/\t≠175)->w'.heap[k]?=w.heap[k]?
section
variable {base B:Nat} {w w1 w2 w':World}
theorem Kq.refl (w:World):Kq base B w w:=⟨rfl,rfl,rfl,Nat.le_refl _,fun _ _ _ _=>rfl⟩
theorem Kq.trans (h:Kq base B w w1)(k:Kq base B w1 w2):Kq base B w w2:=
 ⟨k.os.trans h.os,k.tape.trans h.tape,k.output.trans h.output,Nat.le_trans h.size k.size,fun i hi hx hc=>by
  have e:=h.block i hi hx hc;rw[k.block i (Nat.lt_of_lt_of_le hi h.size) hx (by rw[e];exact hc),e]⟩
theorem Kq.of_below (h:Below w.heap.size w w'):Kq base B w w':=⟨h.os,h.tape,h.output,h.size,fun k hk _ _=>h.block k hk⟩
theorem Kq.below (h:Kq base B w w')(hB:base<=B)(hb:base<=w.heap.size):Below base w w':=⟨h.os,h.tape,h.output,h.size,fun k hk=>h.block k (by omega) (by omega) (.inl hk)⟩
theorem Kq.set (o:Nat)(v:Value):Kq base B w (w.setCell ⟨B,o,none⟩ v):=⟨rfl,rfl,rfl,by simp[World.setCell],fun _ _ hk _=>heap_setCell_other _ _ _ _ hk⟩
theorem Kq.grown {r:Option Nat}(hg:w.grownBy w' r)(hr:∀g,r=some g->base<=g/\∃c t fz,w.heap[g]?=some (.cells c t fz)/\(t=51∨t=175)):Kq base B w w':=
 ⟨hg.os,hg.tape,hg.output,hg.size,fun k hk _ hc=>hg.block k hk (by
  intro e;obtain⟨h1,c,t,fz,h2,h3⟩:=hr k e.symm;rcases hc with hc|hc
  ·omega
  ·have:=hc _ _ _ h2
   rcases h3 with h3|h3
   ·exact this.1 h3
   ·exact this.2 h3)⟩
theorem Kq.own (h:Kq base B w w'){b':Nat}{e:TypeId}{size n:Nat}{v:Value}{xs:List Value}(hv:w.ownsRow b' e size v n xs)(h1:e≠51/\e≠175)(hx:v.ownBlock≠some B):w'.ownsRow b' e size v n xs:=by
 obtain⟨hl,hv⟩:=hv;refine⟨hl,?_⟩;rcases hv with hv|⟨g,cap,cur,rfl,hb,hh,hr⟩
 ·exact .inl hv
 ·refine .inr ⟨g,cap,cur,rfl,hb,?_,hr⟩
  rw[h.block g (Array.getElem?_eq_some_iff.1 hh).1 (fun e=>hx (by rw[e];rfl)) (.inr fun c t fz hc=>by
   rw[hh] at hc;injection hc with hc;injection hc with _ hc _;subst hc;exact h1)]
  exact hh
theorem Kq.bl (h:Kq base B w w'){b:Nat}{t:TypeId}{cs:Array Value}(hv:Bl w b t cs)(hx:b≠B)(ht:t≠51/\t≠175):Bl w' b t cs:=by
 unfold Bl;rw[h.block b hv.lt hx (.inr fun c t fz hc=>by
  unfold Bl at hv;rw[hv] at hc;injection hc with hc;injection hc with _ hc _;subst hc;exact ht)]
 exact hv
theorem Kq.obj (h:Kq base B w w'){b:Nat}{o:Obj}(hv:w.heap[b]?=some o)(hx:b≠B)(ho:∀c t fz,o≠.cells c t fz):w'.heap[b]?=some o:=by
 rw[h.block b (Array.getElem?_eq_some_iff.1 hv).1 hx (.inr fun c t fz hc=>by
  rw[hv] at hc;exact absurd (Option.some.inj hc) (ho c t fz))]
 exact hv
theorem Kq.late {W W':World}(h:Kq base B w W){r:Option Nat}(hg:W.grownBy W' r)(hr:∀g,r=some g->w.heap.size<=g):Kq base B w W':=
 ⟨hg.os.trans h.os,hg.tape.trans h.tape,hg.output.trans h.output,Nat.le_trans h.size hg.size,fun k hk hx hc=>by
  rw[hg.block k (Nat.lt_of_lt_of_le hk h.size) (fun e=>by have:=hr k e.symm;omega)];exact h.block k hk hx hc⟩
end
def Cur (s:ByteArray)(ts:List Tok)(t:Tok)(n:Nat):Prop:=t.kind≠99/\n<=s.size/\∃tl,ts=t::tl/\(t.kind≠0->tl=strm (bts s) n)
theorem Cur.kd {s:ByteArray}{ts:List Tok}{t:Tok}{n:Nat}(h:Cur s ts t n):kd ts=t.kind:=by obtain⟨-,-,tl,rfl,-⟩:=h;rfl
theorem Cur.tail {s:ByteArray}{ts:List Tok}{t:Tok}{n:Nat}(h:Cur s ts t n)(h0:t.kind≠0):ts=t::strm (bts s) n:=by obtain⟨-,-,tl,rfl,e⟩:=h;rw[e h0]
def PFix (C:PC)(w:World):Prop:=Below C.w0.heap.size C.w0 w/\C.w0.heap.size<=C.B/\C.B≠C.mp/\C.B≠C.ms/\w.heap[C.mp]?=some preO/\w.heap[C.ms]?=some sufO
theorem PFix.kept {C:PC}{w w':World}(h:PFix C w)(k:Kq C.w0.heap.size C.B w w'):PFix C w':=by
 obtain⟨h1,h2,h3,h4,h5,h6⟩:=h;exact⟨h1.trans (k.below h2 h1.size),h2,h3,h4,k.obj h5 (Ne.symm h3) (fun _ _ _=>by unfold preO;exact fun e=>by injection e),k.obj h6 (Ne.symm h4) (fun _ _ _=>by unfold sufO;exact fun e=>by injection e)⟩
def RRow (C:PC)(rs:List (List Nat × Nat × Int))(rv:Value)(w:World):Prop:=rv=C.rv/\w.ownsRow C.w0.heap.size 173 3 rv rs.length (defsC rs)
def PRows (C:PC)(rs:List (List Nat × Nat × Int))(f:MF)(qs:List Value)(rv nv cv:Value)(w:World):Prop:=
 NRow C.w0.heap.size nv f.nodes qs w/\w.ownsRow C.w0.heap.size 175 2 cv f.calls.length (zd7 f.calls)/\RRow C rs rv w
def PSt (C:PC)(rs:List (List Nat × Nat × Int))(ts:List Tok)(f:MF)(d:Nat)(qs:List Value)(w:World):Prop:=
 PFix C w/\∃n t rv nv cv,Cur C.s ts t n/\PB C n t .nilIface rv nv cv d w/\PRows C rs f qs rv nv cv w
def PBad (C:PC)(er:Value)(N:Nat)(d:Nat)(w:World):Prop:=
 PFix C w/\∃n rv nv cv m1 m2 m3 c1 c2 c3,PB C n ⟨0,0,[],[]⟩ er rv nv cv d w/\w.ownsRow C.w0.heap.size 51 7 nv m1 c1/\w.ownsRow C.w0.heap.size 175 2 cv m2 c2/\w.ownsRow C.w0.heap.size 173 3 rv m3 c3/\m1<=N/\m2<=N/\m3<=N
def erV (a:List Tok)(deep:Bool):Value:=.iface 132 (.agg #[.int .i64 (if deep then 5 else 1),.int .i64 (match a with | []=>0|t::_=>(t.at_:Int))])
def Out (C:PC)(N:Nat)(rs:List (List Nat × Nat × Int))(d:Nat)(qs:List Value)(w:World)(o:PO)(e:Ending)(w':World):Prop:=
 e=.returned (.tuple #[])/\Kq C.w0.heap.size C.B w w'/\match o with
 |.ok a g=>∃tq,PSt C rs a g d (qs++tq) w'/\∀q,q ∈ tq->∀b,q.ownBlock=some b->w.heap.size<=b
 |.bad a dp=>PBad C (erV a dp) N d w'
theorem seventeen {w:World}{B:Nat}{t:TypeId}{c0 c1 c2 c3 c4 c5 c6 c7 c8 c9 c10 c11 c12 c13 c14 c15 c16:Value}(h:Bl w B t #[c0,c1,c2,c3,c4,c5,c6,c7,c8,c9,c10,c11,c12,c13,c14,c15,c16]) :
  (w.cell? ⟨B,0,none⟩=some c0/\w.cell? ⟨B,1,none⟩=some c1/\w.cell? ⟨B,2,none⟩=some c2/\w.cell? ⟨B,3,none⟩=some c3/\w.cell? ⟨B,4,none⟩=some c4/\w.cell? ⟨B,5,none⟩=some c5/\w.cell? ⟨B,6,none⟩=some c6/\w.cell? ⟨B,7,none⟩=some c7/\w.cell? ⟨B,8,none⟩=some c8) /\
  (w.cell? ⟨B,9,none⟩=some c9/\w.cell? ⟨B,10,none⟩=some c10/\w.cell? ⟨B,11,none⟩=some c11/\w.cell? ⟨B,12,none⟩=some c12/\w.cell? ⟨B,13,none⟩=some c13/\w.cell? ⟨B,14,none⟩=some c14/\w.cell? ⟨B,15,none⟩=some c15/\w.cell? ⟨B,16,none⟩=some c16)/\(∀o,w.frozen? ⟨B,o,none⟩=false)/\B<w.heap.size:=
 ⟨⟨h.cell rfl,h.cell rfl,h.cell rfl,h.cell rfl,h.cell rfl,h.cell rfl,h.cell rfl,h.cell rfl,h.cell rfl⟩,⟨h.cell rfl,h.cell rfl,h.cell rfl,h.cell rfl,h.cell rfl,h.cell rfl,h.cell rfl,h.cell rfl⟩,h.free,h.lt⟩
section
variable {w:World} {B:Nat} {t:TypeId} {c0 c1 c2 c3 c4 c5 c6 c7 c8 c9 c10 c11 c12 c13 c14 c15 c16:Value}
theorem put1 (h:Bl w B t #[c0,c1,c2,c3,c4,c5,c6,c7,c8,c9,c10,c11,c12,c13,c14,c15,c16])(v:Value):Bl (w.setCell ⟨B,1,none⟩ v) B t #[c0,v,c2,c3,c4,c5,c6,c7,c8,c9,c10,c11,c12,c13,c14,c15,c16]:=Bl.put h v
theorem put2 (h:Bl w B t #[c0,c1,c2,c3,c4,c5,c6,c7,c8,c9,c10,c11,c12,c13,c14,c15,c16])(v:Value):Bl (w.setCell ⟨B,2,none⟩ v) B t #[c0,c1,v,c3,c4,c5,c6,c7,c8,c9,c10,c11,c12,c13,c14,c15,c16]:=Bl.put h v
theorem put3 (h:Bl w B t #[c0,c1,c2,c3,c4,c5,c6,c7,c8,c9,c10,c11,c12,c13,c14,c15,c16])(v:Value):Bl (w.setCell ⟨B,3,none⟩ v) B t #[c0,c1,c2,v,c4,c5,c6,c7,c8,c9,c10,c11,c12,c13,c14,c15,c16]:=Bl.put h v
theorem put4 (h:Bl w B t #[c0,c1,c2,c3,c4,c5,c6,c7,c8,c9,c10,c11,c12,c13,c14,c15,c16])(v:Value):Bl (w.setCell ⟨B,4,none⟩ v) B t #[c0,c1,c2,c3,v,c5,c6,c7,c8,c9,c10,c11,c12,c13,c14,c15,c16]:=Bl.put h v
theorem put5 (h:Bl w B t #[c0,c1,c2,c3,c4,c5,c6,c7,c8,c9,c10,c11,c12,c13,c14,c15,c16])(v:Value):Bl (w.setCell ⟨B,5,none⟩ v) B t #[c0,c1,c2,c3,c4,v,c6,c7,c8,c9,c10,c11,c12,c13,c14,c15,c16]:=Bl.put h v
theorem put6 (h:Bl w B t #[c0,c1,c2,c3,c4,c5,c6,c7,c8,c9,c10,c11,c12,c13,c14,c15,c16])(v:Value):Bl (w.setCell ⟨B,6,none⟩ v) B t #[c0,c1,c2,c3,c4,c5,v,c7,c8,c9,c10,c11,c12,c13,c14,c15,c16]:=Bl.put h v
theorem put7 (h:Bl w B t #[c0,c1,c2,c3,c4,c5,c6,c7,c8,c9,c10,c11,c12,c13,c14,c15,c16])(v:Value):Bl (w.setCell ⟨B,7,none⟩ v) B t #[c0,c1,c2,c3,c4,c5,c6,v,c8,c9,c10,c11,c12,c13,c14,c15,c16]:=Bl.put h v
theorem put8 (h:Bl w B t #[c0,c1,c2,c3,c4,c5,c6,c7,c8,c9,c10,c11,c12,c13,c14,c15,c16])(v:Value):Bl (w.setCell ⟨B,8,none⟩ v) B t #[c0,c1,c2,c3,c4,c5,c6,c7,v,c9,c10,c11,c12,c13,c14,c15,c16]:=Bl.put h v
theorem put9 (h:Bl w B t #[c0,c1,c2,c3,c4,c5,c6,c7,c8,c9,c10,c11,c12,c13,c14,c15,c16])(v:Value):Bl (w.setCell ⟨B,9,none⟩ v) B t #[c0,c1,c2,c3,c4,c5,c6,c7,c8,v,c10,c11,c12,c13,c14,c15,c16]:=Bl.put h v
theorem put13 (h:Bl w B t #[c0,c1,c2,c3,c4,c5,c6,c7,c8,c9,c10,c11,c12,c13,c14,c15,c16])(v:Value):Bl (w.setCell ⟨B,13,none⟩ v) B t #[c0,c1,c2,c3,c4,c5,c6,c7,c8,c9,c10,c11,c12,v,c14,c15,c16]:=Bl.put h v
theorem put14 (h:Bl w B t #[c0,c1,c2,c3,c4,c5,c6,c7,c8,c9,c10,c11,c12,c13,c14,c15,c16])(v:Value):Bl (w.setCell ⟨B,14,none⟩ v) B t #[c0,c1,c2,c3,c4,c5,c6,c7,c8,c9,c10,c11,c12,c13,v,c15,c16]:=Bl.put h v
end
theorem PB.same {C:PC}{n:Nat}{t:Tok}{er rv nv cv:Value}{d:Nat}{w w':World}(h:PB C n t er rv nv cv d w)(hb:Below w.heap.size w w'):PB C n t er rv nv cv d w':=Bl.below h hb
theorem PB.token {C:PC}{n:Nat}{t:Tok}{er rv nv cv:Value}{d:Nat}{w:World}(h:PB C n t er rv nv cv d w)(n':Nat)(t':Tok)(er':Value) :
  PB C n' t' er' rv nv cv d (((((((((w.setCell ⟨C.B,2,none⟩ (.int .i64 (t'.kind:Int))).setCell ⟨C.B,3,none⟩ (.int .i64 (t'.at_:Int))).setCell ⟨C.B,4,none⟩ (.string (strOf t'.text))).setCell ⟨C.B,5,none⟩ (.int .u64 (setW (inRs t'.rs) 0))).setCell ⟨C.B,6,none⟩ (.int .u64 (setW (inRs t'.rs) 1))).setCell ⟨C.B,7,none⟩ (.int .u64 (setW (inRs t'.rs) 2))).setCell ⟨C.B,8,none⟩ (.int .u64 (setW (inRs t'.rs) 3))).setCell ⟨C.B,1,none⟩ (.int .i64 (n':Int))).setCell ⟨C.B,9,none⟩ er'):=
 put9 (put1 (put8 (put7 (put6 (put5 (put4 (put3 (put2 h _) _) _) _) _) _) _) _) _
theorem Kq.nine {base B:Nat}{w w2:World}{a b c d e f g h i:Value}(k:Kq base B w w2):Kq base B w (((((((((w2.setCell ⟨B,2,none⟩ a).setCell ⟨B,3,none⟩ b).setCell ⟨B,4,none⟩ c).setCell ⟨B,5,none⟩ d).setCell ⟨B,6,none⟩ e).setCell ⟨B,7,none⟩ f).setCell ⟨B,8,none⟩ g).setCell ⟨B,1,none⟩ h).setCell ⟨B,9,none⟩ i):=
 ((((((((k.trans (Kq.set _ _)).trans (Kq.set _ _)).trans (Kq.set _ _)).trans (Kq.set _ _)).trans (Kq.set _ _)).trans (Kq.set _ _)).trans (Kq.set _ _)).trans (Kq.set _ _)).trans (Kq.set _ _)
structure OnlyB (B:Nat) (w w':World):Prop where
 os:w'.os=w.os
 tape:w'.tape=w.tape
 output:w'.output=w.output
 size:w'.heap.size=w.heap.size
 block:∀k,k≠B->w'.heap[k]?=w.heap[k]?
theorem OnlyB.set {B:Nat}{w w2:World}(h:OnlyB B w w2)(o:Nat)(v:Value):OnlyB B w (w2.setCell ⟨B,o,none⟩ v):=
 ⟨h.os,h.tape,h.output,by rw[<-h.size];simp[World.setCell],fun k hk=>by rw[heap_setCell_other _ _ _ _ hk];exact h.block k hk⟩
theorem OnlyB.refl (B:Nat)(w:World):OnlyB B w w:=⟨rfl,rfl,rfl,rfl,fun _ _=>rfl⟩
theorem OnlyB.kq {base B:Nat}{w w':World}(h:OnlyB B w w'):Kq base B w w':=⟨h.os,h.tape,h.output,Nat.le_of_eq h.size.symm,fun k _ hk _=>h.block k hk⟩
theorem OnlyB.row {B:Nat}{w w':World}(h:OnlyB B w w'){base:Nat}{e:TypeId}{size n:Nat}{v:Value}{xs:List Value}(hv:w.ownsRow base e size v n xs)(hx:v.ownBlock≠some B):w'.ownsRow base e size v n xs:=by
 obtain⟨hl,hv⟩:=hv;refine⟨hl,?_⟩;rcases hv with hv|⟨g,cap,cur,rfl,hb,hh,hr⟩
 ·exact .inl hv
 ·exact .inr ⟨g,cap,cur,rfl,hb,by rw[h.block g (fun e=>hx (by rw[e];rfl))];exact hh,hr⟩
theorem PRows.only {C:PC}{rs:List (List Nat × Nat × Int)}{f:MF}{qs:List Value}{rv nv cv:Value}{w w':World}{cs:Array Value}(h:PRows C rs f qs rv nv cv w)(hB:Bl w C.B 170 cs)(k:OnlyB C.B w w'):PRows C rs f qs rv nv cv w':=
 ⟨⟨h.1.1,k.row h.1.2.1 (own_ne h.1.2.1 hB (by decide)),fun j n q a b=>k.row (h.1.2.2 j n q a b) (own_ne (h.1.2.2 j n q a b) hB (by decide))⟩,k.row h.2.1 (own_ne h.2.1 hB (by decide)),h.2.2.1,k.row h.2.2.2 (own_ne h.2.2.2 hB (by decide))⟩
theorem PRows.below {C:PC}{rs:List (List Nat × Nat × Int)}{f:MF}{qs:List Value}{rv nv cv:Value}{w w':World}(h:PRows C rs f qs rv nv cv w)(hb:Below w.heap.size w w'):PRows C rs f qs rv nv cv w':=
 ⟨h.1.grown hb,zaa h.2.1 hb,h.2.2.1,zaa h.2.2.2 hb⟩
theorem OnlyB.nine {B:Nat}{w:World}{a b c d e f g h i:Value}:OnlyB B w (((((((((w.setCell ⟨B,2,none⟩ a).setCell ⟨B,3,none⟩ b).setCell ⟨B,4,none⟩ c).setCell ⟨B,5,none⟩ d).setCell ⟨B,6,none⟩ e).setCell ⟨B,7,none⟩ f).setCell ⟨B,8,none⟩ g).setCell ⟨B,1,none⟩ h).setCell ⟨B,9,none⟩ i):=
 ((((((((((OnlyB.refl B w).set _ _).set _ _).set _ _).set _ _).set _ _).set _ _).set _ _).set _ _).set _ _)
theorem zpv (w:World):Below w.heap.size w w.drew:=⟨rfl,rfl,rfl,Nat.le_refl _,fun _ _=>rfl⟩
theorem PSt.signs {C:PC}{w:World}(h:PFix C w)(hS:SignsAt C.w0):SignsAt w:=hS.kept h.1 (Nat.le_refl _)
theorem zg6 {w w2:World}(hb:Below w.drew.heap.size w.drew w2):Below w.heap.size w w2:=(zpv w).trans hb
def AccIs (C:PC)(n:Nat)(t:Tok)(er rv nv cv:Value)(d:Nat)(w:World)(e:Ending)(w':World):Prop:=
 e=.returned (.tuple #[])/\PB C n t er rv nv cv d w'/\∃w2,Below w.heap.size w w2/\OnlyB C.B w2 w'
theorem zkc (C:PC)(n:Nat)(t:Tok)(er rv nv cv:Value)(d:Nat)(w:World)(t':Tok)(n':Nat)(hB:PB C n t er rv nv cv d w)(hS:SignsAt w)
  (hC:∀W,SignsAt W->Calls Tryz.prog 149 #[.string C.s,.int .i64 (n:Int)] W fun e w'=>e=.returned (.tuple #[.agg #[.int .i64 (t'.kind:Int),.int .i64 (t'.at_:Int),.string (strOf t'.text),.int .u64 (setW (inRs t'.rs) 0),.int .u64 (setW (inRs t'.rs) 1),.int .u64 (setW (inRs t'.rs) 2),.int .u64 (setW (inRs t'.rs) 3)],.int .i64 (n':Int),.nilIface])/\Below W.heap.size W w') :
  Calls Tryz.prog 125 #[.pointer (some ⟨C.B,0,none⟩)] w (AccIs C n' t' .nilIface rv nv cv d w):=by
 have HC:=Lib.hid hC;have HS:Hid (SignsAt w.drew):=Lib.hid hS;have HB:=Lib.hid hB;obtain⟨⟨b0,b1,-⟩,-,bf,bl⟩:=seventeen hB;have HN:=Lib.hid (fun(W:World) (h:Below w.heap.size w W)=>(hB.same h).token n' t' .nilIface);obtain⟨st,hst⟩:∃st,strOf t'.text=st:=⟨_,rfl⟩;obtain⟨x0,hx0⟩:∃y,setW (inRs t'.rs) 0=y:=⟨_,rfl⟩;obtain⟨x1,hx1⟩:∃y,setW (inRs t'.rs) 1=y:=⟨_,rfl⟩;obtain⟨x2,hx2⟩:∃y,setW (inRs t'.rs) 2=y:=⟨_,rfl⟩;obtain⟨x3,hx3⟩:∃y,setW (inRs t'.rs) 3=y:=⟨_,rfl⟩;rw[hst,hx0,hx1,hx2,hx3] at HC HN;clear hB hS hC hst hx0 hx1 hx2 hx3;go_enter Tryz.func125,Tryz.ntmps125
 go_region_with (go_at_call 149;(with_reducible refine(HC.out _ HS.out).mono ?_);rintro e w2 ⟨rfl,hb⟩;obtain⟨⟨d0,d1,d2,d3,d4,d5,d6,d7,d8⟩,⟨d9,-⟩,df,dl⟩:=seventeen ((show Bl w.drew _ _ _ from HB.out).below hb);have HB2:=Lib.hid (zg6 hb);clear hb)
 all_goals
  go_end0
  exact⟨rfl,HN.out _ HB2.out,_,HB2.out,OnlyB.nine⟩
theorem zit (C:PC)(n:Nat)(t:Tok)(er rv nv cv:Value)(d:Nat)(w:World)(t':Tok)(n':Nat)(k:Nat)(hB:PB C n t er rv nv cv d w)(hS:SignsAt w)
  (hC:∀W,SignsAt W->Calls Tryz.prog 149 #[.string C.s,.int .i64 (n:Int)] W fun e w'=>e=.returned (.tuple #[.agg #[.int .i64 (t'.kind:Int),.int .i64 (t'.at_:Int),.string (strOf t'.text),.int .u64 (setW (inRs t'.rs) 0),.int .u64 (setW (inRs t'.rs) 1),.int .u64 (setW (inRs t'.rs) 2),.int .u64 (setW (inRs t'.rs) 3)],.int .i64 (n':Int),(.iface 132 (.agg #[.int .i64 1,.int .i64 (k:Int)]))])/\Below W.heap.size W w') :
  Calls Tryz.prog 125 #[.pointer (some ⟨C.B,0,none⟩)] w (AccIs C n' t' (.iface 132 (.agg #[.int .i64 1,.int .i64 (k:Int)])) rv nv cv d w):=by
 have HC:=Lib.hid hC;have HS:Hid (SignsAt w.drew):=Lib.hid hS;have HB:=Lib.hid hB;obtain⟨⟨b0,b1,-⟩,-,bf,bl⟩:=seventeen hB;have HN:=Lib.hid (fun(W:World) (h:Below w.heap.size w W)=>(hB.same h).token n' t' (.iface 132 (.agg #[.int .i64 1,.int .i64 (k:Int)])));obtain⟨st,hst⟩:∃st,strOf t'.text=st:=⟨_,rfl⟩;obtain⟨x0,hx0⟩:∃y,setW (inRs t'.rs) 0=y:=⟨_,rfl⟩;obtain⟨x1,hx1⟩:∃y,setW (inRs t'.rs) 1=y:=⟨_,rfl⟩;obtain⟨x2,hx2⟩:∃y,setW (inRs t'.rs) 2=y:=⟨_,rfl⟩;obtain⟨x3,hx3⟩:∃y,setW (inRs t'.rs) 3=y:=⟨_,rfl⟩;rw[hst,hx0,hx1,hx2,hx3] at HC HN;clear hB hS hC hst hx0 hx1 hx2 hx3;go_enter Tryz.func125,Tryz.ntmps125
 go_region_with (go_at_call 149;(with_reducible refine(HC.out _ HS.out).mono ?_);rintro e w2 ⟨rfl,hb⟩;obtain⟨⟨d0,d1,d2,d3,d4,d5,d6,d7,d8⟩,⟨d9,-⟩,df,dl⟩:=seventeen ((show Bl w.drew _ _ _ from HB.out).below hb);have HB2:=Lib.hid (zg6 hb);clear hb)
 all_goals
  go_end0
  exact⟨rfl,HN.out _ HB2.out,_,HB2.out,OnlyB.nine⟩
theorem zgw (C:PC)(hSg:SignsAt C.w0)(hs:C.s.size<=1050000)(rs:List (List Nat × Nat × Int))(ts:List Tok)(f:MF)(d:Nat)(qs:List Value)(w:World)(N:Nat)(hP:PSt C rs ts f d qs w)(hk:kd ts≠0)(h1:f.nodes.length<=N)(h2:f.calls.length<=N)(h3:rs.length<=N) :
  Calls Tryz.prog 125 #[.pointer (some ⟨C.B,0,none⟩)] w (Out C N rs d qs w (acc false ts.tail f)):=by
 obtain⟨hF,n,t,rv,nv,cv,hcur,hB,hR⟩:=hP;have hk':t.kind≠0:=by rw[<-hcur.kd];exact hk
 have htl:ts.tail=strm (bts C.s) n:=by rw[hcur.tail hk'];rfl
 have hn:=hcur.2.1;have hS:=PSt.signs hF hSg;rw[htl];cases hx:nextL (bts C.s) n with
 |error k=>
  have hst:=zd0 hx;refine(zit C n t .nilIface rv nv cv d w ⟨0,0,[],[]⟩ 0 k hB hS (fun W hW=>?_)).mono ?_
  ·have:=zis C.s n k W hs hn hW hx
   simp only[zc0];exact this
  ·rintro e w' ⟨rfl,hB',w2,hb,ho⟩
   have hk2:Kq C.w0.heap.size C.B w w':=(Kq.of_below hb).trans ho.kq;have hR2:=(hR.below hb).only (hB.same hb) ho;have ha:acc false (strm (bts C.s) n) f=.bad (strm (bts C.s) n) false:=by
    unfold acc;rw[hst];exact if_pos ⟨rfl,rfl⟩
   rw[ha];refine⟨rfl,hk2,hF.kept hk2,0,rv,nv,cv,f.nodes.length,f.calls.length,rs.length,_,_,_,?_,hR2.1.2.1,hR2.2.1,hR2.2.2.2,h1,h2,h3⟩;rw[hst];exact hB'
 |ok y=>
  obtain⟨t',n'⟩:=y;have hmv:=zbz (bts C.s) n (by rw[zag];exact hn) t' n' hx;rw[zag] at hmv;refine(zkc C n t .nilIface rv nv cv d w t' n' hB hS (fun W hW=>zl5 C.s n t' n' W hs hn hW hx)).mono ?_;rintro e w' ⟨rfl,hB',w2,hb,ho⟩;have hk2:Kq C.w0.heap.size C.B w w':=(Kq.of_below hb).trans ho.kq;have hR2:=(hR.below hb).only (hB.same hb) ho;have hkd:=zgs hx;obtain⟨tl,htl',hcl⟩:∃tl,strm (bts C.s) n=t'::tl/\(t'.kind≠0->tl=strm (bts C.s) n'):=by
   by_cases h0:t'.kind=0
   ·exact⟨[],zcp hx h0,fun h=>absurd h0 h⟩
   ·exact⟨_,zao hx h0 (by
                   rw[zag];rcases hmv with h|h
                   ·exact absurd h.1 h0
                   ·exact h.2),fun _=>rfl⟩
  have ha:acc false (strm (bts C.s) n) f=.ok (strm (bts C.s) n) f:=by
   unfold acc;refine if_neg ?_;rw[htl'];show ¬(_/\t'.kind=99);omega
  rw[ha];refine⟨rfl,hk2,[],?_,fun q h=>nomatch h⟩;rw[List.append_nil];exact⟨hF.kept hk2,n',t',rv,nv,cv,⟨by omega,by omega,tl,htl',hcl⟩,hB',hR2⟩
end
section
open Go.RowKit
theorem PB.grown {C:PC}{n:Nat}{t:Tok}{er rv nv cv:Value}{d:Nat}{w w5:World}{r:Option Nat}(h:PB C n t er rv nv cv d w)(hg:w.grownBy w5 r)(hr:∀g,r=some g->∃c t' fz,w.heap[g]?=some (.cells c t' fz)/\170≠t'):PB C n t er rv nv cv d w5:=Bl.grown h hg hr
def AppIs (C:PC)(o:Nat)(ty:TypeId)(size m:Nat)(v:Value)(cs news:List Value)(w:World)(e:Ending)(w':World):Prop:=
 e=.returned (.tuple #[])/\∃v' w1 w5,w5.ownsRow C.w0.heap.size ty size v' (m+1) (cs++news)/\Below w.heap.size w w1/\w1.grownBy w5 v.ownBlock/\w'=w5.setCell ⟨C.B,o,none⟩ v'
theorem zyh (C:PC)(n:Nat)(t:Tok)(er rv nv cv:Value)(d:Nat)(w:World)(m:Nat)(cs:List Value)(op ru x0 x1 x2 x3:Int)(ka:Option Addr)(kn kc:Nat)(hB:PB C n t er rv nv cv d w)(hO:w.ownsRow C.w0.heap.size 51 7 nv m cs)(hm:m<=1000000000)(hb0:C.w0.heap.size<=w.heap.size) :
  Calls Tryz.prog 185 #[.pointer (some ⟨C.B,0,none⟩),.agg #[.int .i64 op,.slice ka kn kc,.int .i64 ru,.int .u64 x0,.int .u64 x1,.int .u64 x2,.int .u64 x3]] w
   (AppIs C 11 51 7 m nv cs [.int .i64 op,.slice ka kn kc,.int .i64 ru,.int .u64 x0,.int .u64 x1,.int .u64 x2,.int .u64 x3] w):=by
 obtain⟨na,nc,rfl⟩:=zad hO;obtain⟨ie,hie,hze0,hze1,hze2⟩:=info_parts zqq;have HB:=Lib.hid hB;have HO:=Lib.hid hO;obtain⟨-,⟨-,-,b11,-⟩,bf,bl⟩:=seventeen hB;clear hB hO;go_enter Tryz.func185,Tryz.ntmps185;go_wp2
 go_region_law (refine zaw (by rfl) _ _ 23 (by rfl) C.w0.heap.size 51 ie _ 7 72 Tryz.underlying23 hie hze0 hze1 hze2 (by rfl) (by decide) (.slice na m nc) m _ (by simp[Act.eval]) (by refine zaa HO.out ?_;repeat (first|exact Below.refl _ _|refine Below.drew ?_|refine zae ?_ rfl _)) _ 1 1 [.int .i64 op,.slice ka kn kc,.int .i64 ru,.int .u64 x0,.int .u64 x1,.int .u64 x2,.int .u64 x3] (by simp[Act.eval];rfl) (by rfl) (by refine Bl.news (t:=51) ?_;repeat (first|(refine Bl.new' ?_;simp;done)|refine Bl.drew ?_|refine Bl.past ?_)) (by simp[Value.oneCell']) (by unfold maxLen;omega) (by omega) (by simp;omega) ?_;intro a5 c5 w5 hown5 hgrow5 hat5;have hbw5:Hid (Below w.heap.size w ((w.alloc (.cells #[.int .i64 op,.slice ka kn kc,.int .i64 ru,.int .u64 x0,.int .u64 x1,.int .u64 x2,.int .u64 x3] 51)).alloc (.cells #[.int .i64 op,.slice ka kn kc,.int .i64 ru,.int .u64 x0,.int .u64 x1,.int .u64 x2,.int .u64 x3] 51)).drew):=Lib.hid (Below.drew (zae (zae (Below.refl _ _) rfl _) rfl _));have hg5:=(HB.out.same hbw5.out).grown hgrow5 (fun g e=>by obtain⟨c,fz,hc⟩:=Lib.ownsRow_kind (zaa HO.out hbw5.out) g e;exact⟨c,51,fz,hc,by decide⟩);obtain⟨-,⟨-,-,x11,-⟩,xf,xl⟩:=seventeen hg5;have HO5:=Lib.hid hown5;have HG5:=Lib.hid hgrow5;clear hown5 hgrow5 hat5 hg5)
 all_goals
  go_wp2
  go_end0
  exact⟨rfl,_,_,_,HO5.out,hbw5.out,HG5.out,rfl⟩
section
variable {C:PC} {o:Nat} {ty:TypeId} {size m:Nat} {v:Value} {cs news:List Value} {w w':World} {e:Ending}
theorem AppIs.parts (h:AppIs C o ty size m v cs news w e w')(hO:w.ownsRow C.w0.heap.size ty size v m cs)(hty:ty=51∨ty=175){pc:Array Value}(hB:Bl w C.B 170 pc) :
  e=.returned (.tuple #[])/\Kq C.w0.heap.size C.B w w'/\∃v',w'.ownsRow C.w0.heap.size ty size v' (m+1) (cs++news)/\Bl w' C.B 170 (pc.setIfInBounds o v') /\
   ∀(b:Nat) (t:TypeId) (sz n:Nat) (u:Value) (xs:List Value),w.ownsRow b t sz u n xs->t≠ty->t≠170->w'.ownsRow b t sz u n xs:=by
 obtain⟨he,v',w1,w5,h1,h2,h3,rfl⟩:=h;have hO1:=zaa hO h2;have hp:ty≠170:=by rcases hty with rfl|rfl<;>decide
 have kind:∀g,v.ownBlock=some g->∃c fz,w1.heap[g]?=some (.cells c ty fz):=fun g hv=>Lib.ownsRow_kind hO1 g hv
 have hB5:Bl w5 C.B 170 pc:=(Bl.below hB h2).grown h3 (fun g hv=>by
  obtain⟨c,fz,hc⟩:=kind g hv;exact⟨c,ty,fz,hc,Ne.symm hp⟩)
 refine⟨he,((Kq.of_below h2).trans (Kq.grown h3 (fun g hv=>?_))).trans (Kq.set _ _),v',ownsRow_setCell_other h1 (a:=⟨C.B,o,none⟩) (own_ne h1 hB5 hp) v',hB5.put v',fun b t sz n u xs hu ht htp=>?_⟩
 ·obtain⟨c,fz,hc⟩:=kind g hv
  exact⟨(hO1.lt g hv).1,c,ty,fz,hc,hty⟩
 ·have hu5:=zbi (zaa hu h2) h3 kind ht
  exact ownsRow_setCell_other hu5 (a:=⟨C.B,o,none⟩) (own_ne hu5 hB5 htp) v'
end
def ndV (n:PN)(kv:Value):Value:=.agg #[.int .i64 n.op,kv,.int .i64 n.rule,.int .u64 n.s0,.int .u64 n.s1,.int .u64 n.s2,.int .u64 n.s3]
def AddIs (C:PC)(rs:List (List Nat × Nat × Int))(ts:List Tok)(f:MF)(d:Nat)(qs:List Value)(w:World)(e:Ending)(w':World):Prop:=
 e=.returned (.tuple #[])/\Kq C.w0.heap.size C.B w w'/\PSt C rs ts f d qs w'
theorem NRow.snoc {base:Nat}{v v':Value}{ns:List PN}{qs:List Value}{w w':World}{n:PN}{kv:Value}(h:NRow base v ns qs w)(hk:w.ownsRow base 3 1 kv n.kids.length (intsV n.kids))
  (ho:w'.ownsRow base 51 7 v' (ns.length+1) (zci (ns.zip qs)++nodeC (n,kv))) (kp:∀(sz n:Nat) (u:Value) (xs:List Value),w.ownsRow base 3 sz u n xs->w'.ownsRow base 3 sz u n xs):NRow base v' (ns++[n]) (qs++[kv]) w':=by
 refine⟨?_,?_,fun j m q a b=>?_⟩
 ·rw[List.length_append,List.length_append,h.1];rfl
 ·rw[List.zip_append h.1.symm]
  unfold zci at ho ⊢;rw[List.flatMap_append,List.length_append];simpa using ho
 ·rcases Nat.lt_or_ge j ns.length with hj|hj
  ·rw[List.getElem?_append_left hj] at a
   rw[List.getElem?_append_left (by rw[h.1];exact hj)] at b;exact kp _ _ _ _ (h.2.2 j m q a b)
  ·have hje:j=ns.length:=by
    have:=(List.getElem?_eq_some_iff.1 a).1;simp at this;omega
   subst hje;rw[List.getElem?_append_right (Nat.le_refl _),Nat.sub_self] at a;rw[List.getElem?_append_right (by rw[h.1];exact Nat.le_refl _),h.1,Nat.sub_self] at b;obtain rfl:=Option.some.inj a;obtain rfl:=Option.some.inj b;exact kp _ _ _ _ hk
theorem zkd (C:PC)(rs:List (List Nat × Nat × Int))(ts:List Tok)(f:MF)(d:Nat)(qs:List Value)(w:World)(nd:PN)(ka:Option Addr)(kc:Nat)(hP:PSt C rs ts f d qs w)
  (hk:w.ownsRow C.w0.heap.size 3 1 (.slice ka nd.kids.length kc) nd.kids.length (intsV nd.kids)) (hm:f.nodes.length<=1000000000) :
  Calls Tryz.prog 185 #[.pointer (some ⟨C.B,0,none⟩),ndV nd (.slice ka nd.kids.length kc)] w (AddIs C rs ts (addNY f nd) d (qs++[.slice ka nd.kids.length kc]) w):=by
 obtain⟨hF,n,t,rv,nv,cv,hcur,hB,hR⟩:=hP;refine(zyh C n t .nilIface rv nv cv d w f.nodes.length _ nd.op nd.rule nd.s0 nd.s1 nd.s2 nd.s3 ka nd.kids.length kc hB hR.1.2.1 hm hF.1.size).mono fun e w' h=>?_
 obtain⟨he,hK,nv',ho,hB',kp⟩:=h.parts hR.1.2.1 (.inl rfl) hB;exact⟨he,hK,hF.kept hK,n,t,rv,nv',cv,hcur,hB',hR.1.snoc hk ho (fun sz n u xs hu=>kp _ _ sz n u xs hu (by decide) (by decide)),kp _ _ _ _ _ _ hR.2.1 (by decide) (by decide),hR.2.2.1,kp _ _ _ _ _ _ hR.2.2.2 (by decide) (by decide)⟩
def BadIs (C:PC)(a:List Tok)(dp:Bool)(N d:Nat)(w:World)(e:Ending)(w':World):Prop:=e=.returned (.tuple #[])/\Kq C.w0.heap.size C.B w w'/\PBad C (erV a dp) N d w'
theorem zpw (C:PC)(er:Value)(N d:Nat)(w:World)(op ru x0 x1 x2 x3:Int)(ka:Option Addr)(kn kc:Nat)(hP:PBad C er N d w)(hN:N<=1000000000) :
  Calls Tryz.prog 185 #[.pointer (some ⟨C.B,0,none⟩),.agg #[.int .i64 op,.slice ka kn kc,.int .i64 ru,.int .u64 x0,.int .u64 x1,.int .u64 x2,.int .u64 x3]] w fun e w'=>e=.returned (.tuple #[])/\Kq C.w0.heap.size C.B w w'/\PBad C er (N+1) d w':=by
 obtain⟨hF,n,rv,nv,cv,m1,m2,m3,c1,c2,c3,hB,h1,h2,h3,l1,l2,l3⟩:=hP;refine(zyh C n _ er rv nv cv d w m1 c1 op ru x0 x1 x2 x3 ka kn kc hB h1 (by omega) hF.1.size).mono fun e w' h=>?_
 obtain⟨he,hK,nv',ho,hB',kp⟩:=h.parts h1 (.inl rfl) hB;exact⟨he,hK,hF.kept hK,n,rv,nv',cv,m1+1,m2,m3,_,c2,c3,hB',ho,kp _ _ _ _ _ _ h2 (by decide) (by decide),kp _ _ _ _ _ _ h3 (by decide) (by decide),by omega,by omega,by omega⟩
theorem PBad.mono {C:PC}{er:Value}{N N' d:Nat}{w:World}(h:PBad C er N d w)(hN:N<=N'):PBad C er N' d w:=by
 obtain⟨hF,n,rv,nv,cv,m1,m2,m3,c1,c2,c3,hB,h1,h2,h3,l1,l2,l3⟩:=h;exact⟨hF,n,rv,nv,cv,m1,m2,m3,c1,c2,c3,hB,h1,h2,h3,by omega,by omega,by omega⟩
end
section
open Go.RowKit
theorem ze3 (B:Nat)(na:Option Addr)(m nc:Nat)(w:World)(h:w.cell? ⟨B,11,none⟩=some (.slice na m nc))(hm:m<=2000000000) :
  Calls Tryz.prog 163 #[.pointer (some ⟨B,0,none⟩)] w fun e w'=>e=.returned (.int .i64 ((m:Int)-1))/\w=w':=by
 go_enter Tryz.func163,Tryz.ntmps163;go_wp2;go_ret;exact⟨rfl,rfl⟩
def KidIs (B kb k:Nat)(kv:Value)(xs:List Value)(P:World->Prop)(e:Ending)(w':World):Prop:=
 ∃w1 na m nc a' c' o2,P w1/\w1.cell? ⟨B,11,none⟩=some (.slice na m nc)/\e=.returned (.slice a' (k+1) c')/\w'.ownsRow kb 3 1 (.slice a' (k+1) c') (k+1) (xs++[.int .i64 ((m:Int)-1)]) /\
  (w1.alloc o2).grownBy w' kv.ownBlock/\((Value.slice a' (k+1) c').ownBlock=kv.ownBlock∨(Value.slice a' (k+1) c').ownBlock=some (w1.alloc o2).heap.size)
theorem zyi (B kb k:Nat)(ka:Option Addr)(kc:Nat)(xs:List Value)(w:World)(P:World->Prop)
  (hC:Calls Tryz.prog 172 #[.pointer (some ⟨B,0,none⟩)] w fun e w1=>e=.returned (.tuple #[])/\P w1)
  (hP:∀w1,P w1->(∃na m nc,w1.cell? ⟨B,11,none⟩=some (.slice na m nc)/\m<=2000000000)/\w1.ownsRow kb 3 1 (.slice ka k kc) k xs/\kb<=w1.heap.size) (hk:k<=1000000000) :
  Calls Tryz.prog 171 #[.pointer (some ⟨B,0,none⟩),.slice ka k kc,.func (.func 172) #[] #[]] w (KidIs B kb k (.slice ka k kc) xs P):=by
 obtain⟨ii,hii,hzi0,hzi1,hzi2⟩:=info_parts za3;have HC:=Lib.hid hC;have HP:=Lib.hid hP;clear hC hP;go_enter Tryz.func171,Tryz.ntmps171
 go_wp2_with (go_at_call 172;(with_reducible refine HC.out.mono ?_);rintro e w1 ⟨rfl,hp⟩;obtain⟨⟨na,m,nc,h11,hm⟩,hrow,hkb⟩:=HP.out w1 hp;have HR:=Lib.hid hrow;have HPP:=Lib.hid hp;clear hp hrow)
 go_wp2_with (first
  |(go_at_call 163;(with_reducible refine(ze3 B na m nc w1 h11 hm).mono ?_);rintro e w2 ⟨rfl,rfl⟩)
  |(at_builtin;refine wpList_append_own_at _ rfl _ _ 29 rfl kb 3 ii (.int .i64 0) 1 8 Tryz.underlying29 hii hzi0 hzi1 hzi2 rfl (by decide) _ k _ rfl (zaa HR.out (zab _ _)) ⟨w1.heap.size,0,none⟩ 1 1 [.int .i64 ((m:Int)-1)] rfl rfl (zaq _ _ _) (by simp[Value.oneCell']) (by unfold maxLen;omega) (by omega) (by simp;omega) ?_;intro v5 w5 hown' hgrow _ hat;have HO:=Lib.hid hown';have HG:=Lib.hid hgrow;have HAT:=Lib.hid hat;clear hown' hgrow hat))
 go_ret;obtain⟨a5,c5,e5⟩:=zad HO.out;subst e5;exact⟨w1,na,m,nc,a5,c5,_,HPP.out,h11,rfl,HO.out,HG.out,HAT.out⟩
theorem z65 (B kb k:Nat)(ka:Option Addr)(kc:Nat)(xs:List Value)(w:World)(P:World->Prop)
  (hC:Calls Tryz.prog 184 #[.pointer (some ⟨B,0,none⟩)] w fun e w1=>e=.returned (.tuple #[])/\P w1)
  (hP:∀w1,P w1->(∃na m nc,w1.cell? ⟨B,11,none⟩=some (.slice na m nc)/\m<=2000000000)/\w1.ownsRow kb 3 1 (.slice ka k kc) k xs/\kb<=w1.heap.size) (hk:k<=1000000000) :
  Calls Tryz.prog 171 #[.pointer (some ⟨B,0,none⟩),.slice ka k kc,.func (.func 184) #[] #[]] w (KidIs B kb k (.slice ka k kc) xs P):=by
 obtain⟨ii,hii,hzi0,hzi1,hzi2⟩:=info_parts za3;have HC:=Lib.hid hC;have HP:=Lib.hid hP;clear hC hP;go_enter Tryz.func171,Tryz.ntmps171
 go_wp2_with (go_at_call 184;(with_reducible refine HC.out.mono ?_);rintro e w1 ⟨rfl,hp⟩;obtain⟨⟨na,m,nc,h11,hm⟩,hrow,hkb⟩:=HP.out w1 hp;have HR:=Lib.hid hrow;have HPP:=Lib.hid hp;clear hp hrow)
 go_wp2_with (first
  |(go_at_call 163;(with_reducible refine(ze3 B na m nc w1 h11 hm).mono ?_);rintro e w2 ⟨rfl,rfl⟩)
  |(at_builtin;refine wpList_append_own_at _ rfl _ _ 29 rfl kb 3 ii (.int .i64 0) 1 8 Tryz.underlying29 hii hzi0 hzi1 hzi2 rfl (by decide) _ k _ rfl (zaa HR.out (zab _ _)) ⟨w1.heap.size,0,none⟩ 1 1 [.int .i64 ((m:Int)-1)] rfl rfl (zaq _ _ _) (by simp[Value.oneCell']) (by unfold maxLen;omega) (by omega) (by simp;omega) ?_;intro v5 w5 hown' hgrow _ hat;have HO:=Lib.hid hown';have HG:=Lib.hid hgrow;have HAT:=Lib.hid hat;clear hown' hgrow hat))
 go_ret;obtain⟨a5,c5,e5⟩:=zad HO.out;subst e5;exact⟨w1,na,m,nc,a5,c5,_,HPP.out,h11,rfl,HO.out,HG.out,HAT.out⟩
theorem zyj (B kb k:Nat)(ka:Option Addr)(kc:Nat)(xs:List Value)(w:World)(P:World->Prop)
  (hC:Calls Tryz.prog 194 #[.pointer (some ⟨B,0,none⟩)] w fun e w1=>e=.returned (.tuple #[])/\P w1)
  (hP:∀w1,P w1->(∃na m nc,w1.cell? ⟨B,11,none⟩=some (.slice na m nc)/\m<=2000000000)/\w1.ownsRow kb 3 1 (.slice ka k kc) k xs/\kb<=w1.heap.size) (hk:k<=1000000000) :
  Calls Tryz.prog 171 #[.pointer (some ⟨B,0,none⟩),.slice ka k kc,.func (.func 194) #[] #[]] w (KidIs B kb k (.slice ka k kc) xs P):=by
 obtain⟨ii,hii,hzi0,hzi1,hzi2⟩:=info_parts za3;have HC:=Lib.hid hC;have HP:=Lib.hid hP;clear hC hP;go_enter Tryz.func171,Tryz.ntmps171
 go_wp2_with (go_at_call 194;(with_reducible refine HC.out.mono ?_);rintro e w1 ⟨rfl,hp⟩;obtain⟨⟨na,m,nc,h11,hm⟩,hrow,hkb⟩:=HP.out w1 hp;have HR:=Lib.hid hrow;have HPP:=Lib.hid hp;clear hp hrow)
 go_wp2_with (first
  |(go_at_call 163;(with_reducible refine(ze3 B na m nc w1 h11 hm).mono ?_);rintro e w2 ⟨rfl,rfl⟩)
  |(at_builtin;refine wpList_append_own_at _ rfl _ _ 29 rfl kb 3 ii (.int .i64 0) 1 8 Tryz.underlying29 hii hzi0 hzi1 hzi2 rfl (by decide) _ k _ rfl (zaa HR.out (zab _ _)) ⟨w1.heap.size,0,none⟩ 1 1 [.int .i64 ((m:Int)-1)] rfl rfl (zaq _ _ _) (by simp[Value.oneCell']) (by unfold maxLen;omega) (by omega) (by simp;omega) ?_;intro v5 w5 hown' hgrow _ hat;have HO:=Lib.hid hown';have HG:=Lib.hid hgrow;have HAT:=Lib.hid hat;clear hown' hgrow hat))
 go_ret;obtain⟨a5,c5,e5⟩:=zad HO.out;subst e5;exact⟨w1,na,m,nc,a5,c5,_,HPP.out,h11,rfl,HO.out,HG.out,HAT.out⟩
theorem zr8 (B kb k:Nat)(ka:Option Addr)(kc:Nat)(xs:List Value)(w:World)(P:World->Prop)
  (hC:Calls Tryz.prog 197 #[.pointer (some ⟨B,0,none⟩)] w fun e w1=>e=.returned (.tuple #[])/\P w1)
  (hP:∀w1,P w1->(∃na m nc,w1.cell? ⟨B,11,none⟩=some (.slice na m nc)/\m<=2000000000)/\w1.ownsRow kb 3 1 (.slice ka k kc) k xs/\kb<=w1.heap.size) (hk:k<=1000000000) :
  Calls Tryz.prog 171 #[.pointer (some ⟨B,0,none⟩),.slice ka k kc,.func (.func 197) #[] #[]] w (KidIs B kb k (.slice ka k kc) xs P):=by
 obtain⟨ii,hii,hzi0,hzi1,hzi2⟩:=info_parts za3;have HC:=Lib.hid hC;have HP:=Lib.hid hP;clear hC hP;go_enter Tryz.func171,Tryz.ntmps171
 go_wp2_with (go_at_call 197;(with_reducible refine HC.out.mono ?_);rintro e w1 ⟨rfl,hp⟩;obtain⟨⟨na,m,nc,h11,hm⟩,hrow,hkb⟩:=HP.out w1 hp;have HR:=Lib.hid hrow;have HPP:=Lib.hid hp;clear hp hrow)
 go_wp2_with (first
  |(go_at_call 163;(with_reducible refine(ze3 B na m nc w1 h11 hm).mono ?_);rintro e w2 ⟨rfl,rfl⟩)
  |(at_builtin;refine wpList_append_own_at _ rfl _ _ 29 rfl kb 3 ii (.int .i64 0) 1 8 Tryz.underlying29 hii hzi0 hzi1 hzi2 rfl (by decide) _ k _ rfl (zaa HR.out (zab _ _)) ⟨w1.heap.size,0,none⟩ 1 1 [.int .i64 ((m:Int)-1)] rfl rfl (zaq _ _ _) (by simp[Value.oneCell']) (by unfold maxLen;omega) (by omega) (by simp;omega) ?_;intro v5 w5 hown' hgrow _ hat;have HO:=Lib.hid hown';have HG:=Lib.hid hgrow;have HAT:=Lib.hid hat;clear hown' hgrow hat))
 go_ret;obtain⟨a5,c5,e5⟩:=zad HO.out;subst e5;exact⟨w1,na,m,nc,a5,c5,_,HPP.out,h11,rfl,HO.out,HG.out,HAT.out⟩
end
section
open Go.RowKit
theorem znx (k:Nat):setW (inRs []) k=0:=zc0 k
theorem PB.zero {C:PC}{n:Nat}{er rv nv cv:Value}{d:Nat}{w:World}
  (h:Bl w C.B 170 #[.string C.s,.int .i64 (n:Int),.int .i64 0,.int .i64 0,.string ⟨#[]⟩,.int .u64 0,.int .u64 0,.int .u64 0,.int .u64 0,er,rv,nv,cv,.bool C.nm,.int .i64 (d:Int),.map (some C.mp),.map (some C.ms)]):PB C n ⟨0,0,[],[]⟩ er rv nv cv d w:=by
 unfold PB;simp only[znx];exact h
theorem PB.unzero {C:PC}{n:Nat}{er rv nv cv:Value}{d:Nat}{w:World}(h:PB C n ⟨0,0,[],[]⟩ er rv nv cv d w) :
  Bl w C.B 170 #[.string C.s,.int .i64 (n:Int),.int .i64 0,.int .i64 0,.string ⟨#[]⟩,.int .u64 0,.int .u64 0,.int .u64 0,.int .u64 0,er,rv,nv,cv,.bool C.nm,.int .i64 (d:Int),.map (some C.mp),.map (some C.ms)]:=by
 unfold PB at h;simp only[znx] at h;exact h
theorem OnlyB.eight {B:Nat}{w:World}{a b c d e f g h:Value}:OnlyB B w ((((((((w.setCell ⟨B,9,none⟩ a).setCell ⟨B,2,none⟩ b).setCell ⟨B,3,none⟩ c).setCell ⟨B,4,none⟩ d).setCell ⟨B,5,none⟩ e).setCell ⟨B,6,none⟩ f).setCell ⟨B,7,none⟩ g).setCell ⟨B,8,none⟩ h):=
 (((((((((OnlyB.refl B w).set _ _).set _ _).set _ _).set _ _).set _ _).set _ _).set _ _).set _ _)
theorem OnlyB.seven {B:Nat}{w:World}{b c d e f g h:Value}:OnlyB B w (((((((w.setCell ⟨B,2,none⟩ b).setCell ⟨B,3,none⟩ c).setCell ⟨B,4,none⟩ d).setCell ⟨B,5,none⟩ e).setCell ⟨B,6,none⟩ f).setCell ⟨B,7,none⟩ g).setCell ⟨B,8,none⟩ h):=
 ((((((((OnlyB.refl B w).set _ _).set _ _).set _ _).set _ _).set _ _).set _ _).set _ _)
theorem z2c (C:PC)(n:Nat)(t:Tok)(rv nv cv:Value)(d:Nat)(w:World)(c:Int)(hB:PB C n t .nilIface rv nv cv d w) :
  Calls Tryz.prog 161 #[.pointer (some ⟨C.B,0,none⟩),.int .i64 c] w fun e w'=>e=.returned (.tuple #[])/\OnlyB C.B w w'/\PB C n ⟨0,0,[],[]⟩ (.iface 132 (.agg #[.int .i64 c,.int .i64 (t.at_:Int)])) rv nv cv d w':=by
 obtain⟨⟨b0,b1,b2,b3,b4,b5,b6,b7,b8⟩,⟨b9,-⟩,bf,bl⟩:=seventeen hB;have HN:=Lib.hid (PB.zero (C:=C) (put8 (put7 (put6 (put5 (put4 (put3 (put2 (put9 hB (.iface 132 (.agg #[.int .i64 c,.int .i64 (t.at_:Int)]))) (.int .i64 0)) (.int .i64 0)) (.string ⟨#[]⟩)) (.int .u64 0)) (.int .u64 0)) (.int .u64 0)) (.int .u64 0)));clear hB;go_enter Tryz.func161,Tryz.ntmps161
 go_wp2_with (go_at_call 53;(with_reducible refine(zvh _ _ _).mono ?_);rintro e w' ⟨rfl,hw⟩;obtain rfl:=hw.symm;clear hw)
 go_end0
 exact⟨rfl,OnlyB.eight,HN.out⟩
theorem zyk (C:PC)(n:Nat)(T:TypeId)(x:Value)(rv nv cv:Value)(d:Nat)(w:World)(c:Int)(hB:PB C n ⟨0,0,[],[]⟩ (.iface T x) rv nv cv d w) :
  Calls Tryz.prog 161 #[.pointer (some ⟨C.B,0,none⟩),.int .i64 c] w fun e w'=>e=.returned (.tuple #[])/\OnlyB C.B w w'/\PB C n ⟨0,0,[],[]⟩ (.iface T x) rv nv cv d w':=by
 have hB:=hB.unzero;obtain⟨⟨b0,b1,b2,b3,b4,b5,b6,b7,b8⟩,⟨b9,-⟩,bf,bl⟩:=seventeen hB;have HN:=Lib.hid (PB.zero (C:=C) (put8 (put7 (put6 (put5 (put4 (put3 (put2 hB (.int .i64 0)) (.int .i64 0)) (.string ⟨#[]⟩)) (.int .u64 0)) (.int .u64 0)) (.int .u64 0)) (.int .u64 0)));clear hB;go_enter Tryz.func161,Tryz.ntmps161;go_wp2
 go_end0
 exact⟨rfl,OnlyB.seven,HN.out⟩
theorem zpx (C:PC)(rs:List (List Nat × Nat × Int))(ts:List Tok)(f:MF)(d:Nat)(qs:List Value)(w:World)(N:Nat)(dp:Bool)(hP:PSt C rs ts f d qs w)(h1:f.nodes.length<=N)(h2:f.calls.length<=N)(h3:rs.length<=N) :
  Calls Tryz.prog 161 #[.pointer (some ⟨C.B,0,none⟩),.int .i64 (if dp then 5 else 1)] w (Out C N rs d qs w (.bad ts dp)):=by
 obtain⟨hF,n,t,rv,nv,cv,hcur,hB,hR⟩:=hP;refine(z2c C n t rv nv cv d w _ hB).mono ?_;rintro e w' ⟨rfl,ho,hB'⟩;have hR2:=hR.only hB ho;refine⟨rfl,ho.kq,hF.kept ho.kq,n,rv,nv,cv,f.nodes.length,f.calls.length,rs.length,_,_,_,?_,hR2.1.2.1,hR2.2.1,hR2.2.2.2,h1,h2,h3⟩;obtain⟨-,-,tl,rfl,-⟩:=hcur;exact hB'
theorem zr9 (C:PC)(a:List Tok)(dp:Bool)(N d:Nat)(w:World)(c:Int)(hP:PBad C (erV a dp) N d w) :
  Calls Tryz.prog 161 #[.pointer (some ⟨C.B,0,none⟩),.int .i64 c] w (BadIs C a dp N d w):=by
 obtain⟨hF,n,rv,nv,cv,m1,m2,m3,c1,c2,c3,hB,h1,h2,h3,l1,l2,l3⟩:=hP;refine(zyk C n _ _ rv nv cv d w c hB).mono ?_;rintro e w' ⟨rfl,ho,hB'⟩;exact⟨rfl,ho.kq,hF.kept ho.kq,n,rv,nv,cv,m1,m2,m3,_,_,_,hB',ho.row h1 (own_ne h1 hB (by decide)),ho.row h2 (own_ne h2 hB (by decide)),ho.row h3 (own_ne h3 hB (by decide)),l1,l2,l3⟩
def expL (k:Nat)(ts:List Tok)(f:MF):PO:=if kd ts=k then acc false ts.tail f else .bad ts false
theorem z38 (C:PC)(hSg:SignsAt C.w0)(hs:C.s.size<=1050000)(rs:List (List Nat × Nat × Int))(ts:List Tok)(f:MF)(d:Nat)(qs:List Value)(w:World)(N:Nat)(k:Nat)(hk0:k≠0)(hP:PSt C rs ts f d qs w)(h1:f.nodes.length<=N)(h2:f.calls.length<=N)(h3:rs.length<=N) :
  Calls Tryz.prog 150 #[.pointer (some ⟨C.B,0,none⟩),.int .i64 (k:Int)] w (Out C N rs d qs w (expL k ts f)):=by
 have hP':=hP;obtain⟨-,n,t,rv,nv,cv,hcur,hB,-⟩:=hP';obtain⟨⟨-,-,b2,-⟩,-,-,-⟩:=seventeen hB;have hkd:=hcur.kd;by_cases hk:kd ts=k
 ·have hC:=Lib.hid (zgw C hSg hs rs ts f d qs w N hP (by omega) h1 h2 h3)
  have he:expL k ts f=acc false ts.tail f:=if_pos hk;rw[he];obtain rfl:t.kind=k:=by rw[<-hkd];exact hk
  have e1:((t.kind:Int) != (t.kind:Int))=false:=by simp
  clear hP hcur hB hk he hkd h1 h2 h3 hSg;go_enter Tryz.func150,Tryz.ntmps150
  go_wp2_with (go_at_call 125;(with_reducible refine hC.out.mono ?_);rintro e w' h;have h1:=h.1;subst h1;have HO:=Lib.hid h;clear h)
  go_end0
  exact HO.out
 ·have hC:=Lib.hid (zpx C rs ts f d qs w N false hP h1 h2 h3)
  have he:expL k ts f=.bad ts false:=if_neg hk;rw[he];have e1:((t.kind:Int) != (k:Int))=true:=by
   rw[bne_iff_ne];omega
  clear hP hcur hB hk he hkd h1 h2 h3 hSg;go_enter Tryz.func150,Tryz.ntmps150
  go_wp2_with (go_at_call 161;(refine hC.out.mono ?_);rintro e w' h;have h1:=h.1;subst h1;have HO:=Lib.hid h;clear h)
  go_end0
  exact HO.out
theorem zyl (C:PC)(a:List Tok)(dp:Bool)(N d:Nat)(w:World)(k:Nat)(hk0:k≠0)(hP:PBad C (erV a dp) N d w) :
  Calls Tryz.prog 150 #[.pointer (some ⟨C.B,0,none⟩),.int .i64 (k:Int)] w (BadIs C a dp N d w):=by
 have hC:=Lib.hid (zr9 C a dp N d w 1 hP);obtain⟨-,n,rv,nv,cv,m1,m2,m3,c1,c2,c3,hB,-⟩:=hP;obtain⟨⟨-,-,b2,-⟩,-,-,-⟩:=seventeen hB.unzero;have e1:((0:Int) != (k:Int))=true:=by
  rw[bne_iff_ne];omega
 clear hB hk0;go_enter Tryz.func150,Tryz.ntmps150
 go_wp2_with (go_at_call 161;(refine hC.out.mono ?_);rintro e w' h;have h1:=h.1;subst h1;have HO:=Lib.hid h;clear h)
 go_end0
 exact HO.out
end
end Go.Proofs.YthhppmehhdlmnaaGreatDoor
