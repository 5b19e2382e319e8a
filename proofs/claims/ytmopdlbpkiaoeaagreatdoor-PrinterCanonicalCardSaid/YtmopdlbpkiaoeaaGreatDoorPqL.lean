/- The parser in memory, what a call of its methods leaves as it was; accept. The parser: add, the append of a rule and of a call. The parser: last, fail, expect,  -/
import Derived.Deep.RegionWith
import Derived.Laws.EntriesVeiled
import Derived.Test.YtmopdlbpkiaoeaaGreatDoorPqD
import Derived.Test.YtmopdlbpkiaoeaaGreatDoorPqK
set_option maxRecDepth 100000
set_option maxHeartbeats 4000000
open Go.IntKind renaming i64->jd, u64->jg
open Go.Value renaming int->je, slice->jf, string->jh, pointer->jj, tuple->jk
namespace Go.Proofs.YtmopdlbpkiaoeaaGreatDoor
open _root_.Array renaming getElem?_eq_some_iff->qbd
open Go.Lib renaming hid->qaa, ownsRow_kind->qb5
open Go.Proofs.Tryz renaming ntmps117->qf9, prog->qab, underlying52->qcb
open List renaming getElem?_append_left->qb4, getElem?_append_right->qbg, length_append->qad
open Nat renaming le_refl->qac, le_trans->qal, lt_of_lt_of_le->qaz, sub_self->qb8
open Option.some renaming inj->qar
variable {cs:Array Value}{qs:List Value}{B b base d n:Nat}{r:Option Nat}{t:TypeId}{c cv e er f g h nv rv v:Value}{W w w':World}
section
open Go.RowKit
theorem Bl.put {i:Nat}(h:Bl w b t cs)(v:Value):Bl (w.setCell ⟨b,i,none⟩ v) b t (cs.setIfInBounds i v):=heap_setCell_same w b i _ _ v h
structure PC where
 w0:World
 s:ByteArray
 nm:Bool
 B:Nat
 mp:Nat
 ms:Nat
 rv:Value
def preO:Obj:=.map #[⟨je jd 4,je jd 8,0⟩,⟨je jd 5,je jd 9,1⟩] 2
def sufO:Obj:=.map #[⟨je jd 6,je jd 7,0⟩,⟨je jd 7,je jd 5,1⟩,⟨je jd 8,je jd 6,2⟩] 3
def PB (C:PC)(n:Nat)(t:Tok)(er rv nv cv:Value)(d:Nat)(w:World):Prop:=
 Bl w C.B 120 #[jh C.s,je jd (n:Int),je jd (t.kind:Int),je jd (t.at_:Int),jh (strOf t.text),je jg (setW (inRs t.rs) 0),je jg (setW (inRs t.rs) 1),je jg (setW (inRs t.rs) 2),je jg (setW (inRs t.rs) 3),
  er,rv,nv,cv,.bool C.nm,je jd (d:Int),.map (some C.mp),.map (some C.ms)]
structure Kq (base B:Nat) (w w':World):Prop where
 os:w'.os=w.os
 tape:w'.tape=w.tape
 output:w'.output=w.output
 size:w.heap.size<=w'.heap.size
 block:∀k,k<w.heap.size->k≠B->(k<base∨∀c t fz,w.heap[k]?=some (.cells c t fz)->t≠54/\t≠66)->w'.heap[k]?=w.heap[k]?
section
variable {base B:Nat} {w w1 w2 w':World}
theorem Kq.refl (w:World):Kq base B w w:=⟨rfl,rfl,rfl,qac _,fun _ _ _ _=>rfl⟩
theorem Kq.trans (h:Kq base B w w1)(k:Kq base B w1 w2):Kq base B w w2:=
 ⟨k.os.trans h.os,k.tape.trans h.tape,k.output.trans h.output,qal h.size k.size,fun i hi hx hc=>by
  have e:=h.block i hi hx hc;rw[k.block i (qaz hi h.size) hx (by rw[e];exact hc),e]⟩
theorem Kq.of_below (h:Below w.heap.size w w'):Kq base B w w':=⟨h.os,h.tape,h.output,h.size,fun k hk _ _=>h.block k hk⟩
theorem Kq.below (h:Kq base B w w')(hB:base<=B)(hb:base<=w.heap.size):Below base w w':=⟨h.os,h.tape,h.output,h.size,fun k hk=>h.block k U U (.inl hk)⟩
theorem Kq.set (o:Nat)(v:Value):Kq base B w (w.setCell ⟨B,o,none⟩ v):=⟨rfl,rfl,rfl,by simp[World.setCell],fun _ _ hk _=>heap_setCell_other _ _ _ _ hk⟩
theorem Kq.grown (hg:w.grownBy w' r)(hr:∀g,r=some g->base<=g/\∃c t fz,w.heap[g]?=some (.cells c t fz)/\(t=54∨t=66)):Kq base B w w':=
 ⟨hg.os,hg.tape,hg.output,hg.size,fun k hk _ hc=>hg.block k hk (by
  intro e;obtain⟨h1,c,t,fz,h2,h3⟩:=hr k e.symm;rcases hc with hc|hc
  ·omega
  ·have:=hc _ _ _ h2
   rcases h3 with h3|h3
   ·exact this.1 h3
   ·exact this.2 h3)⟩
theorem Kq.own (h:Kq base B w w'){b':Nat}{e:TypeId}{size:Nat}{xs:List Value}(hv:w.ownsRow b' e size v n xs)(h1:e≠54/\e≠66)(hx:v.ownBlock≠some B):w'.ownsRow b' e size v n xs:=by
 obtain⟨hl,hv⟩:=hv;refine⟨hl,?_⟩;rcases hv with hv|⟨g,cap,cur,rfl,hb,hh,hr⟩
 ·exact .inl hv
 ·refine .inr ⟨g,cap,cur,rfl,hb,?_,hr⟩
  rw[h.block g (qbd.1 hh).1 (fun e=>hx (by rw[e];rfl)) (.inr fun c t fz hc=>by
   rw[hh] at hc;injection hc with hc;injection hc with _ hc _;subst hc;exact h1)]
  exact hh
theorem Kq.bl (h:Kq base B w w')(hv:Bl w b t cs)(hx:b≠B)(ht:t≠54/\t≠66):Bl w' b t cs:=by
 unfold Bl;rw[h.block b hv.lt hx (.inr fun c t fz hc=>by
  unfold Bl at hv;rw[hv] at hc;injection hc with hc;injection hc with _ hc _;subst hc;exact ht)]
 exact hv
theorem Kq.obj (h:Kq base B w w'){o:Obj}(hv:w.heap[b]?=some o)(hx:b≠B)(ho:∀c t fz,o≠.cells c t fz):w'.heap[b]?=some o:=by
 rw[h.block b (qbd.1 hv).1 hx (.inr fun c t fz hc=>by
  rw[hv] at hc;exact absurd (qar hc) (ho c t fz))]
 exact hv
theorem Kq.late {W':World}(h:Kq base B w W)(hg:W.grownBy W' r)(hr:∀g,r=some g->w.heap.size<=g):Kq base B w W':=
 ⟨hg.os.trans h.os,hg.tape.trans h.tape,hg.output.trans h.output,qal h.size hg.size,fun k hk hx hc=>by
  rw[hg.block k (qaz hk h.size) (fun e=>by have:=hr k e.symm;omega)];exact h.block k hk hx hc⟩
end
def Cur (s:ByteArray)(ts:List Tok)(t:Tok)(n:Nat):Prop:=t.kind≠99/\n<=s.size/\∃tl,ts=t::tl/\(t.kind≠0->tl=strm (bts s) n)
theorem Cur.kd {s:ByteArray}{ts:List Tok}{t:Tok}(h:Cur s ts t n):kd ts=t.kind:=by obtain⟨-,-,tl,rfl,-⟩:=h;rfl
theorem Cur.tail {s:ByteArray}{ts:List Tok}{t:Tok}(h:Cur s ts t n)(h0:t.kind≠0):ts=t::strm (bts s) n:=by obtain⟨-,-,tl,rfl,e⟩:=h;rw[e h0]
def PFix (C:PC)(w:World):Prop:=Below C.w0.heap.size C.w0 w/\C.w0.heap.size<=C.B/\C.B≠C.mp/\C.B≠C.ms/\w.heap[C.mp]?=some preO/\w.heap[C.ms]?=some sufO
theorem PFix.kept {C:PC}(h:PFix C w)(k:Kq C.w0.heap.size C.B w w'):PFix C w':=by
 obtain⟨h1,h2,h3,h4,h5,h6⟩:=h;exact⟨h1.trans (k.below h2 h1.size),h2,h3,h4,k.obj h5 (Ne.symm h3) (fun _ _ _=>by unfold preO;exact fun e=>by injection e),k.obj h6 (Ne.symm h4) (fun _ _ _=>by unfold sufO;exact fun e=>by injection e)⟩
def RRow (C:PC)(rs:List (List Nat × Nat × Int))(rv:Value)(w:World):Prop:=rv=C.rv/\w.ownsRow C.w0.heap.size 123 3 rv rs.length (defsC rs)
def PRows (C:PC)(rs:List (List Nat × Nat × Int))(f:MF)(qs:List Value)(rv nv cv:Value)(w:World):Prop:=
 NRow C.w0.heap.size nv f.nodes qs w/\w.ownsRow C.w0.heap.size 66 2 cv f.calls.length (zcw f.calls)/\RRow C rs rv w
def PSt (C:PC)(rs:List (List Nat × Nat × Int))(ts:List Tok)(f:MF)(d:Nat)(qs:List Value)(w:World):Prop:=
 PFix C w/\∃n t rv nv cv,Cur C.s ts t n/\PB C n t .nilIface rv nv cv d w/\PRows C rs f qs rv nv cv w
def PBad (C:PC)(er:Value)(N:Nat)(d:Nat)(w:World):Prop:=
 PFix C w/\∃n rv nv cv m1 m2 m3 c1 c2 c3,PB C n ⟨0,0,[],[]⟩ er rv nv cv d w/\w.ownsRow C.w0.heap.size 54 7 nv m1 c1/\w.ownsRow C.w0.heap.size 66 2 cv m2 c2/\w.ownsRow C.w0.heap.size 123 3 rv m3 c3/\m1<=N/\m2<=N/\m3<=N
def erV (a:List Tok)(deep:Bool):Value:=.iface 160 (.agg #[je jd (if deep then 5 else 1),je jd (match a with | []=>0|t::_=>(t.at_:Int))])
def Out (C:PC)(N:Nat)(rs:List (List Nat × Nat × Int))(d:Nat)(qs:List Value)(w:World)(o:PO)(e:Ending)(w':World):Prop:=
 e=.returned (jk #[])/\Kq C.w0.heap.size C.B w w'/\match o with
 |.ok a g=>∃tq,PSt C rs a g d (qs++tq) w'/\∀q,q ∈ tq->∀b,q.ownBlock=some b->w.heap.size<=b
 |.bad a dp=>PBad C (erV a dp) N d w'
theorem seventeen {c0 c1 c2 c3 c4 c5 c6 c7 c8 c9 c10 c11 c12 c13 c14 c15 c16:Value}(h:Bl w B t #[c0,c1,c2,c3,c4,c5,c6,c7,c8,c9,c10,c11,c12,c13,c14,c15,c16]) :
  (w.cell? ⟨B,0,none⟩=some c0/\w.cell? ⟨B,1,none⟩=some c1/\w.cell? ⟨B,2,none⟩=some c2/\w.cell? ⟨B,3,none⟩=some c3/\w.cell? ⟨B,4,none⟩=some c4/\w.cell? ⟨B,5,none⟩=some c5/\w.cell? ⟨B,6,none⟩=some c6/\w.cell? ⟨B,7,none⟩=some c7/\w.cell? ⟨B,8,none⟩=some c8) /\
  (w.cell? ⟨B,9,none⟩=some c9/\w.cell? ⟨B,10,none⟩=some c10/\w.cell? ⟨B,11,none⟩=some c11/\w.cell? ⟨B,12,none⟩=some c12/\w.cell? ⟨B,13,none⟩=some c13/\w.cell? ⟨B,14,none⟩=some c14/\w.cell? ⟨B,15,none⟩=some c15/\w.cell? ⟨B,16,none⟩=some c16)/\(∀o,w.frozen? ⟨B,o,none⟩=false)/\B<w.heap.size:=
 ⟨⟨h.cell rfl,h.cell rfl,h.cell rfl,h.cell rfl,h.cell rfl,h.cell rfl,h.cell rfl,h.cell rfl,h.cell rfl⟩,⟨h.cell rfl,h.cell rfl,h.cell rfl,h.cell rfl,h.cell rfl,h.cell rfl,h.cell rfl,h.cell rfl⟩,h.free,h.lt⟩
section
variable {w:World} {B:Nat} {t:TypeId} {c0 c1 c2 c3 c4 c5 c6 c7 c8 c9 c10 c11 c12 c13 c14 c15 c16:Value}
theorem put1 (h:Bl w B t #[c0,c1,c2,c3,c4,c5,c6,c7,c8,c9,c10,c11,c12,c13,c14,c15,c16])(v:Value):Bl (w.setCell ⟨B,1,none⟩ v) B t #[c0,v,c2,c3,c4,c5,c6,c7,c8,c9,c10,c11,c12,c13,c14,c15,c16]:=Bl.put h v
theorem put2 (h:Bl w B t #[c0,c1,c2,c3,c4,c5,c6,c7,c8,c9,c10,c11,c12,c13,c14,c15,c16])(v:Value):Bl (w.setCell ⟨B,2,none⟩ v) B t #[c0,c1,v,c3,c4,c5,c6,c7,c8,c9,c10,c11,c12,c13,c14,c15,c16]:=Bl.put h v
theorem put3 (h:Bl w B t #[c0,c1,c2,c3,c4,c5,c6,c7,c8,c9,c10,c11,c12,c13,c14,c15,c16])(v:Value):Bl (w.setCell ⟨B,3,none⟩ v) B t #[c0,c1,c2,v,c4,c5,c6,c7,c8,c9,c10,c11,c12,c13,c14,c15,c16]:=Bl.put h v
theorem put4 (h:Bl w B t #[c0,c1,c2,c3,c4,c5,c6,c7,c8,c9,c10,c11,c12,c13,c14,c15,c16])(v:Value):Bl (w.setCell ⟨B,4,none⟩ v) B t #[c0,c1,c2,c3,v,c5,c6,c7,c8,c9,c10,c11,c12,c13,c14,c15,c16]:=Bl.put h v
theorem put5 (h:Bl w B t #[c0,c1,c2,c3,c4,c5,c6,c7,c8,c9,c10,c11,c12,c13,c14,c15,c16])(v:Value):Bl (w.setCell ⟨B,5,none⟩ v) B t #[c0,c1,c2,c3,c4,v,c6,c7,c8,c9,c10,c11,c12,c13,c14,c15,c16]:=Bl.put h v
theorem put6 (h:Bl w B t #[c0,c1,c2,c3,c4,c5,c6,c7,c8,c9,c10,c11,c12,c13,c14,c15,c16])(v:Value):Bl (w.setCell ⟨B,6,none⟩ v) B t #[c0,c1,c2,c3,c4,c5,v,c7,c8,c9,c10,c11,c12,c13,c14,c15,c16]:=Bl.put h v
theorem put7 (h:Bl w B t #[c0,c1,c2,c3,c4,c5,c6,c7,c8,c9,c10,c11,c12,c13,c14,c15,c16])(v:Value):Bl (w.setCell ⟨B,7,none⟩ v) B t #[c0,c1,c2,c3,c4,c5,c6,v,c8,c9,c10,c11,c12,c13,c14,c15,c16]:=Bl.put h v
theorem put8 (h:Bl w B t #[c0,c1,c2,c3,c4,c5,c6,c7,c8,c9,c10,c11,c12,c13,c14,c15,c16])(v:Value):Bl (w.setCell ⟨B,8,none⟩ v) B t #[c0,c1,c2,c3,c4,c5,c6,c7,v,c9,c10,c11,c12,c13,c14,c15,c16]:=Bl.put h v
theorem put9 (h:Bl w B t #[c0,c1,c2,c3,c4,c5,c6,c7,c8,c9,c10,c11,c12,c13,c14,c15,c16])(v:Value):Bl (w.setCell ⟨B,9,none⟩ v) B t #[c0,c1,c2,c3,c4,c5,c6,c7,c8,v,c10,c11,c12,c13,c14,c15,c16]:=Bl.put h v
theorem put13 (h:Bl w B t #[c0,c1,c2,c3,c4,c5,c6,c7,c8,c9,c10,c11,c12,c13,c14,c15,c16])(v:Value):Bl (w.setCell ⟨B,13,none⟩ v) B t #[c0,c1,c2,c3,c4,c5,c6,c7,c8,c9,c10,c11,c12,v,c14,c15,c16]:=Bl.put h v
theorem put14 (h:Bl w B t #[c0,c1,c2,c3,c4,c5,c6,c7,c8,c9,c10,c11,c12,c13,c14,c15,c16])(v:Value):Bl (w.setCell ⟨B,14,none⟩ v) B t #[c0,c1,c2,c3,c4,c5,c6,c7,c8,c9,c10,c11,c12,c13,v,c15,c16]:=Bl.put h v
end
theorem PB.same {C:PC}{t:Tok}(h:PB C n t er rv nv cv d w)(hb:Below w.heap.size w w'):PB C n t er rv nv cv d w':=Bl.below h hb
theorem PB.token {C:PC}{t:Tok}(h:PB C n t er rv nv cv d w)(n':Nat)(t':Tok)(er':Value) :
  PB C n' t' er' rv nv cv d (((((((((w.setCell ⟨C.B,2,none⟩ (je jd (t'.kind:Int))).setCell ⟨C.B,3,none⟩ (je jd (t'.at_:Int))).setCell ⟨C.B,4,none⟩ (jh (strOf t'.text))).setCell ⟨C.B,5,none⟩ (je jg (setW (inRs t'.rs) 0))).setCell ⟨C.B,6,none⟩ (je jg (setW (inRs t'.rs) 1))).setCell ⟨C.B,7,none⟩ (je jg (setW (inRs t'.rs) 2))).setCell ⟨C.B,8,none⟩ (je jg (setW (inRs t'.rs) 3))).setCell ⟨C.B,1,none⟩ (je jd (n':Int))).setCell ⟨C.B,9,none⟩ er'):=
 put9 (put1 (put8 (put7 (put6 (put5 (put4 (put3 (put2 h _) _) _) _) _) _) _) _) _
structure OnlyB (B:Nat) (w w':World):Prop where
 os:w'.os=w.os
 tape:w'.tape=w.tape
 output:w'.output=w.output
 size:w'.heap.size=w.heap.size
 block:∀k,k≠B->w'.heap[k]?=w.heap[k]?
theorem OnlyB.set {w2:World}(h:OnlyB B w w2)(o:Nat)(v:Value):OnlyB B w (w2.setCell ⟨B,o,none⟩ v):=
 ⟨h.os,h.tape,h.output,by rw[<-h.size];simp[World.setCell],fun k hk=>by rw[heap_setCell_other _ _ _ _ hk];exact h.block k hk⟩
theorem OnlyB.refl (B:Nat)(w:World):OnlyB B w w:=⟨rfl,rfl,rfl,rfl,fun _ _=>rfl⟩
theorem OnlyB.kq (h:OnlyB B w w'):Kq base B w w':=⟨h.os,h.tape,h.output,Nat.le_of_eq h.size.symm,fun k _ hk _=>h.block k hk⟩
theorem OnlyB.row (h:OnlyB B w w'){e:TypeId}{size:Nat}{xs:List Value}(hv:w.ownsRow base e size v n xs)(hx:v.ownBlock≠some B):w'.ownsRow base e size v n xs:=by
 obtain⟨hl,hv⟩:=hv;refine⟨hl,?_⟩;rcases hv with hv|⟨g,cap,cur,rfl,hb,hh,hr⟩
 ·exact .inl hv
 ·exact .inr ⟨g,cap,cur,rfl,hb,by rw[h.block g (fun e=>hx (by rw[e];rfl))];exact hh,hr⟩
theorem PRows.only {C:PC}{rs:List (List Nat × Nat × Int)}{f:MF}(h:PRows C rs f qs rv nv cv w)(hB:Bl w C.B 120 cs)(k:OnlyB C.B w w'):PRows C rs f qs rv nv cv w':=
 ⟨⟨h.1.1,k.row h.1.2.1 (zaq h.1.2.1 hB ja),fun j n q a b=>k.row (h.1.2.2 j n q a b) (zaq (h.1.2.2 j n q a b) hB ja)⟩,k.row h.2.1 (zaq h.2.1 hB ja),h.2.2.1,k.row h.2.2.2 (zaq h.2.2.2 hB ja)⟩
theorem PRows.below {C:PC}{rs:List (List Nat × Nat × Int)}{f:MF}(h:PRows C rs f qs rv nv cv w)(hb:Below w.heap.size w w'):PRows C rs f qs rv nv cv w':=
 ⟨h.1.grown hb,zab h.2.1 hb,h.2.2.1,zab h.2.2.2 hb⟩
theorem OnlyB.nine {a b d i:Value}:OnlyB B w (((((((((w.setCell ⟨B,2,none⟩ a).setCell ⟨B,3,none⟩ b).setCell ⟨B,4,none⟩ c).setCell ⟨B,5,none⟩ d).setCell ⟨B,6,none⟩ e).setCell ⟨B,7,none⟩ f).setCell ⟨B,8,none⟩ g).setCell ⟨B,1,none⟩ h).setCell ⟨B,9,none⟩ i):=
 ((((((((((OnlyB.refl B w).set _ _).set _ _).set _ _).set _ _).set _ _).set _ _).set _ _).set _ _).set _ _)
theorem zcz (w:World):Below w.heap.size w w.drew:=⟨rfl,rfl,rfl,qac _,fun _ _=>rfl⟩
theorem PSt.signs {C:PC}(h:PFix C w)(hS:SignsAt C.w0):SignsAt w:=hS.kept h.1 (qac _)
theorem zhv {w2:World}(hb:Below w.drew.heap.size w.drew w2):Below w.heap.size w w2:=(zcz w).trans hb
def AccIs (C:PC)(n:Nat)(t:Tok)(er rv nv cv:Value)(d:Nat)(w:World)(e:Ending)(w':World):Prop:=
 e=.returned (jk #[])/\PB C n t er rv nv cv d w'/\∃w2,Below w.heap.size w w2/\OnlyB C.B w2 w'
theorem zku (C:PC)(n:Nat)(t:Tok)(er rv nv cv:Value)(d:Nat)(w:World)(t':Tok)(n':Nat)(hB:PB C n t er rv nv cv d w)(hS:SignsAt w)
  (hC:∀W,SignsAt W->Calls qab 44 #[jh C.s,je jd (n:Int)] W fun e w'=>e=.returned (jk #[.agg #[je jd (t'.kind:Int),je jd (t'.at_:Int),jh (strOf t'.text),je jg (setW (inRs t'.rs) 0),je jg (setW (inRs t'.rs) 1),je jg (setW (inRs t'.rs) 2),je jg (setW (inRs t'.rs) 3)],je jd (n':Int),.nilIface])/\Below W.heap.size W w') :
  Calls qab 70 #[jj (some ⟨C.B,0,none⟩)] w (AccIs C n' t' .nilIface rv nv cv d w):=by
 have HC:=qaa hC;have HS:Hid (SignsAt w.drew):=qaa hS;have HB:=qaa hB;obtain⟨⟨b0,b1,-⟩,-,bf,bl⟩:=seventeen hB;have HN:=qaa (fun(W:World) (h:Below w.heap.size w W)=>(hB.same h).token n' t' .nilIface);obtain⟨st,hst⟩:∃st,strOf t'.text=st:=⟨_,rfl⟩;obtain⟨x0,hx0⟩:∃y,setW (inRs t'.rs) 0=y:=⟨_,rfl⟩;obtain⟨x1,hx1⟩:∃y,setW (inRs t'.rs) 1=y:=⟨_,rfl⟩;obtain⟨x2,hx2⟩:∃y,setW (inRs t'.rs) 2=y:=⟨_,rfl⟩;obtain⟨x3,hx3⟩:∃y,setW (inRs t'.rs) 3=y:=⟨_,rfl⟩;rw[hst,hx0,hx1,hx2,hx3] at HC HN;clear hB hS hC hst hx0 hx1 hx2 hx3;go_enter Tryz.func70,Tryz.ntmps70
 go_region_with (go_at_call 44;(with_reducible refine(HC.out _ HS.out).mono ?_);rintro e w2 ⟨rfl,hb⟩;obtain⟨⟨d0,d1,d2,d3,d4,d5,d6,d7,d8⟩,⟨d9,-⟩,df,dl⟩:=seventeen ((show Bl w.drew _ _ _ from HB.out).below hb);have HB2:=qaa (zhv hb);clear hb)
 all_goals
  go_end0
  exact⟨rfl,HN.out _ HB2.out,_,HB2.out,OnlyB.nine⟩
theorem zje (C:PC)(n:Nat)(t:Tok)(er rv nv cv:Value)(d:Nat)(w:World)(t':Tok)(n':Nat)(k:Nat)(hB:PB C n t er rv nv cv d w)(hS:SignsAt w)
  (hC:∀W,SignsAt W->Calls qab 44 #[jh C.s,je jd (n:Int)] W fun e w'=>e=.returned (jk #[.agg #[je jd (t'.kind:Int),je jd (t'.at_:Int),jh (strOf t'.text),je jg (setW (inRs t'.rs) 0),je jg (setW (inRs t'.rs) 1),je jg (setW (inRs t'.rs) 2),je jg (setW (inRs t'.rs) 3)],je jd (n':Int),(.iface 160 (.agg #[je jd 1,je jd (k:Int)]))])/\Below W.heap.size W w') :
  Calls qab 70 #[jj (some ⟨C.B,0,none⟩)] w (AccIs C n' t' (.iface 160 (.agg #[je jd 1,je jd (k:Int)])) rv nv cv d w):=by
 have HC:=qaa hC;have HS:Hid (SignsAt w.drew):=qaa hS;have HB:=qaa hB;obtain⟨⟨b0,b1,-⟩,-,bf,bl⟩:=seventeen hB;have HN:=qaa (fun(W:World) (h:Below w.heap.size w W)=>(hB.same h).token n' t' (.iface 160 (.agg #[je jd 1,je jd (k:Int)])));obtain⟨st,hst⟩:∃st,strOf t'.text=st:=⟨_,rfl⟩;obtain⟨x0,hx0⟩:∃y,setW (inRs t'.rs) 0=y:=⟨_,rfl⟩;obtain⟨x1,hx1⟩:∃y,setW (inRs t'.rs) 1=y:=⟨_,rfl⟩;obtain⟨x2,hx2⟩:∃y,setW (inRs t'.rs) 2=y:=⟨_,rfl⟩;obtain⟨x3,hx3⟩:∃y,setW (inRs t'.rs) 3=y:=⟨_,rfl⟩;rw[hst,hx0,hx1,hx2,hx3] at HC HN;clear hB hS hC hst hx0 hx1 hx2 hx3;go_enter Tryz.func70,Tryz.ntmps70
 go_region_with (go_at_call 44;(with_reducible refine(HC.out _ HS.out).mono ?_);rintro e w2 ⟨rfl,hb⟩;obtain⟨⟨d0,d1,d2,d3,d4,d5,d6,d7,d8⟩,⟨d9,-⟩,df,dl⟩:=seventeen ((show Bl w.drew _ _ _ from HB.out).below hb);have HB2:=qaa (zhv hb);clear hb)
 all_goals
  go_end0
  exact⟨rfl,HN.out _ HB2.out,_,HB2.out,OnlyB.nine⟩
theorem zhf (C:PC)(hSg:SignsAt C.w0)(hs:C.s.size<=1050000)(rs:List (List Nat × Nat × Int))(ts:List Tok)(f:MF)(d:Nat)(qs:List Value)(w:World)(N:Nat)(hP:PSt C rs ts f d qs w)(hk:kd ts≠0)(h1:f.nodes.length<=N)(h2:f.calls.length<=N)(h3:rs.length<=N) :
  Calls qab 70 #[jj (some ⟨C.B,0,none⟩)] w (Out C N rs d qs w (acc false ts.tail f)):=by
 obtain⟨hF,n,t,rv,nv,cv,hcur,hB,hR⟩:=hP;have hk':t.kind≠0:=by rw[<-hcur.kd];exact hk
 have htl:ts.tail=strm (bts C.s) n:=by rw[hcur.tail hk'];rfl
 have hn:=hcur.2.1;have hS:=PSt.signs hF hSg;rw[htl];cases hx:nextL (bts C.s) n with
 |error k=>
  have hst:=zcg hx;refine(zje C n t .nilIface rv nv cv d w ⟨0,0,[],[]⟩ 0 k hB hS (fun W hW=>?_)).mono ?_
  ·have:=zgn C.s n k W hs hn hW hx
   simp only[zc6];exact this
  ·rintro e w' ⟨rfl,hB',w2,hb,ho⟩
   have hk2:Kq C.w0.heap.size C.B w w':=(Kq.of_below hb).trans ho.kq;have hR2:=(hR.below hb).only (hB.same hb) ho;have ha:acc false (strm (bts C.s) n) f=.bad (strm (bts C.s) n) false:=by
    unfold acc;rw[hst];exact if_pos ⟨rfl,rfl⟩
   rw[ha];refine⟨rfl,hk2,hF.kept hk2,0,rv,nv,cv,f.nodes.length,f.calls.length,rs.length,_,_,_,?_,hR2.1.2.1,hR2.2.1,hR2.2.2.2,h1,h2,h3⟩;rw[hst];exact hB'
 |ok y=>
  obtain⟨t',n'⟩:=y;have hmv:=za6 (bts C.s) n (by rw[zaj];exact hn) t' n' hx;rw[zaj] at hmv;refine(zku C n t .nilIface rv nv cv d w t' n' hB hS (fun W hW=>zgo C.s n t' n' W hs hn hW hx)).mono ?_;rintro e w' ⟨rfl,hB',w2,hb,ho⟩;have hk2:Kq C.w0.heap.size C.B w w':=(Kq.of_below hb).trans ho.kq;have hR2:=(hR.below hb).only (hB.same hb) ho;have hkd:=zd8 hx;obtain⟨tl,htl',hcl⟩:∃tl,strm (bts C.s) n=t'::tl/\(t'.kind≠0->tl=strm (bts C.s) n'):=by
   by_cases h0:t'.kind=0
   ·exact⟨[],zbt hx h0,fun h=>absurd h0 h⟩
   ·exact⟨_,zbe hx h0 (by
                   rw[zaj];rcases hmv with h|h
                   ·exact absurd h.1 h0
                   ·exact h.2),fun _=>rfl⟩
  have ha:acc false (strm (bts C.s) n) f=.ok (strm (bts C.s) n) f:=by
   unfold acc;refine if_neg ?_;rw[htl'];show ¬(_/\t'.kind=99);omega
  rw[ha];refine⟨rfl,hk2,[],?_,fun q h=>nomatch h⟩;rw[List.append_nil];exact⟨hF.kept hk2,n',t',rv,nv,cv,⟨U,U,tl,htl',hcl⟩,hB',hR2⟩
end
section
open Go.RowKit
theorem zcs {ops:Array Oper}{o:Oper}{a:Act}{K:Act->World->Prop}{Q:Exit->Act->World->Prop}{E:Prop}(hgd:o.guard=none)(s x:Operand)(t:TypeId)
  (ho:o.op=.call { callee:=.builtin .append,args:=#[s,x],argTypes:=#[t,t] })
  (base:Nat) (e:TypeId) (i:TypeInfo) (z:Value) (size bytes:Nat) (ht:qab.underlying t=some (.slice e)) (hi:qab.info? e=some i) (hz:i.zero=some z)
  (hsize:i.size=size) (hby:i.bytes=bytes) (hzs:z.cells.size=size) (hsz:0<size) (v:Value) (n:Nat) (xs:List Value) (hs:a.eval s=v) (hown:w.ownsRow base e size v n xs)
  (ad:Addr) (m c:Nat) (news:List Value) (hx:a.eval x=jf (some ad) m c) (hl:news.length=m*size) (hnews:∀j u,news[j]?=some u->w.cell? (ad.add j)=some u) (h1:∀u ∈ news,u.oneCell'=true)
  (h63:n+m<=maxLen) (hbytes:(n+m)*bytes<=140737488355328) (hbase:base<=w.heap.size)
  (h:∀a' cap' w',w'.ownsRow base e size (jf a' (n+m) cap') (n+m) (xs++news)->w.grownBy w' v.ownBlock->((Value.slice a' (n+m) cap').ownBlock=v.ownBlock∨(Value.slice a' (n+m) cap').ownBlock=some w.heap.size)->K (a.put o.dst (jf a' (n+m) cap')) w') :
  if Region.wanted o (yielded ops a.tmps)=true then Oper.wp qab o a w K Q else E:=by
 have hw:Region.wanted o (yielded ops a.tmps)=true:=by simp[Region.wanted,hgd]
 rw[if_pos hw];obtain⟨v',w',hr,h2,h3,-,h5⟩:=run_append_own_at (P:=qab) w base t o.type e i z size bytes ht hi hz hsize hby hzs hsz v n xs hown ad m c news hl hnews h1 h63 hbytes hbase;obtain⟨a',cap',rfl⟩:∃a' c',v'=jf a' (n+m) c':=by
  rcases h2.2 with⟨e,e0⟩|⟨g,cap,cur,e,-⟩
  ·exact⟨none,0,by rw[e,e0]⟩
  ·exact⟨_,_,e⟩
 unfold Oper.wp execOp;simp only[ho,resolve,invoke,builtin,Sem.run_bind,Sem.run_pure,Result.andThen_ok,List.map_toArray,List.map_cons,List.map_nil,hs,hx,hr];exact h a' cap' w' h2 h3 h5
theorem Bl.news {cs:List Value}(h:Bl W b t cs.toArray):∀j u,cs[j]?=some u->W.cell? ((⟨b,0,none⟩:Addr).add j)=some u:=fun j u hu=>by
 rw[Addr.add_lit,Nat.zero_add];exact h.cell (by rw[List.getElem?_toArray];exact hu)
theorem zac {n0:Nat}{wr:World}(h:Below n0 wr W)(hn:n0=wr.heap.size)(o:Obj):Below n0 wr (W.alloc o):=h.alloc (by rw[hn];exact h.size) o
theorem Bl.new' (hB:B=w.heap.size):Bl (w.alloc (.cells cs t)) B t cs:=by subst hB;exact Bl.new w t cs
theorem Bl.drew (h:Bl w b t cs):Bl w.drew b t cs:=h
theorem PB.grown {C:PC}{t:Tok}{w5:World}(h:PB C n t er rv nv cv d w)(hg:w.grownBy w5 r)(hr:∀g,r=some g->∃c t' fz,w.heap[g]?=some (.cells c t' fz)/\120≠t'):PB C n t er rv nv cv d w5:=Bl.grown h hg hr
theorem Bl.past {o:Obj}(h:Bl w b t cs):Bl (w.alloc o) b t cs:=h.below (zaa w o)
def AppIs (C:PC)(o:Nat)(ty:TypeId)(size m:Nat)(v:Value)(cs news:List Value)(w:World)(e:Ending)(w':World):Prop:=
 e=.returned (jk #[])/\∃v' w1 w5,w5.ownsRow C.w0.heap.size ty size v' (m+1) (cs++news)/\Below w.heap.size w w1/\w1.grownBy w5 v.ownBlock/\w'=w5.setCell ⟨C.B,o,none⟩ v'
theorem zwd (C:PC)(n:Nat)(t:Tok)(er rv nv cv:Value)(d:Nat)(w:World)(m:Nat)(cs:List Value)(op ru x0 x1 x2 x3:Int)(ka:Option Addr)(kn kc:Nat)(hB:PB C n t er rv nv cv d w)(hO:w.ownsRow C.w0.heap.size 54 7 nv m cs)(hm:m<=1000000000)(hb0:C.w0.heap.size<=w.heap.size) :
  Calls qab 140 #[jj (some ⟨C.B,0,none⟩),.agg #[je jd op,jf ka kn kc,je jd ru,je jg x0,je jg x1,je jg x2,je jg x3]] w
   (AppIs C 11 54 7 m nv cs [je jd op,jf ka kn kc,je jd ru,je jg x0,je jg x1,je jg x2,je jg x3] w):=by
 obtain⟨na,nc,rfl⟩:=zag hO;obtain⟨ie,hie,hze0,hze1,hze2⟩:=info_parts zik;have HB:=qaa hB;have HO:=qaa hO;obtain⟨-,⟨-,-,b11,-⟩,bf,bl⟩:=seventeen hB;clear hB hO;go_enter Tryz.func140,Tryz.ntmps140;go_wp2
 go_region_law (refine zcs (by rfl) _ _ 23 (by rfl) C.w0.heap.size 54 ie _ 7 72 Tryz.underlying23 hie hze0 hze1 hze2 (by rfl) ja (jf na m nc) m _ (by simp[Act.eval]) (by refine zab HO.out ?_;repeat (first|exact Below.refl _ _|refine Below.drew ?_|refine zac ?_ rfl _)) _ 1 1 [je jd op,jf ka kn kc,je jd ru,je jg x0,je jg x1,je jg x2,je jg x3] (by simp[Act.eval];rfl) (by rfl) (by refine Bl.news (t:=54) ?_;repeat (first|(refine Bl.new' ?_;simp;done)|refine Bl.drew ?_|refine Bl.past ?_)) (by simp[Value.oneCell']) (by unfold maxLen;omega) U (by simp;omega) ?_;intro a5 c5 w5 hown5 hgrow5 hat5;have hbw5:Hid (Below w.heap.size w ((w.alloc (.cells #[je jd op,jf ka kn kc,je jd ru,je jg x0,je jg x1,je jg x2,je jg x3] 54)).alloc (.cells #[je jd op,jf ka kn kc,je jd ru,je jg x0,je jg x1,je jg x2,je jg x3] 54)).drew):=qaa (Below.drew (zac (zac (Below.refl _ _) rfl _) rfl _));have hg5:=(HB.out.same hbw5.out).grown hgrow5 (fun g e=>by obtain⟨c,fz,hc⟩:=qb5 (zab HO.out hbw5.out) g e;exact⟨c,54,fz,hc,ja⟩);obtain⟨-,⟨-,-,x11,-⟩,xf,xl⟩:=seventeen hg5;have HO5:=qaa hown5;have HG5:=qaa hgrow5;clear hown5 hgrow5 hat5 hg5)
 all_goals
  go_wp2
  go_end0
  exact⟨rfl,_,_,_,HO5.out,hbw5.out,HG5.out,rfl⟩
section
variable {C:PC} {o:Nat} {ty:TypeId} {size m:Nat} {v:Value} {cs news:List Value} {w w':World} {e:Ending}
theorem AppIs.parts (h:AppIs C o ty size m v cs news w e w')(hO:w.ownsRow C.w0.heap.size ty size v m cs)(hty:ty=54∨ty=66){pc:Array Value}(hB:Bl w C.B 120 pc) :
  e=.returned (jk #[])/\Kq C.w0.heap.size C.B w w'/\∃v',w'.ownsRow C.w0.heap.size ty size v' (m+1) (cs++news)/\Bl w' C.B 120 (pc.setIfInBounds o v') /\
   ∀(b:Nat) (t:TypeId) (sz n:Nat) (u:Value) (xs:List Value),w.ownsRow b t sz u n xs->t≠ty->t≠120->w'.ownsRow b t sz u n xs:=by
 obtain⟨he,v',w1,w5,h1,h2,h3,rfl⟩:=h;have hO1:=zab hO h2;have hp:ty≠120:=by rcases hty with rfl|rfl<;>decide
 have kind:∀g,v.ownBlock=some g->∃c fz,w1.heap[g]?=some (.cells c ty fz):=fun g hv=>qb5 hO1 g hv
 have hB5:Bl w5 C.B 120 pc:=(Bl.below hB h2).grown h3 (fun g hv=>by
  obtain⟨c,fz,hc⟩:=kind g hv;exact⟨c,ty,fz,hc,Ne.symm hp⟩)
 refine⟨he,((Kq.of_below h2).trans (Kq.grown h3 (fun g hv=>?_))).trans (Kq.set _ _),v',ownsRow_setCell_other h1 (a:=⟨C.B,o,none⟩) (zaq h1 hB5 hp) v',hB5.put v',fun b t sz n u xs hu ht htp=>?_⟩
 ·obtain⟨c,fz,hc⟩:=kind g hv
  exact⟨(hO1.lt g hv).1,c,ty,fz,hc,hty⟩
 ·have hu5:=zbl (zab hu h2) h3 kind ht
  exact ownsRow_setCell_other hu5 (a:=⟨C.B,o,none⟩) (zaq hu5 hB5 htp) v'
end
def ndV (n:PN)(kv:Value):Value:=.agg #[je jd n.op,kv,je jd n.rule,je jg n.s0,je jg n.s1,je jg n.s2,je jg n.s3]
def AddIs (C:PC)(rs:List (List Nat × Nat × Int))(ts:List Tok)(f:MF)(d:Nat)(qs:List Value)(w:World)(e:Ending)(w':World):Prop:=
 e=.returned (jk #[])/\Kq C.w0.heap.size C.B w w'/\PSt C rs ts f d qs w'
theorem NRow.snoc {v':Value}{ns:List PN}{n:PN}{kv:Value}(h:NRow base v ns qs w)(hk:w.ownsRow base 3 1 kv n.kids.length (intsV n.kids))
  (ho:w'.ownsRow base 54 7 v' (ns.length+1) (zbs (ns.zip qs)++nodeC (n,kv))) (kp:∀(sz n:Nat) (u:Value) (xs:List Value),w.ownsRow base 3 sz u n xs->w'.ownsRow base 3 sz u n xs):NRow base v' (ns++[n]) (qs++[kv]) w':=by
 refine⟨?_,?_,fun j m q a b=>?_⟩
 ·rw[qad,qad,h.1];rfl
 ·rw[List.zip_append h.1.symm]
  unfold zbs at ho ⊢;rw[List.flatMap_append,qad];simpa using ho
 ·rcases Nat.lt_or_ge j ns.length with hj|hj
  ·rw[qb4 hj] at a
   rw[qb4 (by rw[h.1];exact hj)] at b;exact kp _ _ _ _ (h.2.2 j m q a b)
  ·have hje:j=ns.length:=by
    have:=(List.getElem?_eq_some_iff.1 a).1;simp at this;omega
   subst hje;rw[qbg (qac _),qb8] at a;rw[qbg (by rw[h.1];exact qac _),h.1,qb8] at b;obtain rfl:=qar a;obtain rfl:=qar b;exact kp _ _ _ _ hk
theorem zkv (C:PC)(rs:List (List Nat × Nat × Int))(ts:List Tok)(f:MF)(d:Nat)(qs:List Value)(w:World)(nd:PN)(ka:Option Addr)(kc:Nat)(hP:PSt C rs ts f d qs w)
  (hk:w.ownsRow C.w0.heap.size 3 1 (jf ka nd.kids.length kc) nd.kids.length (intsV nd.kids)) (hm:f.nodes.length<=1000000000) :
  Calls qab 140 #[jj (some ⟨C.B,0,none⟩),ndV nd (jf ka nd.kids.length kc)] w (AddIs C rs ts (addN f nd) d (qs++[jf ka nd.kids.length kc]) w):=by
 obtain⟨hF,n,t,rv,nv,cv,hcur,hB,hR⟩:=hP;refine(zwd C n t .nilIface rv nv cv d w f.nodes.length _ nd.op nd.rule nd.s0 nd.s1 nd.s2 nd.s3 ka nd.kids.length kc hB hR.1.2.1 hm hF.1.size).mono fun e w' h=>?_
 obtain⟨he,hK,nv',ho,hB',kp⟩:=h.parts hR.1.2.1 (.inl rfl) hB;exact⟨he,hK,hF.kept hK,n,t,rv,nv',cv,hcur,hB',hR.1.snoc hk ho (fun sz n u xs hu=>kp _ _ sz n u xs hu ja ja),kp _ _ _ _ _ _ hR.2.1 ja ja,hR.2.2.1,kp _ _ _ _ _ _ hR.2.2.2 ja ja⟩
def BadIs (C:PC)(a:List Tok)(dp:Bool)(N d:Nat)(w:World)(e:Ending)(w':World):Prop:=e=.returned (jk #[])/\Kq C.w0.heap.size C.B w w'/\PBad C (erV a dp) N d w'
theorem zpx (C:PC)(er:Value)(N d:Nat)(w:World)(op ru x0 x1 x2 x3:Int)(ka:Option Addr)(kn kc:Nat)(hP:PBad C er N d w)(hN:N<=1000000000) :
  Calls qab 140 #[jj (some ⟨C.B,0,none⟩),.agg #[je jd op,jf ka kn kc,je jd ru,je jg x0,je jg x1,je jg x2,je jg x3]] w fun e w'=>e=.returned (jk #[])/\Kq C.w0.heap.size C.B w w'/\PBad C er (N+1) d w':=by
 obtain⟨hF,n,rv,nv,cv,m1,m2,m3,c1,c2,c3,hB,h1,h2,h3,l1,l2,l3⟩:=hP;refine(zwd C n _ er rv nv cv d w m1 c1 op ru x0 x1 x2 x3 ka kn kc hB h1 U hF.1.size).mono fun e w' h=>?_
 obtain⟨he,hK,nv',ho,hB',kp⟩:=h.parts h1 (.inl rfl) hB;exact⟨he,hK,hF.kept hK,n,rv,nv',cv,m1+1,m2,m3,_,c2,c3,hB',ho,kp _ _ _ _ _ _ h2 ja ja,kp _ _ _ _ _ _ h3 ja ja,U,U,U⟩
theorem PBad.mono {C:PC}{N N':Nat}(h:PBad C er N d w)(hN:N<=N'):PBad C er N' d w:=by
 obtain⟨hF,n,rv,nv,cv,m1,m2,m3,c1,c2,c3,hB,h1,h2,h3,l1,l2,l3⟩:=h;exact⟨hF,n,rv,nv,cv,m1,m2,m3,c1,c2,c3,hB,h1,h2,h3,U,U,U⟩
end
section
open Go.RowKit
theorem zfm (B:Nat)(na:Option Addr)(m nc:Nat)(w:World)(h:w.cell? ⟨B,11,none⟩=some (jf na m nc))(hm:m<=2000000000) :
  Calls qab 98 #[jj (some ⟨B,0,none⟩)] w fun e w'=>e=.returned (je jd ((m:Int)-1))/\w=w':=by
 go_enter Tryz.func98,Tryz.ntmps98;go_wp2;go_ret;exact⟨rfl,rfl⟩
def KidIs (B kb k:Nat)(kv:Value)(xs:List Value)(P:World->Prop)(e:Ending)(w':World):Prop:=
 ∃w1 na m nc a' c' o2,P w1/\w1.cell? ⟨B,11,none⟩=some (jf na m nc)/\e=.returned (jf a' (k+1) c')/\w'.ownsRow kb 3 1 (jf a' (k+1) c') (k+1) (xs++[je jd ((m:Int)-1)]) /\
  (w1.alloc o2).grownBy w' kv.ownBlock/\((Value.slice a' (k+1) c').ownBlock=kv.ownBlock∨(Value.slice a' (k+1) c').ownBlock=some (w1.alloc o2).heap.size)
theorem zwe (B kb k:Nat)(ka:Option Addr)(kc:Nat)(xs:List Value)(w:World)(P:World->Prop)
  (hC:Calls qab 118 #[jj (some ⟨B,0,none⟩)] w fun e w1=>e=.returned (jk #[])/\P w1)
  (hP:∀w1,P w1->(∃na m nc,w1.cell? ⟨B,11,none⟩=some (jf na m nc)/\m<=2000000000)/\w1.ownsRow kb 3 1 (jf ka k kc) k xs/\kb<=w1.heap.size) (hk:k<=1000000000) :
  Calls qab 117 #[jj (some ⟨B,0,none⟩),jf ka k kc,.func (.func 118) #[] #[]] w (KidIs B kb k (jf ka k kc) xs P):=by
 obtain⟨ii,hii,hzi0,hzi1,hzi2⟩:=info_parts zd1;have HC:=qaa hC;have HP:=qaa hP;clear hC hP;go_enter Tryz.func117,qf9
 go_wp2_with (go_at_call 118;(with_reducible refine HC.out.mono ?_);rintro e w1 ⟨rfl,hp⟩;obtain⟨⟨na,m,nc,h11,hm⟩,hrow,hkb⟩:=HP.out w1 hp;have HR:=qaa hrow;have HPP:=qaa hp;clear hp hrow)
 go_wp2_with (first
  |(go_at_call 98;(with_reducible refine(zfm B na m nc w1 h11 hm).mono ?_);rintro e w2 ⟨rfl,rfl⟩)
  |(at_builtin;refine wpList_append_own_at _ rfl _ _ 52 rfl kb 3 ii (je jd 0) 1 8 qcb hii hzi0 hzi1 hzi2 rfl ja _ k _ rfl (zab HR.out (zaa _ _)) ⟨w1.heap.size,0,none⟩ 1 1 [je jd ((m:Int)-1)] rfl rfl (zat _ _ _) (by simp[Value.oneCell']) (by unfold maxLen;omega) U (by simp;omega) ?_;intro v5 w5 hown' hgrow _ hat;have HO:=qaa hown';have HG:=qaa hgrow;have HAT:=qaa hat;clear hown' hgrow hat))
 go_ret;obtain⟨a5,c5,e5⟩:=zag HO.out;subst e5;exact⟨w1,na,m,nc,a5,c5,_,HPP.out,h11,rfl,HO.out,HG.out,HAT.out⟩
theorem z4e (B kb k:Nat)(ka:Option Addr)(kc:Nat)(xs:List Value)(w:World)(P:World->Prop)
  (hC:Calls qab 139 #[jj (some ⟨B,0,none⟩)] w fun e w1=>e=.returned (jk #[])/\P w1)
  (hP:∀w1,P w1->(∃na m nc,w1.cell? ⟨B,11,none⟩=some (jf na m nc)/\m<=2000000000)/\w1.ownsRow kb 3 1 (jf ka k kc) k xs/\kb<=w1.heap.size) (hk:k<=1000000000) :
  Calls qab 117 #[jj (some ⟨B,0,none⟩),jf ka k kc,.func (.func 139) #[] #[]] w (KidIs B kb k (jf ka k kc) xs P):=by
 obtain⟨ii,hii,hzi0,hzi1,hzi2⟩:=info_parts zd1;have HC:=qaa hC;have HP:=qaa hP;clear hC hP;go_enter Tryz.func117,qf9
 go_wp2_with (go_at_call 139;(with_reducible refine HC.out.mono ?_);rintro e w1 ⟨rfl,hp⟩;obtain⟨⟨na,m,nc,h11,hm⟩,hrow,hkb⟩:=HP.out w1 hp;have HR:=qaa hrow;have HPP:=qaa hp;clear hp hrow)
 go_wp2_with (first
  |(go_at_call 98;(with_reducible refine(zfm B na m nc w1 h11 hm).mono ?_);rintro e w2 ⟨rfl,rfl⟩)
  |(at_builtin;refine wpList_append_own_at _ rfl _ _ 52 rfl kb 3 ii (je jd 0) 1 8 qcb hii hzi0 hzi1 hzi2 rfl ja _ k _ rfl (zab HR.out (zaa _ _)) ⟨w1.heap.size,0,none⟩ 1 1 [je jd ((m:Int)-1)] rfl rfl (zat _ _ _) (by simp[Value.oneCell']) (by unfold maxLen;omega) U (by simp;omega) ?_;intro v5 w5 hown' hgrow _ hat;have HO:=qaa hown';have HG:=qaa hgrow;have HAT:=qaa hat;clear hown' hgrow hat))
 go_ret;obtain⟨a5,c5,e5⟩:=zag HO.out;subst e5;exact⟨w1,na,m,nc,a5,c5,_,HPP.out,h11,rfl,HO.out,HG.out,HAT.out⟩
theorem zwf (B kb k:Nat)(ka:Option Addr)(kc:Nat)(xs:List Value)(w:World)(P:World->Prop)
  (hC:Calls qab 154 #[jj (some ⟨B,0,none⟩)] w fun e w1=>e=.returned (jk #[])/\P w1)
  (hP:∀w1,P w1->(∃na m nc,w1.cell? ⟨B,11,none⟩=some (jf na m nc)/\m<=2000000000)/\w1.ownsRow kb 3 1 (jf ka k kc) k xs/\kb<=w1.heap.size) (hk:k<=1000000000) :
  Calls qab 117 #[jj (some ⟨B,0,none⟩),jf ka k kc,.func (.func 154) #[] #[]] w (KidIs B kb k (jf ka k kc) xs P):=by
 obtain⟨ii,hii,hzi0,hzi1,hzi2⟩:=info_parts zd1;have HC:=qaa hC;have HP:=qaa hP;clear hC hP;go_enter Tryz.func117,qf9
 go_wp2_with (go_at_call 154;(with_reducible refine HC.out.mono ?_);rintro e w1 ⟨rfl,hp⟩;obtain⟨⟨na,m,nc,h11,hm⟩,hrow,hkb⟩:=HP.out w1 hp;have HR:=qaa hrow;have HPP:=qaa hp;clear hp hrow)
 go_wp2_with (first
  |(go_at_call 98;(with_reducible refine(zfm B na m nc w1 h11 hm).mono ?_);rintro e w2 ⟨rfl,rfl⟩)
  |(at_builtin;refine wpList_append_own_at _ rfl _ _ 52 rfl kb 3 ii (je jd 0) 1 8 qcb hii hzi0 hzi1 hzi2 rfl ja _ k _ rfl (zab HR.out (zaa _ _)) ⟨w1.heap.size,0,none⟩ 1 1 [je jd ((m:Int)-1)] rfl rfl (zat _ _ _) (by simp[Value.oneCell']) (by unfold maxLen;omega) U (by simp;omega) ?_;intro v5 w5 hown' hgrow _ hat;have HO:=qaa hown';have HG:=qaa hgrow;have HAT:=qaa hat;clear hown' hgrow hat))
 go_ret;obtain⟨a5,c5,e5⟩:=zag HO.out;subst e5;exact⟨w1,na,m,nc,a5,c5,_,HPP.out,h11,rfl,HO.out,HG.out,HAT.out⟩
theorem zrn (B kb k:Nat)(ka:Option Addr)(kc:Nat)(xs:List Value)(w:World)(P:World->Prop)
  (hC:Calls qab 162 #[jj (some ⟨B,0,none⟩)] w fun e w1=>e=.returned (jk #[])/\P w1)
  (hP:∀w1,P w1->(∃na m nc,w1.cell? ⟨B,11,none⟩=some (jf na m nc)/\m<=2000000000)/\w1.ownsRow kb 3 1 (jf ka k kc) k xs/\kb<=w1.heap.size) (hk:k<=1000000000) :
  Calls qab 117 #[jj (some ⟨B,0,none⟩),jf ka k kc,.func (.func 162) #[] #[]] w (KidIs B kb k (jf ka k kc) xs P):=by
 obtain⟨ii,hii,hzi0,hzi1,hzi2⟩:=info_parts zd1;have HC:=qaa hC;have HP:=qaa hP;clear hC hP;go_enter Tryz.func117,qf9
 go_wp2_with (go_at_call 162;(with_reducible refine HC.out.mono ?_);rintro e w1 ⟨rfl,hp⟩;obtain⟨⟨na,m,nc,h11,hm⟩,hrow,hkb⟩:=HP.out w1 hp;have HR:=qaa hrow;have HPP:=qaa hp;clear hp hrow)
 go_wp2_with (first
  |(go_at_call 98;(with_reducible refine(zfm B na m nc w1 h11 hm).mono ?_);rintro e w2 ⟨rfl,rfl⟩)
  |(at_builtin;refine wpList_append_own_at _ rfl _ _ 52 rfl kb 3 ii (je jd 0) 1 8 qcb hii hzi0 hzi1 hzi2 rfl ja _ k _ rfl (zab HR.out (zaa _ _)) ⟨w1.heap.size,0,none⟩ 1 1 [je jd ((m:Int)-1)] rfl rfl (zat _ _ _) (by simp[Value.oneCell']) (by unfold maxLen;omega) U (by simp;omega) ?_;intro v5 w5 hown' hgrow _ hat;have HO:=qaa hown';have HG:=qaa hgrow;have HAT:=qaa hat;clear hown' hgrow hat))
 go_ret;obtain⟨a5,c5,e5⟩:=zag HO.out;subst e5;exact⟨w1,na,m,nc,a5,c5,_,HPP.out,h11,rfl,HO.out,HG.out,HAT.out⟩
end
section
open Go.RowKit
theorem znv (k:Nat):setW (inRs []) k=0:=zc6 k
theorem PB.zero {C:PC}{n:Nat}{d:Nat}
  (h:Bl w C.B 120 #[jh C.s,je jd (n:Int),je jd 0,je jd 0,jh ⟨#[]⟩,je jg 0,je jg 0,je jg 0,je jg 0,er,rv,nv,cv,.bool C.nm,je jd (d:Int),.map (some C.mp),.map (some C.ms)]):PB C n ⟨0,0,[],[]⟩ er rv nv cv d w:=by
 unfold PB;simp only[znv];exact h
theorem PB.unzero {C:PC}{n:Nat}{d:Nat}(h:PB C n ⟨0,0,[],[]⟩ er rv nv cv d w) :
  Bl w C.B 120 #[jh C.s,je jd (n:Int),je jd 0,je jd 0,jh ⟨#[]⟩,je jg 0,je jg 0,je jg 0,je jg 0,er,rv,nv,cv,.bool C.nm,je jd (d:Int),.map (some C.mp),.map (some C.ms)]:=by
 unfold PB at h;simp only[znv] at h;exact h
theorem OnlyB.eight {a b d:Value}:OnlyB B w ((((((((w.setCell ⟨B,9,none⟩ a).setCell ⟨B,2,none⟩ b).setCell ⟨B,3,none⟩ c).setCell ⟨B,4,none⟩ d).setCell ⟨B,5,none⟩ e).setCell ⟨B,6,none⟩ f).setCell ⟨B,7,none⟩ g).setCell ⟨B,8,none⟩ h):=
 (((((((((OnlyB.refl B w).set _ _).set _ _).set _ _).set _ _).set _ _).set _ _).set _ _).set _ _)
theorem OnlyB.seven {b d:Value}:OnlyB B w (((((((w.setCell ⟨B,2,none⟩ b).setCell ⟨B,3,none⟩ c).setCell ⟨B,4,none⟩ d).setCell ⟨B,5,none⟩ e).setCell ⟨B,6,none⟩ f).setCell ⟨B,7,none⟩ g).setCell ⟨B,8,none⟩ h):=
 ((((((((OnlyB.refl B w).set _ _).set _ _).set _ _).set _ _).set _ _).set _ _).set _ _)
theorem zz1 (C:PC)(n:Nat)(t:Tok)(rv nv cv:Value)(d:Nat)(w:World)(c:Int)(hB:PB C n t .nilIface rv nv cv d w) :
  Calls qab 72 #[jj (some ⟨C.B,0,none⟩),je jd c] w fun e w'=>e=.returned (jk #[])/\OnlyB C.B w w'/\PB C n ⟨0,0,[],[]⟩ (.iface 160 (.agg #[je jd c,je jd (t.at_:Int)])) rv nv cv d w':=by
 obtain⟨⟨b0,b1,b2,b3,b4,b5,b6,b7,b8⟩,⟨b9,-⟩,bf,bl⟩:=seventeen hB;have HN:=qaa (PB.zero (C:=C) (put8 (put7 (put6 (put5 (put4 (put3 (put2 (put9 hB (.iface 160 (.agg #[je jd c,je jd (t.at_:Int)]))) (je jd 0)) (je jd 0)) (jh ⟨#[]⟩)) (je jg 0)) (je jg 0)) (je jg 0)) (je jg 0)));clear hB;go_enter Tryz.func72,Tryz.ntmps72
 go_wp2_with (go_at_call 73;(with_reducible refine(zvc _ _ _).mono ?_);rintro e w' ⟨rfl,hw⟩;obtain rfl:=hw.symm;clear hw)
 go_end0
 exact⟨rfl,OnlyB.eight,HN.out⟩
theorem zwg (C:PC)(n:Nat)(T:TypeId)(x:Value)(rv nv cv:Value)(d:Nat)(w:World)(c:Int)(hB:PB C n ⟨0,0,[],[]⟩ (.iface T x) rv nv cv d w) :
  Calls qab 72 #[jj (some ⟨C.B,0,none⟩),je jd c] w fun e w'=>e=.returned (jk #[])/\OnlyB C.B w w'/\PB C n ⟨0,0,[],[]⟩ (.iface T x) rv nv cv d w':=by
 have hB:=hB.unzero;obtain⟨⟨b0,b1,b2,b3,b4,b5,b6,b7,b8⟩,⟨b9,-⟩,bf,bl⟩:=seventeen hB;have HN:=qaa (PB.zero (C:=C) (put8 (put7 (put6 (put5 (put4 (put3 (put2 hB (je jd 0)) (je jd 0)) (jh ⟨#[]⟩)) (je jg 0)) (je jg 0)) (je jg 0)) (je jg 0)));clear hB;go_enter Tryz.func72,Tryz.ntmps72;go_wp2
 go_end0
 exact⟨rfl,OnlyB.seven,HN.out⟩
theorem zpy (C:PC)(rs:List (List Nat × Nat × Int))(ts:List Tok)(f:MF)(d:Nat)(qs:List Value)(w:World)(N:Nat)(dp:Bool)(hP:PSt C rs ts f d qs w)(h1:f.nodes.length<=N)(h2:f.calls.length<=N)(h3:rs.length<=N) :
  Calls qab 72 #[jj (some ⟨C.B,0,none⟩),je jd (if dp then 5 else 1)] w (Out C N rs d qs w (.bad ts dp)):=by
 obtain⟨hF,n,t,rv,nv,cv,hcur,hB,hR⟩:=hP;refine(zz1 C n t rv nv cv d w _ hB).mono ?_;rintro e w' ⟨rfl,ho,hB'⟩;have hR2:=hR.only hB ho;refine⟨rfl,ho.kq,hF.kept ho.kq,n,rv,nv,cv,f.nodes.length,f.calls.length,rs.length,_,_,_,?_,hR2.1.2.1,hR2.2.1,hR2.2.2.2,h1,h2,h3⟩;obtain⟨-,-,tl,rfl,-⟩:=hcur;exact hB'
theorem zro (C:PC)(a:List Tok)(dp:Bool)(N d:Nat)(w:World)(c:Int)(hP:PBad C (erV a dp) N d w) :
  Calls qab 72 #[jj (some ⟨C.B,0,none⟩),je jd c] w (BadIs C a dp N d w):=by
 obtain⟨hF,n,rv,nv,cv,m1,m2,m3,c1,c2,c3,hB,h1,h2,h3,l1,l2,l3⟩:=hP;refine(zwg C n _ _ rv nv cv d w c hB).mono ?_;rintro e w' ⟨rfl,ho,hB'⟩;exact⟨rfl,ho.kq,hF.kept ho.kq,n,rv,nv,cv,m1,m2,m3,_,_,_,hB',ho.row h1 (zaq h1 hB ja),ho.row h2 (zaq h2 hB ja),ho.row h3 (zaq h3 hB ja),l1,l2,l3⟩
def expL (k:Nat)(ts:List Tok)(f:MF):PO:=if kd ts=k then acc false ts.tail f else .bad ts false
theorem z2j (C:PC)(hSg:SignsAt C.w0)(hs:C.s.size<=1050000)(rs:List (List Nat × Nat × Int))(ts:List Tok)(f:MF)(d:Nat)(qs:List Value)(w:World)(N:Nat)(k:Nat)(hk0:k≠0)(hP:PSt C rs ts f d qs w)(h1:f.nodes.length<=N)(h2:f.calls.length<=N)(h3:rs.length<=N) :
  Calls qab 115 #[jj (some ⟨C.B,0,none⟩),je jd (k:Int)] w (Out C N rs d qs w (expL k ts f)):=by
 have hP':=hP;obtain⟨-,n,t,rv,nv,cv,hcur,hB,-⟩:=hP';obtain⟨⟨-,-,b2,-⟩,-,-,-⟩:=seventeen hB;have hkd:=hcur.kd;by_cases hk:kd ts=k
 ·have hC:=qaa (zhf C hSg hs rs ts f d qs w N hP U h1 h2 h3)
  have he:expL k ts f=acc false ts.tail f:=if_pos hk;rw[he];obtain rfl:t.kind=k:=by rw[<-hkd];exact hk
  have e1:((t.kind:Int) != (t.kind:Int))=false:=jc
  clear hP hcur hB hk he hkd h1 h2 h3 hSg;go_enter Tryz.func115,Tryz.ntmps115
  go_wp2_with (go_at_call 70;(with_reducible refine hC.out.mono ?_);rintro e w' h;have h1:=h.1;subst h1;have HO:=qaa h;clear h)
  go_end0
  exact HO.out
 ·have hC:=qaa (zpy C rs ts f d qs w N false hP h1 h2 h3)
  have he:expL k ts f=.bad ts false:=if_neg hk;rw[he];have e1:((t.kind:Int) != (k:Int))=true:=by
   rw[bne_iff_ne];omega
  clear hP hcur hB hk he hkd h1 h2 h3 hSg;go_enter Tryz.func115,Tryz.ntmps115
  go_wp2_with (go_at_call 72;(refine hC.out.mono ?_);rintro e w' h;have h1:=h.1;subst h1;have HO:=qaa h;clear h)
  go_end0
  exact HO.out
theorem zwh (C:PC)(a:List Tok)(dp:Bool)(N d:Nat)(w:World)(k:Nat)(hk0:k≠0)(hP:PBad C (erV a dp) N d w) :
  Calls qab 115 #[jj (some ⟨C.B,0,none⟩),je jd (k:Int)] w (BadIs C a dp N d w):=by
 have hC:=qaa (zro C a dp N d w 1 hP);obtain⟨-,n,rv,nv,cv,m1,m2,m3,c1,c2,c3,hB,-⟩:=hP;obtain⟨⟨-,-,b2,-⟩,-,-,-⟩:=seventeen hB.unzero;have e1:((0:Int) != (k:Int))=true:=by
  rw[bne_iff_ne];omega
 clear hB hk0;go_enter Tryz.func115,Tryz.ntmps115
 go_wp2_with (go_at_call 72;(refine hC.out.mono ?_);rintro e w' h;have h1:=h.1;subst h1;have HO:=qaa h;clear h)
 go_end0
 exact HO.out
end
