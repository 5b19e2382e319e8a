/- The members of a set of numbers; the set of a node. No walk. The contract of byteset.members: the iterator hands over the members of the set, in ascending order -/
import Derived.Shelf.Abstract
import Derived.RangeFuncBox
import Derived.RangeFuncNested
import Derived.RangeFuncBound
import Derived.RangeFuncCalls
import Derived.RangeFuncLeaves
import Derived.Shelf.RegionOpen
import Derived.OwnWalkIn
import Derived.TacticsInMore
import Derived.LoopNIn
import Derived.LoopIn
import Derived.Deep.Cut
import Derived.Deep.RegionWith
import Derived.Conc.MuLone
import Derived.Deep.QuietTactic
import Derived.Deep.RegionLaw
import Derived.RegionTactic
import Derived.ChangeKeysEq
import Derived.WalkKit
import Derived.Laws.StructEq
import Derived.Deep.AppendLies
import Derived.Maps.AppendAt
import Derived.Laws.AppendOwnNone
import Derived.Lib.OwnKind
import Derived.Deep.AppendSrc
import Derived.Test.YthhppmehhdlmnaaGreatDoorPkA
import Derived.Test.YthhppmehhdlmnaaGreatDoorPkB
import Derived.Test.YthhppmehhdlmnaaGreatDoorPkD
import Derived.Test.YthhppmehhdlmnaaGreatDoorPkGA
set_option maxRecDepth 100000
set_option maxHeartbeats 8000000
namespace Go.Proofs.YthhppmehhdlmnaaGreatDoor
def memb (f:Nat->Bool)(k:Nat):List Nat:=(List.range k).filter f
theorem zms (f:Nat->Bool)(k:Nat):memb f (k+1)=memb f k++if f k then [k] else []:=by
 unfold memb;rw[List.range_succ,List.filter_append];cases h:f k<;>simp[h]
theorem zk5 (f:Nat->Bool)(k:Nat):(memb f k).length<=k:=by
 unfold memb;have:=List.length_filter_le f (List.range k);simpa using this
theorem zgi {f g:Nat->Bool}{k:Nat}(h:∀i,i<k->f i=g i):memb f k=memb g k:=by
 unfold memb;exact List.filter_congr (fun x hx=>h x (List.mem_range.1 hx))
theorem zqz {f:Nat->Bool}{k j:Nat}:j ∈ memb f k↔j<k/\f j=true:=by
 unfold memb;rw[List.mem_filter,List.mem_range]
open Go.RowKit Go.Shelf
attribute [local go_sem] Oper.semAt_some
def KeepB (Bs:Nat)(A B:World):Prop:=A.heap.size<=B.heap.size/\B.heap[Bs]?=A.heap[Bs]?
theorem KeepB.refl (Bs:Nat)(A:World):KeepB Bs A A:=⟨Nat.le_refl _,rfl⟩
theorem KeepB.trans {Bs:Nat}{A B C:World}(h:KeepB Bs A B)(h':KeepB Bs B C):KeepB Bs A C:=⟨Nat.le_trans h.1 h'.1,h'.2.trans h.2⟩
theorem SetAt.lt {f:Nat->Bool}{Bs:Nat}{A:World}(h:SetAt f Bs A):Bs<A.heap.size:=block_lt_of_cell (h 0 (by omega)).1
end Go.Proofs.YthhppmehhdlmnaaGreatDoor
namespace Go.Proofs.YthhppmehhdlmnaaGreatDoor
section
def zg3 (ns:List PN)(r:Int)(i:Nat):Bool:=match ns[i]? with
 |some n=>decide (n.op=2)&&decide (n.rule=r)
 |none=>false
theorem zmv {ns:List PN}{r:Int}{i:Nat}{n:PN}(h:ns[i]?=some n):zg3 ns r i=(decide (n.op=2)&&decide (n.rule=r)):=by unfold zg3;rw[h]
def zco (ns:List PN)(r:Int):List Nat:=memb (zg3 ns r) ns.length
inductive Rch (E:Nat->Nat->Prop) (r0:Nat):Nat->Prop where
 |here:Rch E r0 r0
 |call {a b:Nat}:Rch E r0 a->E a b->Rch E r0 b
theorem Rch.trans {E:Nat->Nat->Prop}{a b c:Nat}(h:Rch E a b)(k:Rch E b c):Rch E a c:=by
 induction k with
 |here=>exact h
 |call _ e ih=>exact .call ih e
noncomputable def rchB (E:Nat->Nat->Prop)(r0 j:Nat):Bool:=@decide (Rch E r0 j) (Classical.propDecidable _)
theorem zq4 {E:Nat->Nat->Prop}{r0 j:Nat}:rchB E r0 j=true↔Rch E r0 j:=by unfold rchB;exact @decide_eq_true_iff _ (Classical.propDecidable _)
def callE (rs:List PR)(ns:List PN)(a b:Nat):Prop:=∃(i:Nat) (n:PN),ns[i]?=some n/\n.op=2/\ownL rs (i:Int)=a/\n.rule=(b:Int)
noncomputable def ze8 (rs:List PR)(ns:List PN)(r:Int):List Nat:=if 0<=r/\r<rs.length then memb (rchB (callE rs ns) r.toNat) rs.length else []
theorem zhh {f g:Nat->Bool}:∀n,(∀i,i<n->f i=true->g i=true)->cnt f n<=cnt g n
 |0,_=>Nat.le_refl _
 |n+1,h=>by
  show cnt f n+(f n).toNat<=cnt g n+(g n).toNat;have h1:=zhh n (fun i hi=>h i (by omega));have h2:=h n (by omega);cases hf:f n with
  |false=>simp;omega
  |true=>rw[h2 hf];simp;omega
theorem zk9 {f g:Nat->Bool}:∀n,(∀i,i<n->f i=true->g i=true)->(∃j,j<n/\f j=false/\g j=true)->cnt f n<cnt g n
 |0,_,⟨j,hj,_⟩=>absurd hj (Nat.not_lt_zero _)
 |n+1,h,⟨j,hj,hf,hg⟩=>by
  show cnt f n+(f n).toNat<cnt g n+(g n).toNat;have h2:=h n (by omega);by_cases e:j=n
  ·subst e
   have h1:=zhh j (fun i hi=>h i (by omega));rw[hf,hg];simp;omega
  ·have h1:=zk9 n (fun i hi=>h i (by omega)) ⟨j,by omega,hf,hg⟩
   cases hf:f n with
   |false=>simp;omega
   |true=>rw[h2 hf];simp;omega
theorem zjj {E:Nat->Nat->Prop}{r0 n:Nat}{m:Nat->Bool}(h0:m r0=true)(hc:∀a b,a<n->m a=true->E a b->m b=true)(hE:∀a b,E a b->b<n)(hr:r0<n):∀j,Rch E r0 j->m j=true/\j<n:=by
 intro j hj
 induction hj with
 |here=>exact⟨h0,hr⟩
 |call _ e ih=>exact⟨hc _ _ ih.2 ih.1 e,hE _ _ e⟩
theorem zmw {E:Nat->Nat->Prop}{r0 n:Nat}{m:Nat->Bool}(h0:m r0=true)(hc:∀a b,a<n->m a=true->E a b->m b=true)(hE:∀a b,E a b->b<n)(hr:r0<n)(hs:∀j,j<n->m j=true->Rch E r0 j):∀j,j<n->m j=rchB E r0 j:=by
 intro j hj;cases hm:m j with
 |true=>exact(zq4.2 (hs j hj hm)).symm
 |false=>
  cases hb:rchB E r0 j with
  |false=>rfl
  |true=>have:=(zjj h0 hc hE hr j (zq4.1 hb)).1;rw[hm] at this;cases this
theorem zs3 {E:Nat->Nat->Prop}{r0 n k:Nat}{m m':Nat->Bool}(h0:m r0=true)(hE:∀a b,E a b->b<n)(hr:r0<n)(hs:∀j,j<n->m' j=true->Rch E r0 j)(hle:∀j,j<n->m j=true->m' j=true)
  (hstep:∀a b,a<n->m a=true->E a b->m' b=true) (h:(∀a b,a<n->m a=true->E a b->m b=true)∨k<cnt m n) :
  (∀a b,a<n->m' a=true->E a b->m' b=true)∨k+1<cnt m' n:=by
 by_cases hc:∀a b,a<n->m a=true->E a b->m b=true
 ·left
  intro a b ha hm he;have h1:=zjj h0 hc hE hr b (.call (hs a ha hm) he);exact hle b h1.2 h1.1
 ·right
  rcases h with h|h
  ·exact absurd h hc
  ·have:∃j,j<n/\m j=false/\m' j=true:=by
    apply Classical.byContradiction;intro hn;apply hc;intro a b ha hm he;cases hb:m b with
    |true=>rfl
    |false=>exact absurd ⟨b,hE a b he,hb,hstep a b ha hm he⟩ hn
   have:=zk9 n hle this;omega
theorem zvp {E:Nat->Nat->Prop}{n:Nat}{m:Nat->Bool}(h:(∀a b,a<n->m a=true->E a b->m b=true)∨n<cnt m n):∀a b,a<n->m a=true->E a b->m b=true:=by
 rcases h with h|h
 ·exact h
 ·have:=zmk m n;omega
theorem zvq {n:PN}{R:Nat}(h:madeB n R=true):0<=n.op/\n.op<=9/\(n.op=2->0<=n.rule/\n.rule<R)/\(n.op≠2->n.rule=0)/\(n.op≠1->n.s0=0/\n.s1=0/\n.s2=0/\n.s3=0):=by
 unfold madeB at h;simp only[Bool.and_eq_true,decide_eq_true_eq] at h;obtain⟨⟨⟨⟨h1,h2⟩,-⟩,h3⟩,h4⟩:=h;refine⟨h1,h2,fun e=>?_,fun e=>?_,fun e=>?_⟩
 ·rw[if_pos e] at h3;simpa using h3
 ·rw[if_neg e] at h3;simpa using h3
 ·simp at h4
  rcases h4 with h4|h4
  ·exact absurd h4 e
  ·exact⟨h4.1.1.1,h4.1.1.2,h4.1.2,h4.2⟩
theorem zvr {rs:List PR}{ns:List PN}(h:∀i,i<ns.length->zbc ns rs.length i=false){i:Nat}{n:PN}(hn:ns[i]?=some n):madeB n rs.length=true:=by
 have:=h i (List.getElem?_eq_some_iff.1 hn).1;unfold zbc at this;rw[hn] at this;simpa using this
theorem z0c {rs:List PR}{ns:List PN}(h:∀i,i<ns.length->zbc ns rs.length i=false){n:PN}(hn:n ∈ ns):madeB n rs.length=true:=by
 obtain⟨i,hi,rfl⟩:=List.getElem_of_mem hn;exact zvr h (List.getElem?_eq_getElem hi)
end
section
open Go.RowKit
theorem Bl.set' {w:World}{b o:Nat}{t:TypeId}{cs:Array Value}(h:Bl w b t cs)(u:Value):Bl (w.setCell ⟨b,o,none⟩ u) b t (cs.setIfInBounds o u):=heap_setCell_same w b o _ _ u h
theorem NAt.off {f:Nat->Nat}{n b c o:Nat}{v:Value}{w:World}(h:NAt f n b w)(hc:b≠c):NAt f n b (w.setCell ⟨c,o,none⟩ v):=fun j hj=>by
 obtain⟨h1,h2⟩:=h j hj;exact⟨by rw[World.cell?_setCell_other _ _ _ _ (by intro e;injection e with e;exact hc e.symm)];exact h1,by rw[World.frozen?_setCell];exact h2⟩
theorem zh8 {w:World}{B:Nat}(hB:B=w.heap.size)(x:Value)(t:TypeId):∀j u,[x][j]?=some u->(w.alloc (.cells #[x] t)).cell? ((⟨B,0,none⟩:Addr).add j)=some u:=by
 subst hB;exact zaq w x t
end
section
open Go.RowKit
end
section
open Go.RowKit
end
section
open Go.RowKit
def natsV (l:List Nat):List Value:=intsV (l.map fun k:Nat=>(k:Int))
theorem zjk (l:List Nat)(k:Nat):natsV (l++[k])=natsV l++[.int .i64 (k:Int)]:=by unfold natsV intsV;rw[List.map_append,List.map_append];rfl
def zb5 (l:List Nat)(w:World)(e:Ending)(w':World):Prop:=∃u,e=.returned u/\w'.ownsRow w.heap.size 3 1 u l.length (natsV l)/\Below w.heap.size w w'
theorem zox (ra:Option Addr)(rn rc:Nat)(nv:Value)(ns:List PN)(r:Int)(w:World)(hN:NodesAt w nv ns)(hs:ns.length<=1000000) :
  Calls Tryz.prog 27 #[.agg #[.slice ra rn rc,nv],.int .i64 r] w (zb5 (zco ns r) w):=by
 obtain⟨hl,a,ca,rfl,ha⟩:=id hN;obtain⟨ii,hii,hz0,hz1,hz2⟩:=info_parts za3;go_enter Tryz.func27,Tryz.ntmps27;go_wp2
 go_loopw [11,5] (fun c u wr=>∃k:Nat,k<=ns.length/\c=.int .i64 k/\wr.ownsRow w.heap.size 3 1 u (memb (zg3 ns r) k).length (natsV (memb (zg3 ns r) k))/\Below w.heap.size w wr/\w.heap.size<wr.heap.size) (fun c _ _=>ns.length-(intOf c).toNat)
 case atStart=>exact⟨0,Nat.zero_le _,rfl,World.ownsRow_nil _ _ _ _,zab _ _,by simp⟩
 case round=>
  obtain⟨k,hk,rfl,ho,hb,hz⟩:=hrel;obtain⟨ua,uc,rfl⟩:=zad ho;by_cases hlt:k<ns.length
  ·have k1:(k:Int)<(ns.length:Int):=by omega
   obtain⟨n,hn⟩:∃n,ns[k]?=some n:=⟨_,List.getElem?_eq_getElem hlt⟩;rcases ha with h0|⟨nb,no,rfl,hca⟩
   ·rw[h0] at hlt;exact absurd hlt (Nat.not_lt_zero _)
   obtain⟨kv,c0,c1,c2,c3,c4,c5,c6,ci,-⟩:=(hca k n hn).kept hb (Nat.le_refl _);obtain⟨ka,kc,rfl,-⟩:=ci;have HM:=Lib.hid (zms (zg3 ns r) k);have HC:=Lib.hid (zmv (r:=r) hn);have HB:=Lib.hid hb;have HO:=Lib.hid ho;have hle:=Lib.hid (zk5 (zg3 ns r) k);clear hca hn hb ho;cases h1:decide (n.op=2) with
   |false=>
    have e1:(n.op == 2)=false:=by simpa using h1
    rw[h1] at HC;clear h1;go_wp2;go_roundw
    case rel=>exact⟨k+1,by omega,by go_num,by rw[HM.out,HC.out];simpa using zaa HO.out (zab _ _),HB.out.alloc HB.out.size _,by simp;omega⟩
    case measure=>simp[intOf];omega
   |true=>
    have e1:n.op=2:=by simpa using h1
    rw[h1] at HC;rw[e1] at c0;clear h1;cases h2:decide (n.rule=r) with
    |false=>
     have e2:(n.rule == r)=false:=by simpa using h2
     rw[h2] at HC;clear h2;go_wp2;go_roundw
     case rel=>exact⟨k+1,by omega,by go_num,by rw[HM.out,HC.out];simpa using zaa HO.out (zab _ _),HB.out.alloc HB.out.size _,by simp;omega⟩
     case measure=>simp[intOf];omega
    |true=>
     have e2:(n.rule == r)=true:=by simpa using h2
     rw[h2] at HC;clear h2
     go_wp2_with (at_builtin;refine wpList_append_own _ rfl _ _ 29 rfl w.heap.size 3 ii _ 1 8 Tryz.underlying29 hii hz0 hz1 hz2 rfl (by decide) _ (memb (zg3 ns r) k).length _ rfl (zaa (zaa HO.out (zab _ _)) (zab _ _)) ⟨_,0,none⟩ 1 1 [.int .i64 (k:Int)] rfl rfl (zh8 (by simp) _ _) (by simp[Value.oneCell']) (by have:=hle.out;unfold maxLen;omega) (by have:=hle.out;omega) (by have:=HB.out.size;simp;omega) ?_;intro v5 w5 hown' hgrow _;have HO5:=Lib.hid hown';have HB5:=Lib.hid ((HB.out.trans ((zat _ _ _).mono HB.out.size)).grown hgrow (Nat.le_trans HB.out.size (zat _ _ _).size) (fun g e=>(HO.out.lt g e).1));have hz5:=hgrow.size;clear hown' hgrow)
     go_roundw
     case rel=>exact⟨k+1,by omega,by go_num,by rw[HM.out,HC.out];have:=HO5.out;simpa [zjk] using this,HB5.out,by simp at hz5;omega⟩
     case measure=>simp[intOf];omega
  ·obtain rfl:k=ns.length:=by omega
   have k1:¬(ns.length:Int)<(ns.length:Int):=by omega
   have HO:=Lib.hid ho;have HB:=Lib.hid hb;clear ho hb;go_wp2;go_ret;exact⟨_,rfl,HO.out,HB.out⟩
end
section
open Go.RowKit
theorem zgk {W:World}{base:Nat}{e:TypeId}{size n c g j:Nat}{xs:List Value}(h:W.ownsRow base e size (.slice (some ⟨g,0,none⟩) n c) n xs)(u:Value):(W.setCell ⟨g,j,none⟩ u).ownsRow base e size (.slice (some ⟨g,0,none⟩) n c) n (xs.set j u):=by
 obtain⟨hl,h⟩:=h;refine⟨by rw[List.length_set];exact hl,?_⟩;rcases h with⟨h,-⟩|⟨g',cap,cur,hv,hb,hh,h1,h2,h3,h4⟩
 ·cases h
 ·injection hv with e1 e2 e3
  injection e1 with e1;injection e1 with e1;subst e1 e3;refine .inr ⟨g,c,cur.setIfInBounds j u,rfl,hb,heap_setCell_same W g j _ _ u hh,h1,h2,by simpa using h3,?_⟩;rw[<-h4];rw[Array.toList_setIfInBounds,List.take_set]
theorem zan {W:World}{base:Nat}{e:TypeId}{size n c:Nat}{a:Option Addr}{xs:List Value}(h:W.ownsRow base e size (.slice a n c) n xs)(hn:0<n):∃g,a=some ⟨g,0,none⟩/\base<=g/\(∀j u,xs[j]?=some u->W.cell? ⟨g,j,none⟩=some u)/\∀o,W.frozen? ⟨g,o,none⟩=false:=by
 have h':=h;rcases h.2 with⟨-,e0⟩|⟨g,cap,cur,e,hb,-⟩
 ·omega
 ·injection e with e1 e2 e3
  subst e1 e3;exact⟨g,rfl,hb,fun j u hu=>by have:=h'.cells rfl j u hu;rw[Addr.add_lit,Nat.zero_add] at this;exact this,fun o=>h'.frozenAt o⟩
theorem z48 (s:String)(B:Nat)(w:World):(receiverAt 83 (.val (.pointer (some ⟨B,0,none⟩))) false (some s)).run Tryz.prog w=(loadVar 82 ⟨B,0,none⟩).run Tryz.prog w:=by kernel_rfl
theorem zla {nm:String}{f:FuncId}(hm:(Tryz.prog.info? 83).map (fun i=>(i.methods.find? (·.name == nm)).map (fun m=>(m.path,m.func)))=some (some (#[],some (f,false))))(k B:Nat)(w:World)(v:Value)(h:(loadVar 82 ⟨B,0,none⟩).run Tryz.prog w=.ok v w) :
  (Go.method (k+1) 83 (.pointer (some ⟨B,0,none⟩)) nm).run Tryz.prog w=.ok (f,v) w:=by
 cases hi:Tryz.prog.info? 83 with
 |none=>rw[hi] at hm;simp at hm
 |some i=>
  rw[hi] at hm;simp at hm;obtain⟨m,hf,hp,hfn⟩:=hm;unfold Go.method;simp[typeInfo,hi,hf,hp,hfn,follow,z48,h,Sem.run_bind]
theorem zoy {B:Nat}{w:World}{a:Option Addr}{n c:Nat}(h:w.cell? ⟨B,0,none⟩=some (.slice a n c)):(loadVar 82 ⟨B,0,none⟩).run Tryz.prog w=.ok (.slice a n c) w:=by
 simp[go_sem,loadVar,h]
theorem z3n (B:Nat)(w:World)(a:Option Addr)(n c:Nat)(h:w.cell? ⟨B,0,none⟩=some (.slice a n c)):(Go.method 353 83 (.pointer (some ⟨B,0,none⟩)) "Len").run Tryz.prog w=.ok (55,.slice a n c) w :=
 zla (by kernel_rfl) _ B w _ (zoy h)
theorem zgl (B:Nat)(w:World)(a:Option Addr)(n c:Nat)(h:w.cell? ⟨B,0,none⟩=some (.slice a n c)):(Go.method 353 83 (.pointer (some ⟨B,0,none⟩)) "Less").run Tryz.prog w=.ok (225,.slice a n c) w :=
 zla (by kernel_rfl) _ B w _ (zoy h)
theorem zeg (B:Nat)(w:World)(a:Option Addr)(n c:Nat)(h:w.cell? ⟨B,0,none⟩=some (.slice a n c)):(Go.method 353 83 (.pointer (some ⟨B,0,none⟩)) "Swap").run Tryz.prog w=.ok (226,.slice a n c) w :=
 zla (by kernel_rfl) _ B w _ (zoy h)
theorem z49 (B:Nat)(w:World):(Go.method 353 83 (.pointer (some ⟨B,0,none⟩)) "Push").run Tryz.prog w=.ok (228,.pointer (some ⟨B,0,none⟩)) w:=by kernel_rfl
theorem z8b (B:Nat)(w:World):(Go.method 353 83 (.pointer (some ⟨B,0,none⟩)) "Pop").run Tryz.prog w=.ok (227,.pointer (some ⟨B,0,none⟩)) w:=by kernel_rfl
theorem z3o (args:Array Value)(w:World):(callFunc 55 args).run Tryz.prog w=.ok (.enter 55 args) w:=MuLone.run_callFunc_enter Tryz.func55 (by kernel_rfl) rfl args w
theorem zvs (args:Array Value)(w:World):(callFunc 225 args).run Tryz.prog w=.ok (.enter 225 args) w:=MuLone.run_callFunc_enter Tryz.func225 (by kernel_rfl) rfl args w
theorem zoz (args:Array Value)(w:World):(callFunc 226 args).run Tryz.prog w=.ok (.enter 226 args) w:=MuLone.run_callFunc_enter Tryz.func226 (by kernel_rfl) rfl args w
theorem z5a (args:Array Value)(w:World):(callFunc 228 args).run Tryz.prog w=.ok (.enter 228 args) w:=MuLone.run_callFunc_enter Tryz.func228 (by kernel_rfl) rfl args w
theorem z8c (args:Array Value)(w:World):(callFunc 227 args).run Tryz.prog w=.ok (.enter 227 args) w:=MuLone.run_callFunc_enter Tryz.func227 (by kernel_rfl) rfl args w
theorem zet (x:Int)(w:World):(Instr.typeAssert (.iface 3 (.int .i64 x)) 20 3 false).run Tryz.prog w=.ok (.int .i64 x) w:=by kernel_rfl
def QAt (base B:Nat)(l:List Int)(w:World):Prop:=∃a cap,Bl w B 82 #[.slice a l.length cap]/\w.ownsRow base 3 1 (.slice a l.length cap) l.length (intsV l)
theorem QAt.below {base B:Nat}{l:List Int}{w w':World}(h:QAt base B l w)(hb:Below w.heap.size w w'):QAt base B l w':=by
 obtain⟨a,cap,hB,hO⟩:=h;exact⟨a,cap,hB.below hb,zaa hO hb⟩
theorem QAt.lt {base B:Nat}{l:List Int}{w:World}(h:QAt base B l w):B<w.heap.size:=by
 obtain⟨a,cap,hB,hO⟩:=h;exact hB.lt
def PermQ (base B:Nat)(l:List Int)(w w':World):Prop:=∃l',QAt base B l' w'/\l'.Perm l/\Kp base B B 3 w w'
theorem PermQ.refl {base B:Nat}{l:List Int}{w:World}(h:QAt base B l w):PermQ base B l w w:=⟨l,h,List.Perm.refl _,Kp.of_below (Below.refl _ _)⟩
theorem PermQ.below {base B:Nat}{l:List Int}{w w1 w':World}(h:PermQ base B l w w1)(hb:Below w1.heap.size w1 w'):PermQ base B l w w':=by
 obtain⟨l',h1,h2,h3⟩:=h;exact⟨l',h1.below hb,h2,h3.trans (Kp.of_below hb)⟩
theorem PermQ.trans {base B:Nat}{l l1:List Int}{w w1 w':World}(hp:l1.Perm l)(hk:Kp base B B 3 w w1)(h:PermQ base B l1 w1 w'):PermQ base B l w w':=by
 obtain⟨l',h1,h2,h3⟩:=h;exact⟨l',h1,h2.trans hp,hk.trans h3⟩
theorem zhi (a:Option Addr)(n c:Nat)(w:World):Calls Tryz.prog 55 #[.slice a n c] w fun e w'=>e=.returned (.int .i64 (n:Int))/\w'=w:=by
 go_enter Tryz.func55,Tryz.ntmps55;go_wp2;go_ret;exact⟨rfl,rfl⟩
theorem zmx (g n c i j:Nat)(x y:Int)(w:World)(hi:i<n)(hj:j<n)(hx:w.cell? ⟨g,i,none⟩=some (.int .i64 x))(hy:w.cell? ⟨g,j,none⟩=some (.int .i64 y)) :
  Calls Tryz.prog 225 #[.slice (some ⟨g,0,none⟩) n c,.int .i64 (i:Int),.int .i64 (j:Int)] w fun e w'=>e=.returned (.bool (decide (x<y)))/\Below w.heap.size w w':=by
 have k1:(i:Int)<(n:Int):=by omega
 have k2:(j:Int)<(n:Int):=by omega
 go_enter Tryz.func225,Tryz.ntmps225;go_wp2;go_quiet (fail);go_wp2;go_ret;exact⟨rfl,by first|exact zak (Below.refl _ _)|exact(Below.refl _ _).drew|exact Below.refl _ _⟩
theorem zf0 (l:List Int)(i:Nat)(x:Int):intsV (l.set i x)=(intsV l).set i (.int .i64 x):=by unfold intsV;rw[List.map_set]
theorem z5b {base B g i j c:Nat}{l:List Int}{x y:Int}{w:World}(hB:Bl w B 82 #[.slice (some ⟨g,0,none⟩) l.length c])(hO:w.ownsRow base 3 1 (.slice (some ⟨g,0,none⟩) l.length c) l.length (intsV l))(hx:l[i]?=some x)(hy:l[j]?=some y) :
  PermQ base B l w ((w.setCell ⟨g,i,none⟩ (.int .i64 y)).setCell ⟨g,j,none⟩ (.int .i64 x)):=by
 obtain⟨hi,rfl⟩:=List.getElem?_eq_some_iff.1 hx;obtain⟨hj,rfl⟩:=List.getElem?_eq_some_iff.1 hy;have hne:B≠g:=by
  intro e;subst e;exact za9 hO ⟨_,_,hB⟩ (by decide) rfl
 have hbg:base<=g:=(hO.lt g rfl).1;obtain⟨cs,hk⟩:∃cs,w.heap[g]?=some (.cells cs 3 (0,0)):=by
  rcases hO.2 with⟨h,-⟩|⟨g',cap,cur,hv,-,hh,-⟩
  ·cases h
  ·injection hv with e1 e2 e3
   injection e1 with e1;injection e1 with e1;subst e1;exact⟨cur,hh⟩
 have h1:=zgk (j:=i) hO (.int .i64 l[j]);have h2:=zgk (j:=j) h1 (.int .i64 l[i]);rw[<-zf0,<-zf0] at h2;have hb2:=(hB.other (o:=i) hne (.int .i64 l[j])).other (o:=j) hne (.int .i64 l[i]);have hk2:=heap_setCell_same w g i _ _ (.int .i64 l[j]) hk;refine⟨(l.set i l[j]).set j l[i],⟨some ⟨g,0,none⟩,c,?_,?_⟩,List.set_set_perm hi hj,(Kp.set hk (.inr (.inr ⟨hbg,rfl⟩)) _).trans (Kp.set hk2 (.inr (.inr ⟨hbg,rfl⟩)) _)⟩
 ·rw[List.length_set,List.length_set];exact hb2
 ·rw[List.length_set,List.length_set];exact h2
theorem zeu {w:World}{g i j:Nat}{x y:Value}(hx:w.cell? ⟨g,i,none⟩=some x)(hy:w.cell? ⟨g,j,none⟩=some y):(w.setCell ⟨g,i,none⟩ y).cell? ⟨g,j,none⟩=some y:=by
 by_cases e:i=j
 ·subst e;exact World.cell?_setCell_same' _ _ _ (by rw[hx];rfl)
 ·rw[World.cell?_setCell_other _ _ _ _ (by intro h;injection h with _ h;exact e h)];exact hy
theorem PermQ.drew {base B:Nat}{l:List Int}{w w':World}(h:PermQ base B l w w'):PermQ base B l w w'.drew:=h.below ((Below.refl _ _).drew)
theorem zeh (base B g c i j:Nat)(l:List Int)(w:World)(hB:Bl w B 82 #[.slice (some ⟨g,0,none⟩) l.length c])(hO:w.ownsRow base 3 1 (.slice (some ⟨g,0,none⟩) l.length c) l.length (intsV l))(hi:i<l.length)(hj:j<l.length) :
  Calls Tryz.prog 226 #[.slice (some ⟨g,0,none⟩) l.length c,.int .i64 (i:Int),.int .i64 (j:Int)] w fun e w'=>(∃v,e=.returned v)/\PermQ base B l w w':=by
 obtain⟨x,hx⟩:∃x,l[i]?=some x:=⟨_,List.getElem?_eq_getElem hi⟩;obtain⟨y,hy⟩:∃y,l[j]?=some y:=⟨_,List.getElem?_eq_getElem hj⟩;obtain⟨g',e,-,hc,hf⟩:=zan hO (by omega);injection e with e;injection e with e;subst e;have cx:=hc i (.int .i64 x) (by unfold intsV;rw[List.getElem?_map,hx];rfl);have cy:=hc j (.int .i64 y) (by unfold intsV;rw[List.getElem?_map,hy];rfl);have fx:=hf i;have fy:=hf j;have k1:(i:Int)<(l.length:Int):=by omega
 have k2:(j:Int)<(l.length:Int):=by omega
 have H1:=Lib.hid (z5b (w:=w) (i:=i) (j:=j) hB hO hx hy);have c3:(w.setCell ⟨g,i,none⟩ (.int .i64 y)).cell? ⟨g,j,none⟩=some (.int .i64 y):=zeu cx cy;have c4:(w.setCell ⟨g,j,none⟩ (.int .i64 x)).cell? ⟨g,i,none⟩=some (.int .i64 x):=zeu cy cx;clear hB hO hc hf hx hy hi hj;go_enter Tryz.func226,Tryz.ntmps226;go_wp2
 go_region
 go_wp2
 go_end0
 exact⟨⟨_,rfl⟩,H1.out.drew⟩
theorem z0d (base B:Nat)(l:List Int)(x:Int)(w:World)(hQ:QAt base B (l++[x]) w)(hl:l.length<=1000000) :
  Calls Tryz.prog 227 #[.pointer (some ⟨B,0,none⟩)] w fun e w'=>e=.returned (.iface 3 (.int .i64 x))/\QAt base B l w'/\Kp base B B 3 w w':=by
 obtain⟨a,cap,hB,hO⟩:=hQ;have hlen:(l++[x]).length=l.length+1:=by simp
 rw[hlen] at hB hO;obtain⟨g,rfl,-,hc,hf⟩:=zan hO (by omega);have cx:=hc l.length (.int .i64 x) (by unfold intsV;rw[List.getElem?_map,List.getElem?_append_right (Nat.le_refl _),Nat.sub_self];rfl);have b0:w.cell? ⟨B,0,none⟩=some (.slice (some ⟨g,0,none⟩) (l.length+1) cap):=hB.cell (o:=0) rfl;have fb:=hB.free 0;have ew:IntKind.i64.wrap ((l.length:Int)+1-1)=(l.length:Int):=by rw[show(l.length:Int)+1-1=(l.length:Int) by omega];exact IntWalk.i64_in _ (by omega)
 have hcut:=zcy hO (k:=l.length) (by omega);have hcap:l.length+1<=cap:=by
  obtain⟨a1,c1,he,h,-⟩:=zbj hO;injection he with _ _ e3;omega
 have HB:=Lib.hid hB;rw[zbb,List.take_left' (zef l)] at hcut;have HC:=Lib.hid (ownsRow_setCell_other hcut (a:=⟨B,0,none⟩) (za9 hcut ⟨_,_,hB⟩ (by decide)) (.slice (some ⟨g,0,none⟩) l.length cap));clear hB hO hcut hc hf;go_enter Tryz.func227,Tryz.ntmps227;go_wp2;go_ret;exact⟨rfl,⟨_,cap,HB.out.set _,HC.out⟩,Kp.set HB.out (.inl rfl) _⟩
theorem z0e {base B c c5:Nat}{a a5:Option Addr}{l:List Int}{x:Int}{w w1 w5:World}(hO:w.ownsRow base 3 1 (.slice a l.length c) l.length (intsV l))(hb:Below w.heap.size w w1)
  (ho:w5.ownsRow base 3 1 (.slice a5 (l.length+1) c5) (l.length+1) (intsV l++[.int .i64 x])) (hg:w1.grownBy w5 (Value.slice a l.length c).ownBlock) (hx:Bl w5 B 82 #[.slice a l.length c]) :
  QAt base B (l++[x]) (w5.setCell ⟨B,0,none⟩ (.slice a5 (l.length+1) c5))/\Kp base B B 3 w (w5.setCell ⟨B,0,none⟩ (.slice a5 (l.length+1) c5)):=by
 have h1:=ownsRow_setCell_other ho (a:=⟨B,0,none⟩) (za9 ho ⟨_,_,hx⟩ (by decide)) (.slice a5 (l.length+1) c5);have e:intsV (l++[x])=intsV l++[.int .i64 x]:=by unfold intsV;rw[List.map_append];rfl
 have h2:=zaa hO hb;refine⟨⟨a5,c5,?_,?_⟩,((Kp.of_below hb).trans (Kp.grown hg (fun g e=>?_))).trans (Kp.set hx (.inl rfl) _)⟩
 ·rw[List.length_append];exact hx.set _
 ·rw[List.length_append,e];exact h1
 ·obtain⟨cs,fz,hc⟩:=Lib.ownsRow_kind h2 g e
  exact⟨(h2.lt g e).1,cs,fz,hc⟩
theorem zvt (base B:Nat)(l:List Int)(x:Int)(w:World)(hQ:QAt base B l w)(hl:l.length<=1000000)(hbs:base<=w.heap.size) :
  Calls Tryz.prog 228 #[.pointer (some ⟨B,0,none⟩),.iface 3 (.int .i64 x)] w fun e w'=>(∃v,e=.returned v)/\QAt base B (l++[x]) w'/\Kp base B B 3 w w':=by
 obtain⟨a,cap,hB,hO⟩:=hQ;obtain⟨ii,hii,hz0,hz1,hz2⟩:=info_parts za3;have b0:w.cell? ⟨B,0,none⟩=some (.slice a l.length cap):=hB.cell (o:=0) rfl;have fb:=hB.free 0;have lb:=hB.lt;have hta:=zet x;have HB:=Lib.hid hB;have HO:=Lib.hid hO;clear hB hO;go_enter Tryz.func228,Tryz.ntmps228;go_wp2
 go_region_law (refine zaw (by rfl) _ _ 82 (by rfl) base 3 ii _ 1 8 Tryz.underlying82 hii hz0 hz1 hz2 (by rfl) (by decide) (.slice a l.length cap) l.length _ (by simp[Act.eval]) (by refine zaa HO.out ?_;repeat (first|exact Below.refl _ _|refine Below.drew ?_|refine zae ?_ rfl _)) _ 1 1 [.int .i64 x] (by simp[Act.eval];rfl) (by rfl) (by refine Bl.news (t:=3) ?_;repeat (first|(refine Bl.new' ?_;simp;done)|refine Bl.drew ?_|refine Bl.past ?_)) (by simp[Value.oneCell']) (by unfold maxLen;omega) (by omega) (by simp;omega) ?_;intro a5 c5 w5 hown5 hgrow5 hat5;have hbw5:Hid (Below w.heap.size w (w.alloc (.cells #[.int .i64 x] 3)).drew):=Lib.hid (Below.drew (zae (Below.refl _ _) rfl _));have hg5:=(HB.out.below hbw5.out).grown hgrow5 (fun g e=>by obtain⟨c,fz,hc⟩:=Lib.ownsRow_kind (zaa HO.out hbw5.out) g e;exact⟨c,3,fz,hc,by decide⟩);have x0:=hg5.cell (o:=0) rfl;have xf:=hg5.free;have HO5:=Lib.hid hown5;have HG5:=Lib.hid hgrow5;have HX5:=Lib.hid hg5;clear hown5 hgrow5 hat5 hg5)
 all_goals
  go_wp2
  go_end0
  exact⟨⟨_,rfl⟩,z0e HO.out hbw5.out HO5.out HG5.out HX5.out⟩
theorem z8d (base B:Nat)(l:List Int)(j:Nat)(w:World)(hQ:QAt base B l w)(hj:j<l.length)(hl:l.length<=1000000) :
  Calls Tryz.prog 71 #[.iface 83 (.pointer (some ⟨B,0,none⟩)),.int .i64 (j:Int)] w fun e w'=>(∃v,e=.returned v)/\PermQ base B l w w':=by
 go_enter Tryz.func71,Tryz.ntmps71;go_wp2
 go_loopw [1] (fun c wr=>∃(l':List Int) (j:Nat),c=.int .i64 (j:Int)/\QAt base B l' wr/\l'.Perm l/\j<l'.length/\Kp base B B 3 w wr) (fun c _=>(intOf c).toNat)
 case atStart=>exact⟨l,j,rfl,hQ,List.Perm.refl _,hj,Kp.of_below (Below.refl _ _)⟩
 case round=>
  obtain⟨m,i,rfl,hQm,hpm,him,hkm⟩:=hrel;have hml:m.length<=1000000:=by rw[hpm.length_eq];exact hl
  obtain⟨a,cap,hB,hO⟩:=id hQm;obtain⟨g,rfl,-,hc,-⟩:=zan hO (by omega);have b0:wr.cell? ⟨B,0,none⟩=some (.slice (some ⟨g,0,none⟩) m.length cap):=hB.cell (o:=0) rfl;have m1:=zgl B wr _ _ _ b0;have q1:=zvs;have HK:=Lib.hid hkm;have HP:=Lib.hid hpm;have HB:=Lib.hid hB;have HO:=Lib.hid hO;have HQ:=Lib.hid hQm;by_cases h0:i=0
  ·subst h0
   clear hkm hpm hB hO hQm hc;go_wp2
   go_end0
   exact⟨⟨_,rfl⟩,_,HQ.out,HP.out,HK.out⟩
  ·obtain⟨p,hp⟩:∃p:Nat,((i:Int)-1)/2=(p:Int):=⟨(i-1)/2,by omega⟩
   have hpi:p<i:=by omega
   obtain⟨x,hx⟩:∃x,m[i]?=some x:=⟨_,List.getElem?_eq_getElem him⟩;obtain⟨y,hy⟩:∃y,m[p]?=some y:=⟨_,List.getElem?_eq_getElem (by omega)⟩;have HC:=Lib.hid (zmx g m.length cap i p x y wr him (by omega) (hc i _ (by unfold intsV;rw[List.getElem?_map,hx];rfl)) (hc p _ (by unfold intsV;rw[List.getElem?_map,hy];rfl)));have k1:((p:Int) == (i:Int))=false:=by rw[beq_eq_false_iff_ne];omega
   clear hkm hpm hB hO hQm hc hx hy;cases hxy:decide (x<y) with
   |false=>
    rw[hxy] at HC
    go_wp2_with (go_at_call 225;(with_reducible refine HC.out.mono ?_);rintro e w2 ⟨rfl,hb⟩;have HB2:=Lib.hid hb;clear hb)
    go_end0
    exact⟨⟨_,rfl⟩,_,HQ.out.below HB2.out,HP.out,HK.out.trans (Kp.of_below HB2.out)⟩
   |true=>
    rw[hxy] at HC
    go_wp2_with (first
     |(go_at_call 225;(with_reducible refine HC.out.mono ?_);rintro e w2 ⟨rfl,hb⟩;have HB2:=Lib.hid (HB.out.below hb);have HO2:=Lib.hid (zaa HO.out hb);have HK2:=Lib.hid (HK.out.trans (Kp.of_below hb));have b2:w2.cell? ⟨B,0,none⟩=some (.slice (some ⟨g,0,none⟩) m.length cap):=HB2.out.cell (o:=0) rfl;have m2:=zeg B w2 _ _ _ b2;have q2:=zoz;clear hb)
     |(go_at_call 226;(with_reducible refine(zeh base B g cap p i m _ HB2.out HO2.out (by omega) him).mono ?_);rintro e w3 ⟨⟨v3,rfl⟩,hp3⟩;have HP3:=Lib.hid hp3;clear hp3))
    obtain⟨m',h1,h2,h3⟩:=HP3.out;exact⟨⟨m',p,rfl,h1,h2.trans HP.out,by rw[h2.length_eq];omega,HK2.out.trans h3⟩,by simp[intOf];omega⟩
theorem zbt (base g cap i j:Nat)(m:List Int)(x y:Int)(b:Bool)(W:World)(hO:W.ownsRow base 3 1 (.slice (some ⟨g,0,none⟩) m.length cap) m.length (intsV m))(hx:m[i]?=some x)(hy:m[j]?=some y)(hb:decide (x<y)=b) :
  Calls Tryz.prog 225 #[.slice (some ⟨g,0,none⟩) m.length cap,.int .i64 (i:Int),.int .i64 (j:Int)] W fun e w'=>e=.returned (.bool b)/\Below W.heap.size W w':=by
 have hi:=(List.getElem?_eq_some_iff.1 hx).1;have hj:=(List.getElem?_eq_some_iff.1 hy).1;obtain⟨g',e,-,hc,-⟩:=zan hO (by omega);injection e with e;injection e with e;subst e;subst hb;exact zmx g m.length cap i j x y W hi hj (hc i _ (by unfold intsV;rw[List.getElem?_map,hx];rfl)) (hc j _ (by unfold intsV;rw[List.getElem?_map,hy];rfl))
def QO (base B g cap:Nat)(m:List Int)(w W:World):Prop:=Bl W B 82 #[.slice (some ⟨g,0,none⟩) m.length cap]/\W.ownsRow base 3 1 (.slice (some ⟨g,0,none⟩) m.length cap) m.length (intsV m)/\Kp base B B 3 w W
theorem QO.below {base B g cap:Nat}{m:List Int}{w W W':World}(h:QO base B g cap m w W)(hb:Below W.heap.size W W'):QO base B g cap m w W':=⟨h.1.below hb,zaa h.2.1 hb,h.2.2.trans (Kp.of_below hb)⟩
theorem QO.bl {base B g cap:Nat}{m:List Int}{w W:World}(h:QO base B g cap m w W):Bl W B 82 #[.slice (some ⟨g,0,none⟩) m.length cap]:=h.1
theorem QO.cell {base B g cap:Nat}{m:List Int}{w W:World}(h:QO base B g cap m w W):W.cell? ⟨B,0,none⟩=some (.slice (some ⟨g,0,none⟩) m.length cap):=h.1.cell (o:=0) rfl
theorem QO.own {base B g cap:Nat}{m:List Int}{w W:World}(h:QO base B g cap m w W):W.ownsRow base 3 1 (.slice (some ⟨g,0,none⟩) m.length cap) m.length (intsV m):=h.2.1
theorem QO.kp {base B g cap:Nat}{m:List Int}{w W:World}(h:QO base B g cap m w W):Kp base B B 3 w W:=h.2.2
theorem QO.q {base B g cap:Nat}{m:List Int}{w W:World}(h:QO base B g cap m w W):QAt base B m W:=⟨_,cap,h.1,h.2.1⟩
theorem QO.open {base B:Nat}{m:List Int}{w W:World}(h:QAt base B m W)(hk:Kp base B B 3 w W)(hm:0<m.length):∃g cap,QO base B g cap m w W:=by
 obtain⟨a,cap,hB,hO⟩:=h;obtain⟨g,rfl,-⟩:=zan hO hm;exact⟨g,cap,hB,hO,hk⟩
end
section
open Go.RowKit
theorem z0f (base B n:Nat)(l:List Int)(w:World)(hQ:QAt base B l w)(hn:n<=l.length)(hn0:0<l.length)(hl:l.length<=1000000) :
  Calls Tryz.prog 72 #[.iface 83 (.pointer (some ⟨B,0,none⟩)),.int .i64 0,.int .i64 (n:Int)] w fun e w'=>(∃v,e=.returned v)/\PermQ base B l w w':=by
 go_enter Tryz.func72,Tryz.ntmps72;go_wp2
 go_loopw [7] (fun c wr=>∃(m:List Int) (j:Nat),c=.int .i64 (j:Int)/\QAt base B m wr/\m.Perm l/\j<m.length/\Kp base B B 3 w wr) (fun c _=>l.length-(intOf c).toNat)
 case atStart=>exact⟨l,0,rfl,hQ,List.Perm.refl _,hn0,Kp.of_below (Below.refl _ _)⟩
 case round=>
  obtain⟨m,i,rfl,hQm,hpm,him,hkm⟩:=hrel;have hlen:=hpm.length_eq;obtain⟨g,cap,hqo⟩:=QO.open hQm hkm (by omega);have b0:=hqo.cell;have HQ:=Lib.hid hqo;have HP:=Lib.hid hpm;have q1:=zvs;have q2:=zoz;have e1:(2:Int)*(i:Int)+1=((2*i+1:Nat):Int):=by omega
  obtain⟨p,hp⟩:∃p:Nat,p=2*i+1:=⟨_,rfl⟩;rw[<-hp] at e1;have w1:IntKind.i64.wrap ((2:Int)*(i:Int))=(2:Int)*(i:Int):=IntWalk.i64_in _ (by omega);have w2:IntKind.i64.wrap ((2:Int)*(i:Int)+1)=(p:Int):=by rw[e1];exact IntWalk.i64_in _ (by omega)
  have HIM:=Lib.hid him;have HLEN:=Lib.hid hlen;have HPI:=Lib.hid hp;clear hQm hkm hpm hqo hQ e1;by_cases h0:n<=p
  ·have k1:(n:Int)<=(p:Int):=by omega
   clear him hlen hp h0;go_wp2;go_ret;exact⟨⟨_,rfl⟩,m,HQ.out.q,HP.out,HQ.out.kp⟩
  ·have k1:¬(n:Int)<=(p:Int):=by omega
   have k2:¬(p:Int)<0:=by omega
   have m1:=zgl B wr _ _ _ b0;obtain⟨x,hx⟩:∃x,m[i]?=some x:=⟨_,List.getElem?_eq_getElem him⟩;obtain⟨y,hy⟩:∃y,m[p]?=some y:=⟨_,List.getElem?_eq_getElem (by omega)⟩;have e2:(p:Int)+1=((p+1:Nat):Int):=by omega
   obtain⟨r,hr⟩:∃r:Nat,r=p+1:=⟨_,rfl⟩;rw[<-hr] at e2;have w3:IntKind.i64.wrap ((p:Int)+1)=(r:Int):=by rw[e2];exact IntWalk.i64_in _ (by omega)
   clear e2;have HX:=Lib.hid hx;have HY:=Lib.hid hy;have HPL:=Lib.hid (show p<m.length by omega);have HRI:=Lib.hid hr;by_cases h2:r<n
   ·have k3:(r:Int)<(n:Int):=by omega
    obtain⟨z,hz⟩:∃z,m[r]?=some z:=⟨_,List.getElem?_eq_getElem (by omega)⟩;have HZ:=Lib.hid hz;have HRL:=Lib.hid (show r<m.length by omega);clear hz hx hy him hlen hp hr h0 h2;cases hzy:decide (z<y) with
    |true=>
     cases hc:decide (z<x) with
     |false=>
      go_wp2_with (first
       |(go_at_call 225;(with_reducible refine(zbt base g cap r p m z y true _ HQ.out.own HZ.out HY.out hzy).mono ?_);rintro e w5 ⟨rfl,hb⟩;have HQ2:=Lib.hid (HQ.out.below hb);have b2:=HQ2.out.cell;have m2:=zgl B w5 _ _ _ b2;clear hb)
       |(go_at_call 225;(with_reducible refine(zbt base g cap r i m z x false _ HQ2.out.own HZ.out HX.out hc).mono ?_);rintro e w6 ⟨rfl,hb⟩;have HQ3:=Lib.hid (HQ2.out.below hb);have b3:=HQ3.out.cell;have m3:=zeg B w6 _ _ _ b3;clear hb))
      go_ret;exact⟨⟨_,rfl⟩,m,HQ3.out.q,HP.out,HQ3.out.kp⟩
     |true=>
      go_wp2_with (first
       |(go_at_call 225;(with_reducible refine(zbt base g cap r p m z y true _ HQ.out.own HZ.out HY.out hzy).mono ?_);rintro e w5 ⟨rfl,hb⟩;have HQ2:=Lib.hid (HQ.out.below hb);have b2:=HQ2.out.cell;have m2:=zgl B w5 _ _ _ b2;clear hb)
       |(go_at_call 225;(with_reducible refine(zbt base g cap r i m z x true _ HQ2.out.own HZ.out HX.out hc).mono ?_);rintro e w6 ⟨rfl,hb⟩;have HQ3:=Lib.hid (HQ2.out.below hb);have b3:=HQ3.out.cell;have m3:=zeg B w6 _ _ _ b3;clear hb)
       |(go_at_call 226;(with_reducible refine(zeh base B g cap i r m _ HQ3.out.bl HQ3.out.own HIM.out HRL.out).mono ?_);rintro e w7 ⟨⟨v7,rfl⟩,hp4⟩;have HP4:=Lib.hid hp4;clear hp4))
      obtain⟨m',g1,g2,g3⟩:=HP4.out;exact⟨⟨m',r,rfl,g1,g2.trans HP.out,by rw[g2.length_eq];exact HRL.out,HQ3.out.kp.trans g3⟩,by have:=HPI.out;have:=HRI.out;have:=HIM.out;have:=HLEN.out;simp[intOf];omega⟩
    |false=>
     cases hc:decide (y<x) with
     |false=>
      go_wp2_with (first
       |(go_at_call 225;(with_reducible refine(zbt base g cap r p m z y false _ HQ.out.own HZ.out HY.out hzy).mono ?_);rintro e w5 ⟨rfl,hb⟩;have HQ2:=Lib.hid (HQ.out.below hb);have b2:=HQ2.out.cell;have m2:=zgl B w5 _ _ _ b2;clear hb)
       |(go_at_call 225;(with_reducible refine(zbt base g cap p i m y x false _ HQ2.out.own HY.out HX.out hc).mono ?_);rintro e w6 ⟨rfl,hb⟩;have HQ3:=Lib.hid (HQ2.out.below hb);have b3:=HQ3.out.cell;have m3:=zeg B w6 _ _ _ b3;clear hb))
      go_ret;exact⟨⟨_,rfl⟩,m,HQ3.out.q,HP.out,HQ3.out.kp⟩
     |true=>
      go_wp2_with (first
       |(go_at_call 225;(with_reducible refine(zbt base g cap r p m z y false _ HQ.out.own HZ.out HY.out hzy).mono ?_);rintro e w5 ⟨rfl,hb⟩;have HQ2:=Lib.hid (HQ.out.below hb);have b2:=HQ2.out.cell;have m2:=zgl B w5 _ _ _ b2;clear hb)
       |(go_at_call 225;(with_reducible refine(zbt base g cap p i m y x true _ HQ2.out.own HY.out HX.out hc).mono ?_);rintro e w6 ⟨rfl,hb⟩;have HQ3:=Lib.hid (HQ2.out.below hb);have b3:=HQ3.out.cell;have m3:=zeg B w6 _ _ _ b3;clear hb)
       |(go_at_call 226;(with_reducible refine(zeh base B g cap i p m _ HQ3.out.bl HQ3.out.own HIM.out HPL.out).mono ?_);rintro e w7 ⟨⟨v7,rfl⟩,hp4⟩;have HP4:=Lib.hid hp4;clear hp4))
      obtain⟨m',g1,g2,g3⟩:=HP4.out;exact⟨⟨m',p,rfl,g1,g2.trans HP.out,by rw[g2.length_eq];exact HPL.out,HQ3.out.kp.trans g3⟩,by have:=HPI.out;have:=HRI.out;have:=HIM.out;have:=HLEN.out;simp[intOf];omega⟩
   ·have k3:¬(r:Int)<(n:Int):=by omega
    clear hx hy him hlen hp hr h0 h2;cases hc:decide (y<x) with
    |false=>
     go_wp2_with (first
       |(go_at_call 225;(with_reducible refine(zbt base g cap p i m y x false _ HQ.out.own HY.out HX.out hc).mono ?_);rintro e w6 ⟨rfl,hb⟩;have HQ3:=Lib.hid (HQ.out.below hb);have b3:=HQ3.out.cell;have m3:=zeg B w6 _ _ _ b3;clear hb))
     go_ret;exact⟨⟨_,rfl⟩,m,HQ3.out.q,HP.out,HQ3.out.kp⟩
    |true=>
     go_wp2_with (first
       |(go_at_call 225;(with_reducible refine(zbt base g cap p i m y x true _ HQ.out.own HY.out HX.out hc).mono ?_);rintro e w6 ⟨rfl,hb⟩;have HQ3:=Lib.hid (HQ.out.below hb);have b3:=HQ3.out.cell;have m3:=zeg B w6 _ _ _ b3;clear hb)
       |(go_at_call 226;(with_reducible refine(zeh base B g cap i p m _ HQ3.out.bl HQ3.out.own HIM.out HPL.out).mono ?_);rintro e w7 ⟨⟨v7,rfl⟩,hp4⟩;have HP4:=Lib.hid hp4;clear hp4))
     obtain⟨m',g1,g2,g3⟩:=HP4.out;exact⟨⟨m',p,rfl,g1,g2.trans HP.out,by rw[g2.length_eq];exact HPL.out,HQ3.out.kp.trans g3⟩,by have:=HPI.out;have:=HRI.out;have:=HIM.out;have:=HLEN.out;simp[intOf];omega⟩
end
section
open Go.RowKit
theorem zvu (base B:Nat)(l:List Int)(x:Int)(w:World)(hQ:QAt base B l w)(hl:l.length<=900000)(hbs:base<=w.heap.size) :
  Calls Tryz.prog 41 #[.iface 83 (.pointer (some ⟨B,0,none⟩)),.iface 3 (.int .i64 x)] w fun e w'=>(∃v,e=.returned v)/\PermQ base B (l++[x]) w w':=by
 have m1:=z49 B w;have q1:=z5a;have q2:=z3o;have HC:=Lib.hid (zvt base B l x w hQ (by omega) hbs);have hl2:(l++[x]).length=l.length+1:=by simp
 clear hQ;go_enter Tryz.func41,Tryz.ntmps41
 go_wp2_with (first
  |(go_at_call 228;(with_reducible refine HC.out.mono ?_);rintro e w2 ⟨⟨v2,rfl⟩,hq2,hk2⟩;have HK2:=Lib.hid hk2;have HQ2:=Lib.hid hq2;obtain⟨a2,c2,hB2,hO2⟩:=hq2;rw[hl2] at hB2;have b2:w2.cell? ⟨B,0,none⟩=some (.slice a2 (l.length+1) c2):=hB2.cell (o:=0) rfl;have m2:=z3n B w2 _ _ _ b2;have ew:IntKind.i64.wrap (((l.length+1:Nat):Int)-1)=(l.length:Int):=(by rw[show((l.length+1:Nat):Int)-1=(l.length:Int) by omega];exact IntWalk.i64_in _ (by omega));clear hB2 hO2 hk2)
  |(go_at_call 55;(with_reducible refine(zhi _ _ _ _).mono ?_);rintro e w3 ⟨rfl,hw⟩;obtain rfl:=hw.symm;clear hw)
  |(go_at_call 71;(with_reducible refine(z8d base B (l++[x]) l.length _ HQ2.out (by rw[hl2];omega) (by rw[hl2];omega)).mono ?_);rintro e w4 ⟨⟨v4,rfl⟩,hp4⟩;have HP4:=Lib.hid hp4;clear hp4))
 go_end0
 exact⟨⟨_,rfl⟩,HP4.out.trans (List.Perm.refl _) HK2.out⟩
def PopIs (base B:Nat)(l:List Int)(w:World)(e:Ending)(w':World):Prop:=∃(x:Int) (m:List Int),e=.returned (.iface 3 (.int .i64 x))/\QAt base B m w'/\(m++[x]).Perm l/\Kp base B B 3 w w'
theorem QAt.last {base B:Nat}{l:List Int}{w:World}(h:QAt base B l w)(h0:0<l.length):∃m x,l=m++[x]/\QAt base B (m++[x]) w:=by
 refine⟨l.dropLast,l.getLast (by intro e;rw[e] at h0;exact absurd h0 (Nat.lt_irrefl _)),?_,?_⟩
 ·rw[List.dropLast_concat_getLast]
 ·rw[List.dropLast_concat_getLast];exact h
theorem z0g (base B n:Nat)(l:List Int)(w:World)(hQ:QAt base B l w)(hn:l.length=n+1)(hl:n<=900000) :
  Calls Tryz.prog 43 #[.iface 83 (.pointer (some ⟨B,0,none⟩))] w (PopIs base B l w):=by
 obtain⟨g,cap,hqo⟩:=QO.open hQ (Kp.of_below (Below.refl _ _)) (by omega);have b0:=hqo.cell;have hb:=hqo.bl;have ho:=hqo.own;rw[hn] at b0;have m1:=z3n B w _ _ _ b0;have q1:=z3o;have q2:=zoz;have q3:=z8c;have ew:IntKind.i64.wrap (((n+1:Nat):Int)-1)=(n:Int):=by rw[show((n+1:Nat):Int)-1=(n:Int) by omega];exact IntWalk.i64_in _ (by omega)
 have m2:=zeg B w _ _ _ b0;have HC:=Lib.hid (zeh base B g cap 0 n l w hb ho (by omega) (by omega));rw[hn,show((0:Nat):Int)=0 from rfl] at HC;have HN:=Lib.hid hn;clear hQ hqo hb ho hn;go_enter Tryz.func43,Tryz.ntmps43
 go_wp2_with (first
  |(go_at_call 55;(with_reducible refine(zhi _ _ _ _).mono ?_);rintro e w1 ⟨rfl,hw⟩;obtain rfl:=hw.symm;clear hw)
  |(go_at_call 226;(with_reducible refine HC.out.mono ?_);rintro e w2 ⟨⟨v2,rfl⟩,l2,hq2,hp2,hk2⟩;have HQ2:=Lib.hid hq2;have HP2:=Lib.hid hp2;have HK2:=Lib.hid hk2;have HL2:=Lib.hid (show l2.length=n+1 by rw[hp2.length_eq];exact HN.out);clear hq2 hp2 hk2)
  |(go_at_call 72;(with_reducible refine(z0f base B n l2 _ HQ2.out (by rw[HL2.out];omega) (by rw[HL2.out];omega) (by rw[HL2.out];omega)).mono ?_);rintro e w3 ⟨⟨v3,rfl⟩,l3,hq3,hp3,hk3⟩;have HL3:=Lib.hid (show l3.length=n+1 by rw[hp3.length_eq];exact HL2.out);obtain⟨m,x,hlx,hq4⟩:=hq3.last (by rw[HL3.out];omega);have HM:=Lib.hid (show m.length=n by have:=HL3.out;rw[hlx] at this;simpa using this);have HQ3:=Lib.hid hq4;have HP3:=Lib.hid (show(m++[x]).Perm l by rw[<-hlx];exact hp3.trans HP2.out);have HK3:=Lib.hid (HK2.out.trans hk3);have m4:=z8b B w3;clear hq3 hp3 hk3 hq4 hlx)
  |(go_at_call 227;(with_reducible refine(z0d base B m x _ HQ3.out (by rw[HM.out];omega)).mono ?_);rintro e w4 ⟨rfl,hq5,hk5⟩;have HQ5:=Lib.hid hq5;have HK5:=Lib.hid (HK3.out.trans hk5);clear hq5 hk5))
 go_ret;exact⟨x,m,rfl,HQ5.out,HP3.out,HK5.out⟩
end
section
open Go.RowKit
theorem zex {ns:List PN}:∀(rs:List PR) (b:Int),-1<=b->ordR ns rs b=true->∀(r:Nat) (x:PR),rs[r]?=some x->(b<=exL ns x.root/\exL ns x.root<x.root/\x.root<ns.length)/\∀i,b<i->(ownL rs i=r↔exL ns x.root<i/\i<=x.root)
 | [],_,_,_,r,x,h=>by simp at h
 |y::t,b,hb,ho,0,x,h=>by
  obtain⟨h1,h2,h3,h4⟩:=zdh ho;obtain rfl:y=x:=by simpa using h
  refine⟨⟨by omega,by omega,h2⟩,fun i hi=>?_⟩;by_cases hy:y.root<i
  ·rw[zb4 hy];omega
  ·rw[zch hy];omega
 |y::t,b,hb,ho,r+1,x,h=>by
  obtain⟨h1,h2,h3,h4⟩:=zdh ho;have hx:t[r]?=some x:=by simpa using h
  obtain⟨⟨g1,g2,g3⟩,g4⟩:=zex t y.root (by omega) h4 r x hx;refine⟨⟨by omega,g2,g3⟩,fun i hi=>?_⟩;by_cases hy:y.root<i
  ·rw[zb4 hy,<-g4 i hy];omega
  ·rw[zch hy];omega
theorem NodesAt.part {w:World}{xa:Option Addr}{xc:Nat}{xs:List PN}(h:NodesAt w (.slice xa xs.length xc) xs)(f i:Nat)(hf:f<=i)(hi:i<xs.length) :
  ∃b off,xa=some ⟨b,off,none⟩/\NodesAt w (.slice (some ⟨b,off+f*7,none⟩) (i+1-f) (xc-f)) ((xs.drop f).take (i+1-f)):=by
 obtain⟨hl,a,c,he,hx⟩:=h;injection he with h1 h2 h3;subst h1;rcases hx with h|⟨b,off,e,hx⟩
 ·rw[h] at hi;simp at hi
 ·have hlen:((xs.drop f).take (i+1-f)).length=i+1-f:=by rw[List.length_take,List.length_drop];omega
  refine⟨b,off,e,by omega,some ⟨b,off+f*7,none⟩,xc-f,by rw[hlen],.inr ⟨b,off+f*7,rfl,fun j n hn=>?_⟩⟩;have hj:j<i+1-f:=by have:=(List.getElem?_eq_some_iff.1 hn).1;omega
  rw[List.getElem?_take_of_lt hj,List.getElem?_drop] at hn;have:=hx (f+j) n hn;rw[show off+f*7+j*7=off+(f+j)*7 by omega];exact this
theorem zv5 (rv:Value)(nb no nc:Nat)(rs:List PR)(ns:List PN)(r i f:Nat)(x:PR)(w:World)(hR:RulesIn w rv rs)(hN:NodesAt w (.slice (some ⟨nb,no,none⟩) ns.length nc) ns)(hs:ns.length<=1000000)(hc:ns.length<=nc)(hx:rs[r]?=some x)(hi:x.root=(i:Int))(hil:i<ns.length)(hex:exL ns (i:Int) ≠ -2)(hf:fstL ns i=f)(hfi:f<=i) :
  Calls Tryz.prog 56 #[.agg #[rv,.slice (some ⟨nb,no,none⟩) ns.length nc],.int .i64 (r:Int)] w fun e w'=>e=.returned (.slice (some ⟨nb,no+f*7,none⟩) (i+1-f) (nc-f))/\Below w.heap.size w w':=by
 have hrl:=(List.getElem?_eq_some_iff.1 hx).1;obtain⟨-,ra,rc,rfl,hra⟩:=id hR;rcases hra with h0|⟨rb,ro,rfl,hca⟩
 ·rw[h0] at hrl;exact absurd hrl (Nat.not_lt_zero _)
 obtain⟨r0,r1⟩:=hca r x hx;rw[hi] at r1;have hC1:=fun(W:World) (hb:Below w.heap.size w W)=>zvi (some ⟨rb,ro,none⟩) rs.length rc (.slice (some ⟨nb,no,none⟩) ns.length nc) ns i W (hN.kept hb (Nat.le_refl _)) hil hex
 rw[hf] at hC1;have HC1:=Lib.hid hC1;have lr:=zac r0;have k0:(r:Int)<(rs.length:Int):=by omega
 have hiI:(i:Int)<ns.length:=by omega
 have hiI2:¬(ns.length:Int)<=i:=by omega
 have hfI:¬(f:Int)<0:=by omega
 have e1:(f:Int)<=(i:Int)+1:=by omega
 have e2:(i:Int)+1<=(nc:Int):=by omega
 have e3:¬nc=f:=by omega
 have e4:(0:Int)<=(i:Int)+1:=by omega
 have e5:IntKind.i64.wrap ((i:Int)+1)=(i:Int)+1:=by rw[IntKind.wrap_i64];omega
 have e6:((i:Int)+1).toNat=i+1:=by omega
 have e7:¬(nc:Int)<(i:Int)+1:=by omega
 have e8:¬(i:Int)+1<(f:Int):=by omega
 clear hC1 hR hN hx hex hf hca hi;go_enter Tryz.func56,Tryz.ntmps56
 go_wp2_with (go_at_call 86;(with_reducible refine(HC1.out _ (zab _ _)).mono ?_);rintro e w1 ⟨rfl,hb1⟩;have HB1:=Lib.hid ((zab w _).trans (hb1.mono (zab w _).size));have hgg:=(Bl.new w 25 _).below hb1;have p0:=hgg.cell (o:=0) (u:=.slice (some ⟨rb,ro,none⟩) rs.length rc) rfl;have p1:=hgg.cell (o:=1) (u:=.slice (some ⟨nb,no,none⟩) ns.length nc) rfl;clear hb1 hgg)
 go_ret;exact⟨rfl,HB1.out⟩
end
section
open Go.RowKit
def BolAt (m:Nat->Bool)(n B:Nat)(w:World):Prop:=∃cs,Bl w B 4 cs/\∀j,j<n->cs[j]?=some (.bool (m j))
theorem BolAt.below {m:Nat->Bool}{n B:Nat}{w w':World}(h:BolAt m n B w)(hb:Below w.heap.size w w'):BolAt m n B w':=by
 obtain⟨cs,h1,h2⟩:=h;exact⟨cs,h1.below hb,h2⟩
theorem BolAt.cell {m:Nat->Bool}{n B j:Nat}{w:World}(h:BolAt m n B w)(hj:j<n):w.cell? ⟨B,j,none⟩=some (.bool (m j)):=by
 obtain⟨cs,h1,h2⟩:=h;exact h1.cell (h2 j hj)
theorem BolAt.free {m:Nat->Bool}{n B:Nat}{w:World}(h:BolAt m n B w)(o:Nat):w.frozen? ⟨B,o,none⟩=false:=by
 obtain⟨cs,h1,h2⟩:=h;exact h1.free o
theorem BolAt.put {m:Nat->Bool}{n B k:Nat}{w:World}(h:BolAt m n B w)(hk:k<n):BolAt (ins m k) n B (w.setCell ⟨B,k,none⟩ (.bool true)):=by
 obtain⟨cs,h1,h2⟩:=h;refine⟨_,h1.set' _,fun j hj=>?_⟩;rw[Array.getElem?_setIfInBounds];unfold ins;by_cases e:k=j
 ·subst e
  have:=(Array.getElem?_eq_some_iff.1 (h2 k hk)).1;rw[if_pos rfl,if_pos this];simp
 ·rw[if_neg e,h2 j hj]
  have:(j == k)=false:=by simp;omega
  rw[this,Bool.or_false]
theorem BolAt.congr {m m':Nat->Bool}{n B:Nat}{w:World}(h:BolAt m n B w)(e:∀j,j<n->m j=m' j):BolAt m' n B w:=by
 obtain⟨cs,h1,h2⟩:=h;exact⟨cs,h1,fun j hj=>by rw[<-e j hj];exact h2 j hj⟩
def RQ (G M B Q n:Nat)(rv nv:Value)(m:Nat->Bool)(l:List Int)(w W:World):Prop:=
 Below w.heap.size w W/\Bl W G 25 #[rv,nv]/\Bl W M 58 #[.slice (some ⟨B,0,none⟩) n n]/\BolAt m n B W/\QAt w.heap.size Q l W/\w.heap.size<=B/\w.heap.size<=Q
section
variable {G M B Q n:Nat} {rv nv:Value} {m:Nat->Bool} {l:List Int} {w W W':World}
theorem RQ.lo (h:RQ G M B Q n rv nv m l w W):Below w.heap.size w W:=h.1
theorem RQ.g (h:RQ G M B Q n rv nv m l w W):Bl W G 25 #[rv,nv]:=h.2.1
theorem RQ.mk0 (h:RQ G M B Q n rv nv m l w W):Bl W M 58 #[.slice (some ⟨B,0,none⟩) n n]:=h.2.2.1
theorem RQ.b (h:RQ G M B Q n rv nv m l w W):BolAt m n B W:=h.2.2.2.1
theorem RQ.q (h:RQ G M B Q n rv nv m l w W):QAt w.heap.size Q l W:=h.2.2.2.2.1
theorem RQ.bq (h:RQ G M B Q n rv nv m l w W):w.heap.size<=Q:=h.2.2.2.2.2.2
theorem RQ.below (h:RQ G M B Q n rv nv m l w W)(hb:Below W.heap.size W W'):RQ G M B Q n rv nv m l w W':=
 ⟨h.1.trans (hb.mono h.1.size),h.g.below hb,h.mk0.below hb,h.b.below hb,h.q.below hb,h.2.2.2.2.2.1,h.bq⟩
theorem RQ.put {k:Nat}(h:RQ G M B Q n rv nv m l w W)(hk:k<n):RQ G M B Q n rv nv (ins m k) l w (W.setCell ⟨B,k,none⟩ (.bool true)):=by
 obtain⟨h1,h2,h3,h4,h5,h6,h7⟩:=h;obtain⟨cs,hB,-⟩:=id h4;obtain⟨a,c,hQ,hO⟩:=h5;exact⟨h1.setCell (p:=⟨B,k,none⟩) h6 _,h2.other (h2.ne hB (by decide)) _,h3.other (h3.ne hB (by decide)) _,h4.put hk,⟨a,c,hQ.other (hQ.ne hB (by decide)) _,ownsRow_setCell_other hO (a:=⟨B,k,none⟩) (za9 hO ⟨_,_,hB⟩ (by decide)) _⟩,h6,h7⟩
theorem RQ.turn {l':List Int}(h:RQ G M B Q n rv nv m l w W)(hk:Kp w.heap.size Q Q 3 W W')(hq:QAt w.heap.size Q l' W'):RQ G M B Q n rv nv m l' w W':=by
 obtain⟨h1,h2,h3,h4,h5,h6,h7⟩:=h;obtain⟨a,c,hQ,hO⟩:=h5;obtain⟨cs,hB,hc⟩:=h4;have hb:=hk.below h7 h7 h1.size;exact⟨h1.trans hb,hk.bl h2 (h2.ne hQ (by decide)) (h2.ne hQ (by decide)) (by decide),hk.bl h3 (h3.ne hQ (by decide)) (h3.ne hQ (by decide)) (by decide),⟨cs,hk.bl hB (hB.ne hQ (by decide)) (hB.ne hQ (by decide)) (by decide),hc⟩,hq,h6,h7⟩
end
theorem zv6 (G M B Q n:Nat)(rv nv:Value)(m:Nat->Bool)(l:List Int)(r:Int)(w W:World)(h:RQ G M B Q n rv nv m l w W)(hr:r<0∨(n:Int)<=r∨(0<=r/\r<n/\m r.toNat=true)) :
  Calls Tryz.prog 54 #[.int .i64 r,.pointer (some ⟨M,0,none⟩),.pointer (some ⟨Q,0,none⟩)] W fun e w'=>(∃v,e=.returned v)/\w'=W:=by
 have m0:W.cell? ⟨M,0,none⟩=some (.slice (some ⟨B,0,none⟩) n n):=h.mk0.cell (o:=0) rfl;rcases hr with hr|hr|⟨h0,h1,h2⟩
 ·have k1:¬0<=r:=by omega
  go_enter Tryz.func54,Tryz.ntmps54;go_wp2
  go_end0
  exact⟨⟨_,rfl⟩,rfl⟩
 ·by_cases h0:0<=r
  ·have k1:¬r<(n:Int):=by omega
   go_enter Tryz.func54,Tryz.ntmps54;go_wp2
   go_end0
   exact⟨⟨_,rfl⟩,rfl⟩
  ·go_enter Tryz.func54,Tryz.ntmps54
   go_wp2
   go_end0
   exact⟨⟨_,rfl⟩,rfl⟩
 ·obtain⟨k,rfl⟩:∃k:Nat,r=k:=⟨r.toNat,by omega⟩
  have c0:=h.b.cell (j:=k) (by omega);rw[show((k:Int)).toNat=k by omega] at h2;rw[h2] at c0;clear h;go_enter Tryz.func54,Tryz.ntmps54;go_wp2
  go_end0
  exact⟨⟨_,rfl⟩,rfl⟩
theorem zq8 (G M B Q n:Nat)(rv nv:Value)(m:Nat->Bool)(l:List Int)(k:Nat)(w W:World)(h:RQ G M B Q n rv nv m l w W)(hk:k<n)(hm:m k=false)(hl:l.length<=900000) :
  Calls Tryz.prog 54 #[.int .i64 (k:Int),.pointer (some ⟨M,0,none⟩),.pointer (some ⟨Q,0,none⟩)] W fun e w'=>(∃v,e=.returned v)/\∃l',RQ G M B Q n rv nv (ins m k) l' w w'/\l'.Perm (l++[(k:Int)]):=by
 have m0:W.cell? ⟨M,0,none⟩=some (.slice (some ⟨B,0,none⟩) n n):=h.mk0.cell (o:=0) rfl;have c0:=h.b.cell (j:=k) hk;have z0:=h.b.free k;rw[hm] at c0;have h0:(0:Int)<=(k:Int):=by omega
 have h1:(k:Int)<(n:Int):=by omega
 have hbs:=h.lo.size;have HP:=Lib.hid (h.put hk);obtain⟨cs,hB,-⟩:=h.b;have hne:=h.mk0.ne hB (by decide);have HC:=Lib.hid (zvu w.heap.size Q l (k:Int) (W.setCell ⟨B,k,none⟩ (.bool true)) (h.put hk).q hl (h.put hk).lo.size);clear h hB;go_enter Tryz.func54,Tryz.ntmps54
 go_wp2_with (go_at_call 41;(with_reducible refine HC.out.mono ?_);rintro e w2 ⟨⟨v2,rfl⟩,l2,hq2,hp2,hk2⟩;have HR:=Lib.hid (HP.out.turn hk2 hq2);have HP2:=Lib.hid hp2;clear hq2 hp2 hk2)
 go_end0
 exact⟨⟨_,rfl⟩,_,HR.out,HP2.out⟩
end
section
open Go.RowKit
def Sound (E:Nat->Nat->Prop)(r0 n:Nat)(m:Nat->Bool)(l:List Int):Prop:=
 m r0=true/\(∀j,j<n->m j=true->Rch E r0 j)/\(∀x,x ∈ l->∃j:Nat,x=(j:Int)/\j<n/\m j=true)/\l.length<=cnt m n
def OutI (E:Nat->Nat->Prop)(r:Int)(n:Nat)(m:Nat->Bool)(l:List Int):Prop:=
 (¬(0<=r/\r<n)/\l=[]/\∀j,j<n->m j=false)∨(0<=r/\r<n/\Sound E r.toNat n m l/\∀j,j<n->m j=true->(j:Int) ∈ l∨∀b,E j b->m b=true)
def InI (E:Nat->Nat->Prop)(r0 n a:Nat)(P:Nat->Prop)(m:Nat->Bool)(l:List Int):Prop:=
 Sound E r0 n m l/\(∀j,j<n->m j=true->(j:Int) ∈ l∨j=a∨∀b,E j b->m b=true)/\m a=true/\∀b,P b->m b=true
def left7 (n:Nat)(m:Nat->Bool)(l:List Int):Nat:=2*(n-cnt m n)+l.length
theorem zby {m:Nat->Bool}{k j:Nat}(h:m j=true):ins m k j=true:=by unfold ins;rw[h];rfl
theorem zcf (m:Nat->Bool)(k:Nat):ins m k k=true:=by unfold ins;simp
theorem zfk {m:Nat->Bool}{k j:Nat}(h:ins m k j=true):m j=true∨j=k:=by
 unfold ins at h;rw[Bool.or_eq_true] at h;rcases h with h|h
 ·exact .inl h
 ·exact .inr (by simpa using h)
theorem zlh {m:Nat->Bool}{k n:Nat}(hk:k<n)(hm:m k=false):cnt m n<cnt (ins m k) n:=zk9 n (fun _ _ h=>zby h) ⟨k,hk,hm,zcf m k⟩
theorem Sound.add {E:Nat->Nat->Prop}{r0 n k:Nat}{m:Nat->Bool}{l l':List Int}(h:Sound E r0 n m l)(hk:k<n)(hm:m k=false)(hr:Rch E r0 k)(hp:l'.Perm (l++[(k:Int)])):Sound E r0 n (ins m k) l'/\left7 n (ins m k) l'<=left7 n m l:=by
 obtain⟨h1,h2,h3,h4⟩:=h;have hc:=zlh hk hm;have hl:=hp.length_eq;rw[List.length_append] at hl;have hle:=zmk (ins m k) n;refine⟨⟨zby h1,fun j hj hi=>?_,fun x hx=>?_,by simp at hl;omega⟩,by unfold left7;simp at hl;omega⟩
 ·rcases zfk hi with h|rfl
  ·exact h2 j hj h
  ·exact hr
 ·rcases List.mem_append.1 (hp.mem_iff.1 hx) with hx|hx
  ·obtain⟨j,e,hj,hm⟩:=h3 x hx
   exact⟨j,e,hj,zby hm⟩
  ·exact⟨k,by simpa using hx,hk,zcf m k⟩
theorem InI.add {E:Nat->Nat->Prop}{r0 n a k:Nat}{P P':Nat->Prop}{m:Nat->Bool}{l l':List Int}(h:InI E r0 n a P m l)(ha:a<n)(hk:k<n)(he:E a k)(hm:m k=false)(hp:l'.Perm (l++[(k:Int)]))(hP:∀b,P' b->P b∨b=k):InI E r0 n a P' (ins m k) l'/\left7 n (ins m k) l'<=left7 n m l:=by
 obtain⟨h1,h2,h3,h4⟩:=h;have hs:=h1.add hk hm (.call (h1.2.1 a ha h3) he) hp;refine⟨⟨hs.1,fun j hj hi=>?_,zby h3,fun b hb=>?_⟩,hs.2⟩
 ·rcases zfk hi with h|rfl
  ·rcases h2 j hj h with h|h|h
   ·exact .inl (hp.mem_iff.2 (List.mem_append_left _ h))
   ·exact .inr (.inl h)
   ·exact .inr (.inr fun b hb=>zby (h b hb))
  ·exact .inl (hp.mem_iff.2 (List.mem_append_right _ (by simp)))
 ·rcases hP b hb with h|rfl
  ·exact zby (h4 b h)
  ·exact zcf m b
theorem InI.same {E:Nat->Nat->Prop}{r0 n a:Nat}{P P':Nat->Prop}{m:Nat->Bool}{l:List Int}(h:InI E r0 n a P m l)(hP:∀b,P' b->P b∨m b=true):InI E r0 n a P' m l:=
 ⟨h.1,h.2.1,h.2.2.1,fun b hb=>by rcases hP b hb with h'|h';exact h.2.2.2 b h';exact h'⟩
theorem OutI.pop {E:Nat->Nat->Prop}{r:Int}{n:Nat}{m:Nat->Bool}{l l1:List Int}{x:Int}(h:OutI E r n m l)(hp:(l1++[x]).Perm l):∃a:Nat,x=(a:Int)/\a<n/\InI E r.toNat n a (fun _=>False) m l1/\left7 n m l1<left7 n m l:=by
 have hl:=hp.length_eq;rw[List.length_append] at hl;simp at hl;rcases h with⟨-,h,-⟩|⟨-,-,⟨h1,h2,h3,h4⟩,h5⟩
 ·rw[h] at hl;simp at hl
 ·obtain⟨a,e,ha,hm⟩:=h3 x (hp.mem_iff.1 (List.mem_append_right _ (by simp)))
  refine⟨a,e,ha,⟨⟨h1,h2,fun y hy=>h3 y (hp.mem_iff.1 (List.mem_append_left _ hy)),by omega⟩,fun j hj hmj=>?_,hm,fun _ h=>h.elim⟩,by unfold left7;omega⟩;rcases h5 j hj hmj with h|h
  ·rcases List.mem_append.1 (hp.mem_iff.2 h) with h|h
   ·exact .inl h
   ·have:(j:Int)=x:=by simpa using h
    exact .inr (.inl (by omega))
  ·exact .inr (.inr h)
theorem InI.out {E:Nat->Nat->Prop}{r:Int}{n a:Nat}{P:Nat->Prop}{m:Nat->Bool}{l:List Int}(h:InI E r.toNat n a P m l)(h0:0<=r)(h1:r<n)(hP:∀b,E a b->P b):OutI E r n m l:=by
 obtain⟨g1,g2,g3,g4⟩:=h;refine .inr ⟨h0,h1,g1,fun j hj hm=>?_⟩;rcases g2 j hj hm with h|rfl|h
 ·exact .inl h
 ·exact .inr fun b hb=>g4 b (hP b hb)
 ·exact .inr h
theorem OutI.done {rs:List PR}{ns:List PN}{r:Int}{m:Nat->Bool}(h:OutI (callE rs ns) r rs.length m [])(hE:∀a b,callE rs ns a b->b<rs.length):memb m rs.length=ze8 rs ns r:=by
 unfold ze8;rcases h with⟨h1,-,h2⟩|⟨h1,h2,⟨h3,h4,-,-⟩,h5⟩
 ·rw[if_neg h1]
  have:memb m rs.length=memb (fun _=>false) rs.length:=zgi h2;rw[this];unfold memb;simp
 ·rw[if_pos ⟨h1,h2⟩]
  refine zgi (zmw h3 (fun a b ha hm he=>?_) hE (by omega) h4);rcases h5 a ha hm with h|h
  ·simp at h
  ·exact h b he
def Done (ns:List PN)(f k:Nat)(b:Nat):Prop:=∃(t:Nat) (n:PN),t<k/\ns[f+t]?=some n/\n.op=2/\n.rule=(b:Int)
theorem Done.succ {ns:List PN}{f k b:Nat}{n:PN}(hn:ns[f+k]?=some n)(h:Done ns f (k+1) b):Done ns f k b∨(n.op=2/\n.rule=(b:Int)):=by
 obtain⟨t,n',h1,h2,h3,h4⟩:=h;by_cases e:t=k
 ·subst e
  rw[hn] at h2;obtain rfl:=Option.some.inj h2;exact .inr ⟨h3,h4⟩
 ·exact .inl ⟨t,n',by omega,h2,h3,h4⟩
theorem zv7 {rv:Value}{na:Option Addr}{nc:Nat}{rs:List PR}{ns:List PN}{w:World}(hR:RulesIn w rv rs)(hN:NodesAt w (.slice na ns.length nc) ns)(hs:ns.length<=1000000)(hc:ns.length<=nc)(hord:ordR ns rs (-1)=true)(a:Nat)(ha:a<rs.length) :
  ∃(f L:Nat) (b:Option Addr),0<L/\f+L<=ns.length/\(∀t:Nat,ownL rs (t:Int)=a↔f<=t/\t<f+L)/\NodesAt w (.slice b L (nc-f)) ((ns.drop f).take L)/\∀W,Below w.heap.size w W->Calls Tryz.prog 56 #[.agg #[rv,.slice na ns.length nc],.int .i64 (a:Int)] W fun e w'=>e=.returned (.slice b L (nc-f))/\Below W.heap.size W w':=by
 obtain⟨x,hx⟩:∃x,rs[a]?=some x:=⟨_,List.getElem?_eq_getElem ha⟩;obtain⟨⟨h1,h2,h3⟩,h4⟩:=zex rs (-1) (by omega) hord a x hx;obtain⟨i,hi⟩:∃i:Nat,x.root=i:=⟨x.root.toNat,by omega⟩;rw[hi] at h1 h2 h3 h4;obtain⟨f,hf⟩:∃f:Nat,fstL ns (i:Int)=f:=⟨(fstL ns i).toNat,by unfold fstL;omega⟩;have hf':exL ns (i:Int)+1=f:=hf;obtain⟨nb,no,rfl,hP⟩:=hN.part f i (by omega) (by omega);refine⟨f,i+1-f,_,by omega,by omega,fun t=>?_,hP,fun W hb=>zv5 rv nb no nc rs ns a i f x W (hR.kept hb (Nat.le_refl _)) (hN.kept hb (Nat.le_refl _)) hs hc hx hi (by omega) (by omega) hf (by omega)⟩;have:=h4 (t:Int) (by omega);omega
theorem zs7 (G M B Q n:Nat)(rv nv:Value)(E:Nat->Nat->Prop)(r:Int)(w W:World)(h:RQ G M B Q n rv nv (fun _=>false) [] w W) :
  Calls Tryz.prog 54 #[.int .i64 r,.pointer (some ⟨M,0,none⟩),.pointer (some ⟨Q,0,none⟩)] W fun e w'=>(∃v,e=.returned v)/\∃m l,RQ G M B Q n rv nv m l w w'/\OutI E r n m l:=by
 by_cases hr:0<=r/\r<n
 ·obtain⟨k,rfl⟩:∃k:Nat,r=k:=⟨r.toNat,by omega⟩
  have hk:k<n:=by omega
  refine(zq8 G M B Q n rv nv _ [] k w W h hk rfl (by simp)).mono fun e w' ⟨h1,l',h2,h3⟩=>⟨h1,_,l',h2,.inr ⟨hr.1,hr.2,?_,fun j hj hm=>?_⟩⟩
  ·rw[show((k:Int)).toNat=k by omega]
   have hc:=zlh (m:=fun _=>false) hk rfl;have hl:=h3.length_eq;refine⟨zcf _ k,fun j hj hm=>?_,fun x hx=>⟨k,by simpa using h3.mem_iff.1 hx,hk,zcf _ k⟩,by simp at hl;omega⟩;rcases zfk hm with h|rfl
   ·cases h
   ·exact .here
  ·rcases zfk hm with h|rfl
   ·cases h
   ·exact .inl (h3.mem_iff.2 (by simp))
 ·refine(zv6 G M B Q n rv nv _ [] r w W h (by omega)).mono fun e w' ⟨h1,h2⟩=>?_
  subst h2;exact⟨h1,_,[],h,.inl ⟨hr,rfl,fun _ _=>rfl⟩⟩
theorem z5o (G M B Q n:Nat)(rv nv:Value)(E:Nat->Nat->Prop)(r0 a k:Nat)(P P':Nat->Prop)(m:Nat->Bool)(l:List Int)(w W:World)(h:RQ G M B Q n rv nv m l w W)(hI:InI E r0 n a P m l)(ha:a<n)(hk:k<n)(he:E a k)(hn:n<=100000)(hP:∀b,P' b->P b∨b=k) :
  Calls Tryz.prog 54 #[.int .i64 (k:Int),.pointer (some ⟨M,0,none⟩),.pointer (some ⟨Q,0,none⟩)] W fun e w'=>(∃v,e=.returned v)/\∃m' l',RQ G M B Q n rv nv m' l' w w'/\InI E r0 n a P' m' l'/\left7 n m' l'<=left7 n m l:=by
 have hc:=zmk m n;have hl:=hI.1.2.2.2;cases hm:m k with
 |true=>
  refine(zv6 G M B Q n rv nv m l k w W h (by right;right;exact⟨by omega,by omega,by rw[show((k:Int)).toNat=k by omega];exact hm⟩)).mono fun e w' ⟨h1,h2⟩=>?_
  subst h2;exact⟨h1,m,l,h,hI.same fun b hb=>by rcases hP b hb with h|rfl;exact .inl h;exact .inr hm,Nat.le_refl _⟩
 |false=>
  refine(zq8 G M B Q n rv nv m l k w W h hk hm (by omega)).mono fun e w' ⟨h1,l',h2,h3⟩=>⟨h1,_,l',h2,?_⟩
  exact hI.add ha hk he hm h3 hP
def OutR (rs:List PR)(ns:List PN)(r:Int)(rv nv:Value)(w:World)(g:Nat)(W:World):Prop:=
 ∃m l,RQ w.heap.size (w.heap.size+2) (w.heap.size+1) (w.heap.size+3) rs.length rv nv m l w W/\OutI (callE rs ns) r rs.length m l/\left7 rs.length m l<=g
theorem BolAt.grown {m:Nat->Bool}{n B base k:Nat}{v:Value}{xs:List Value}{w w1 w':World}(h:BolAt m n B w1)(ho:w.ownsRow base 3 1 v k xs)(hb:Below w.heap.size w w1)(hg:w1.grownBy w' v.ownBlock):BolAt m n B w':=by
 obtain⟨cs,h1,h2⟩:=h;exact⟨cs,h1.grown hg (fun g e=>by obtain⟨c,fz,hc⟩:=Lib.ownsRow_kind (zaa ho hb) g e;exact⟨c,3,fz,hc,by decide⟩),h2⟩
def InR (rs:List PR)(ns:List PN)(r:Int)(rv nv:Value)(w:World)(a f L K:Nat)(c:Value)(W:World):Prop:=
 ∃(t:Nat) (m:Nat->Bool) (l:List Int),t<=L/\c=.int .i64 (t:Int)/\RQ w.heap.size (w.heap.size+2) (w.heap.size+1) (w.heap.size+3) rs.length rv nv m l w W/\InI (callE rs ns) r.toNat rs.length a (Done ns f t) m l/\left7 rs.length m l<=K
theorem OutI.len {E:Nat->Nat->Prop}{r:Int}{n:Nat}{m:Nat->Bool}{l:List Int}(h:OutI E r n m l):l.length<=n:=by
 have:=zmk m n;rcases h with⟨-,h,-⟩|⟨-,-,⟨-,-,-,h⟩,-⟩
 ·rw[h];exact Nat.zero_le _
 ·omega
theorem OutI.range {E:Nat->Nat->Prop}{r:Int}{n:Nat}{m:Nat->Bool}{l:List Int}(h:OutI E r n m l)(hl:0<l.length):0<=r/\r<n:=by
 rcases h with⟨-,h,-⟩|⟨h1,h2,-⟩
 ·rw[h] at hl;exact absurd hl (Nat.lt_irrefl _)
 ·exact⟨h1,h2⟩
theorem zv8 (rv:Value)(na:Option Addr)(nc:Nat)(rs:List PR)(ns:List PN)(r:Int)(w:World)(hR:RulesIn w rv rs)(hN:NodesAt w (.slice na ns.length nc) ns)(hs:ns.length<=1000000)(hrs:rs.length<=100000)(hc:ns.length<=nc)(hord:ordR ns rs (-1)=true)(hcall:∀(i:Nat) (n:PN),ns[i]?=some n->n.op=2->0<=n.rule/\n.rule<(rs.length:Int)) :
  Calls Tryz.prog 26 #[.agg #[rv,.slice na ns.length nc],.int .i64 r] w (zb5 (ze8 rs ns r) w):=by
 obtain⟨-,ra,rc,rfl,-⟩:=id hR;have hE:∀a b,callE rs ns a b->b<rs.length:=fun a b ⟨i,n,h1,h2,_,h4⟩=>by have:=hcall i n h1 h2;omega
 have hmk:=fun w=>run_make_row' (P:=Tryz.prog) 58 4 (.bool false) 1 Tryz.underlying58 Tryz.infoBool rfl .i64 .i64 rs.length (by omega) (by omega) w
 have hmf:∀(fn:Fn) (first cap:Array Value) (w:World),(Instr.makeFunc fn first cap).run Tryz.prog w=.ok (.func fn first cap) w:=fun _ _ _ _=>rfl
 have HX:=Lib.hid (zv7 hR hN hs hc hord);obtain⟨ii,hii,hz0,hz1,hz2⟩:=info_parts za3;obtain⟨W,hW⟩:∃W,((((w.alloc (.cells #[.slice ra rs.length rc,.slice na ns.length nc] 25)).alloc (.cells (madeCells #[.bool false] rs.length) 4)).alloc (.cells #[.slice (some ⟨w.heap.size+1,0,none⟩) rs.length rs.length] 58)).alloc (.cells #[.slice none 0 0] 82))=W:=⟨_,rfl⟩;have hrq:RQ w.heap.size (w.heap.size+2) (w.heap.size+1) (w.heap.size+3) rs.length (.slice ra rs.length rc) (.slice na ns.length nc) (fun _=>false) [] w W:=by
  refine⟨by rw[<-hW];exact((zat _ _ _).alloc (by simp;omega) _).alloc (by simp;omega) _,?_,?_,⟨madeCells #[.bool false] rs.length,?_,fun j hj=>?_⟩,⟨none,0,?_,World.ownsRow_nil _ _ _ _⟩,by omega,by omega⟩
  ·rw[<-hW];repeat (first|(refine Bl.new' ?_;simp;done)|refine Bl.past ?_)
  ·rw[<-hW];repeat (first|(refine Bl.new' ?_;simp;done)|refine Bl.past ?_)
  ·rw[<-hW];repeat (first|(refine Bl.new' ?_;simp;done)|refine Bl.past ?_)
  ·simp[madeCells,hj,Nat.mod_one]
  ·rw[<-hW];repeat (first|(refine Bl.new' ?_;simp;done)|refine Bl.past ?_)
 have HC0:=Lib.hid (zs7 _ _ _ _ _ _ _ (callE rs ns) r w W hrq);clear hrq hR hN hord;go_enter Tryz.func26,Tryz.ntmps26
 go_wp2_with (go_at_call 54;(with_reducible refine HC0.out.mono ?_);rintro e w1 ⟨⟨v1,rfl⟩,m1,l1,hq1,hi1⟩)
 clear hW hmk HC0
 go_loopg [] (left7 rs.length m1 l1) (fun g wr=>OutR rs ns r (.slice ra rs.length rc) (.slice na ns.length nc) w g wr)
 case atStart=>exact⟨m1,l1,hq1,hi1,Nat.le_refl _⟩
 case round=>
  obtain⟨m,l,hq,hi,hg⟩:=hrel;clear hq1 hi1;obtain⟨a,c,hQ,-⟩:=id hq.q;have b0:wr.cell? ⟨w.heap.size+3,0,none⟩=some (.slice a l.length c):=hQ.cell (o:=0) rfl;have hG:=hq.g;have g0:wr.cell? ⟨w.heap.size,0,none⟩=some (.slice ra rs.length rc):=hG.cell (o:=0) rfl;have g1:wr.cell? ⟨w.heap.size,1,none⟩=some (.slice na ns.length nc):=hG.cell (o:=1) rfl;have HQ:=Lib.hid hq;have HI:=Lib.hid hi;have HG:=Lib.hid hg;clear hQ hG hq hi hg;by_cases hl:l.length=0
  ·have k1:¬(0:Int)<(l.length:Int):=by omega
   obtain rfl:l=[]:=List.length_eq_zero_iff.1 hl;have HD:=Lib.hid (HI.out.done hE);have r0:wr.cell? ⟨w.heap.size+2,0,none⟩=some (.slice (some ⟨w.heap.size+1,0,none⟩) rs.length rs.length):=HQ.out.mk0.cell (o:=0) rfl;have hz:=HQ.out.mk0.lt;clear hE hcall
   go_wp2_with (go_at_call 55;(with_reducible refine(zhi _ _ _ _).mono ?_);rintro e w2 ⟨rfl,hw⟩;obtain rfl:=hw.symm;clear hw)
   clear b0 g0 g1 r0 hz hl k1
   go_loopw [46,11] (fun c u wq=>∃k:Nat,k<=rs.length/\c=.int .i64 k/\wq.ownsRow w.heap.size 3 1 u (memb m k).length (natsV (memb m k))/\Below w.heap.size w wq/\BolAt m rs.length (w.heap.size+1) wq) (fun c _ _=>rs.length-(intOf c).toNat)
   case atStart=>exact⟨0,Nat.zero_le _,rfl,World.ownsRow_nil _ _ _ _,HQ.out.lo,HQ.out.b⟩
   case round=>
    obtain⟨k,hk,rfl,ho,hb,hm⟩:=hrel;obtain⟨ua,uc,rfl⟩:=zad ho;by_cases hlt:k<rs.length
    ·have k2:(k:Int)<(rs.length:Int):=by omega
     have c0:=hm.cell hlt;have HB:=Lib.hid hb;have HO:=Lib.hid ho;have HM:=Lib.hid hm;have HS:=Lib.hid (zms m k);have hle:=Lib.hid (zk5 m k);clear ho hb hm;cases hmk:m k with
     |false=>
      rw[hmk] at c0 HS;clear hmk;go_wp2;go_roundw
      case rel=>exact⟨k+1,by omega,by go_num,by rw[HS.out];simpa using HO.out,HB.out,HM.out⟩
      case measure=>simp[intOf];omega
     |true=>
      rw[hmk] at c0 HS;clear hmk
      go_wp2_with (at_builtin;refine wpList_append_own _ rfl _ _ 29 rfl w.heap.size 3 ii _ 1 8 Tryz.underlying29 hii hz0 hz1 hz2 rfl (by decide) _ (memb m k).length _ rfl (zaa HO.out (zab _ _)) ⟨_,0,none⟩ 1 1 [.int .i64 (k:Int)] rfl rfl (zh8 (by simp) _ _) (by simp[Value.oneCell']) (by have:=hle.out;unfold maxLen;omega) (by have:=hle.out;omega) (by have:=HB.out.size;simp;omega) ?_;intro v5 w5 hown' hgrow _;have HO5:=Lib.hid hown';have HB5:=Lib.hid ((HB.out.trans ((zab _ _).mono HB.out.size)).grown hgrow (Nat.le_trans HB.out.size (zab _ _).size) (fun g e=>(HO.out.lt g e).1));have HM5:=Lib.hid ((HM.out.below (zab _ _)).grown HO.out (zab _ _) hgrow);clear hown' hgrow)
      go_roundw
      case rel=>exact⟨k+1,by omega,by go_num,by rw[HS.out];have:=HO5.out;simpa [zjk] using this,HB5.out,HM5.out⟩
      case measure=>simp[intOf];omega
    ·obtain rfl:k=rs.length:=by omega
     have k2:¬(rs.length:Int)<(rs.length:Int):=by omega
     have HO:=Lib.hid ho;have HB:=Lib.hid hb;clear ho hb hm;go_wp2;go_ret;rw[<-HD.out];exact⟨_,rfl,HO.out,HB.out⟩
  ·obtain⟨k,hk⟩:∃k,l.length=k+1:=⟨l.length-1,by omega⟩
   have k1:(0:Int)<(l.length:Int):=by omega
   have hkb:k<=900000:=by have:=HI.out.len;omega
   have HRG:=Lib.hid (HI.out.range (by omega));have HP:=Lib.hid (z0g w.heap.size (w.heap.size+3) k l wr HQ.out.q hk hkb);have hta:=fun(x:Int)=>zet x
   have HK:=Lib.hid hk;clear hl hk
   go_wp2_with (first
    |(go_at_call 55;(with_reducible refine(zhi _ _ _ _).mono ?_);rintro e w2 ⟨rfl,hw⟩;obtain rfl:=hw.symm;clear hw)
    |(go_at_call 43;(with_reducible refine HP.out.mono ?_);rintro e w3 ⟨x,l3,rfl,hq3,hp3,hk3⟩;have HQ3:=Lib.hid (HQ.out.turn hk3 hq3);obtain⟨a3,rfl,ha3,hi3,hlt3⟩:=HI.out.pop hp3;have HI3:=Lib.hid hi3;have HLT:=Lib.hid hlt3;have h30:w3.cell? ⟨w.heap.size,0,none⟩=some (.slice ra rs.length rc):=HQ3.out.g.cell (o:=0) rfl;have h31:w3.cell? ⟨w.heap.size,1,none⟩=some (.slice na ns.length nc):=HQ3.out.g.cell (o:=1) rfl;obtain⟨f,L,bx,hL0,hfL,hown,hpn,hcx⟩:=HX.out a3 ha3;have HCX:=Lib.hid (hcx w3 HQ3.out.lo);have HPN:=Lib.hid hpn;have HOW:=Lib.hid hown;have HFL:=Lib.hid hfL;have HA3:=Lib.hid ha3;clear hp3 hi3 hlt3 hk3 hq3 hown hpn hcx ha3)
    |(go_at_call 56;(with_reducible refine HCX.out.mono ?_);rintro e w4 ⟨rfl,hb4⟩;have HQ4:=Lib.hid (HQ3.out.below hb4);clear hb4))
   go_loopw [32] (fun c wq=>InR rs ns r (.slice ra rs.length rc) (.slice na ns.length nc) w a3 f L (left7 rs.length m l3) c wq) (fun c _=>L-(intOf c).toNat)
   case atStart=>exact⟨0,m,l3,Nat.zero_le _,rfl,HQ4.out,HI3.out.same fun b ⟨t,_,h,_⟩=>absurd h (Nat.not_lt_zero _),Nat.le_refl _⟩
   case round=>
    obtain⟨t,m',l',htL,rfl,hq',hi',hlf'⟩:=hrel;have HQ5:=Lib.hid hq';have HI5:=Lib.hid hi';have HLF:=Lib.hid hlf';clear hq' hi' hlf';by_cases hlt:t<L
    ·have hft:f+t<ns.length:=by have:=HFL.out;omega
     obtain⟨n,hn⟩:∃n,ns[f+t]?=some n:=⟨_,List.getElem?_eq_getElem hft⟩;have hn2:((ns.drop f).take L)[t]?=some n:=by rw[List.getElem?_take_of_lt hlt,List.getElem?_drop];exact hn
     obtain⟨-,ax,cx,ex,hax⟩:=HPN.out;injection ex with ex1 ex2 ex3;subst ex1;clear ex2 ex3;rcases hax with h0|⟨nb,no,rfl,hca⟩
     ·rw[h0] at hn2;simp at hn2
     obtain⟨kv,c0,c1,c2,c3,c4,c5,c6,ci,-⟩:=(hca t n hn2).kept HQ5.out.lo (Nat.le_refl _);obtain⟨ka,kc,rfl,-⟩:=ci;have k2:(t:Int)<(L:Int):=by omega
     have HN:=Lib.hid hn;have hcn:=hcall (f+t) n hn;have hLb:L<=1000000:=by have:=HFL.out;omega
     clear hca hn hn2 hft hfL hc hs hcall hE hL0;have HRS:=Lib.hid hrs;clear hrs;by_cases h2:n.op=2
     ·rw[h2] at c0
      obtain⟨h3,h4⟩:=hcn h2;obtain⟨q,hq⟩:∃q:Nat,n.rule=q:=⟨n.rule.toNat,by omega⟩;have hqn:q<rs.length:=by omega
      have he:callE rs ns a3 q:=⟨f+t,n,HN.out,h2,(HOW.out (f+t)).2 ⟨by omega,by omega⟩,hq⟩;have HM:=Lib.hid (z5o _ _ _ _ _ _ _ (callE rs ns) r.toNat a3 q (Done ns f t) (Done ns f (t+1)) m' l' w _ (HQ5.out.below (zab wr (.cells #[.int .i64 2,.slice ka n.kids.length kc,.int .i64 n.rule,.int .u64 n.s0,.int .u64 n.s1,.int .u64 n.s2,.int .u64 n.s3] 51))) HI5.out HA3.out hqn he HRS.out (fun b hb=>by rcases hb.succ HN.out with h|⟨-,h⟩;exact .inl h;exact .inr (by omega)));rw[hq] at c2 HM;clear hcn he hq h2
      go_wp2_with (go_at_call 54;(with_reducible refine HM.out.mono ?_);rintro e w6 ⟨⟨v6,rfl⟩,m6,l6,hq6,hi6,hl6⟩;have HQ6:=Lib.hid hq6;have HI6:=Lib.hid hi6;have HL6:=Lib.hid hl6;clear hq6 hi6 hl6)
      go_roundw
      case rel=>exact⟨t+1,m6,l6,hlt,by go_num,HQ6.out,HI6.out,Nat.le_trans HL6.out HLF.out⟩
      case measure=>simp[intOf];omega
     ·have h2':(n.op == 2)=false:=by simpa using h2
      have HH:=Lib.hid h2;clear h2 hcn;go_wp2;go_roundw
      case rel=>exact⟨t+1,m',l',hlt,by go_num,HQ5.out.below (zab _ _),HI5.out.same (fun b hb=>by rcases hb.succ HN.out with h|⟨h,-⟩;exact .inl h;exact absurd h HH.out),HLF.out⟩
      case measure=>simp[intOf];omega
    ·obtain rfl:t=L:=by omega
     have k2:¬(t:Int)<(t:Int):=by omega
     go_wp2
     go_roundg (left7 rs.length m' l')
     case measure=>exact Nat.lt_of_lt_of_le (Nat.lt_of_le_of_lt HLF.out HLT.out) HG.out
     case rel=>exact⟨m',l',HQ5.out,HI5.out.out HRG.out.1 HRG.out.2 (fun b ⟨i,n,g1,g2,g3,g4⟩=>by have:=(HOW.out i).1 g3;exact⟨i-f,n,by omega,by rw[show f+(i-f)=i by omega];exact g1,g2,g4⟩),Nat.le_refl _⟩
end
section
open Go.RowKit
def RK (G B n:Nat)(rv nv:Value)(m:Nat->Bool)(w W:World):Prop:=Below w.heap.size w W/\Bl W G 25 #[rv,nv]/\BolAt m n B W/\w.heap.size<=B
section
variable {G B n:Nat} {rv nv:Value} {m:Nat->Bool} {w W W':World}
theorem RK.lo (h:RK G B n rv nv m w W):Below w.heap.size w W:=h.1
theorem RK.g (h:RK G B n rv nv m w W):Bl W G 25 #[rv,nv]:=h.2.1
theorem RK.b (h:RK G B n rv nv m w W):BolAt m n B W:=h.2.2.1
theorem RK.below (h:RK G B n rv nv m w W)(hb:Below W.heap.size W W'):RK G B n rv nv m w W':=⟨h.1.trans (hb.mono h.1.size),h.g.below hb,h.b.below hb,h.2.2.2⟩
theorem RK.put {k:Nat}(h:RK G B n rv nv m w W)(hk:k<n):RK G B n rv nv (ins m k) w (W.setCell ⟨B,k,none⟩ (.bool true)):=by
 obtain⟨h1,h2,h3,h4⟩:=h;obtain⟨cs,hB,-⟩:=id h3;exact⟨h1.setCell (p:=⟨B,k,none⟩) h4 _,h2.other (h2.ne hB (by decide)) _,h3.put hk,h4⟩
end
def InK (rs:List PR)(ns:List PN)(r0:Nat)(m0:Nat->Bool)(i:Nat)(m:Nat->Bool):Prop:=
 (∀j,j<rs.length->m j=true->Rch (callE rs ns) r0 j)/\(∀j,j<rs.length->m0 j=true->m j=true) /\
  ∀(t:Nat) (n:PN) (b:Nat),t<i->ns[t]?=some n->n.op=2->m0 (ownL rs (t:Int))=true->n.rule=(b:Int)->m b=true
theorem InK.mark {rs:List PR}{ns:List PN}{r0 i k:Nat}{m0 m:Nat->Bool}{n:PN}(h:InK rs ns r0 m0 i m)(hn:ns[i]?=some n)(ho:n.op=2)(hl:ownL rs (i:Int)<rs.length)(hm:m (ownL rs (i:Int))=true)(hk:n.rule=(k:Int)):InK rs ns r0 m0 (i+1) (ins m k):=by
 obtain⟨h1,h2,h3⟩:=h;refine⟨fun j hj hi=>?_,fun j hj h=>zby (h2 j hj h),fun t n' b ht hn' ho' hm' hb=>?_⟩
 ·rcases zfk hi with h|rfl
  ·exact h1 j hj h
  ·exact .call (h1 _ hl hm) ⟨i,n,hn,ho,rfl,hk⟩
 ·by_cases e:t=i
  ·subst e
   rw[hn] at hn';obtain rfl:=Option.some.inj hn';have:b=k:=by omega
   subst this;exact zcf m b
  ·exact zby (h3 t n' b (by omega) hn' ho' hm' hb)
def OutK (rs:List PR)(ns:List PN)(r0 k:Nat)(m:Nat->Bool):Prop:=
 m r0=true/\(∀j,j<rs.length->m j=true->Rch (callE rs ns) r0 j)/\((∀a b,a<rs.length->m a=true->callE rs ns a b->m b=true)∨k<cnt m rs.length)
theorem OutK.next {rs:List PR}{ns:List PN}{r0 k:Nat}{m m':Nat->Bool}(h:OutK rs ns r0 k m)(hE:∀a b,callE rs ns a b->b<rs.length)(hr:r0<rs.length)(hi:InK rs ns r0 m ns.length m'):OutK rs ns r0 (k+1) m':=by
 obtain⟨h1,h2,h3⟩:=h;obtain⟨g1,g2,g3⟩:=hi;exact⟨g2 r0 hr h1,g1,zs3 h1 hE hr g1 g2 (fun a b _ hm ⟨t,n,e1,e2,e3,e4⟩=>g3 t n b (List.getElem?_eq_some_iff.1 e1).1 e1 e2 (by rw[e3];exact hm) e4) h3⟩
theorem OutK.done {rs:List PR}{ns:List PN}{r0:Nat}{r:Int}{m:Nat->Bool}(h:OutK rs ns r0 rs.length m)(hE:∀a b,callE rs ns a b->b<rs.length)(hr:r0<rs.length)(e:r=(r0:Int)):memb m rs.length=ze8 rs ns r:=by
 subst e;obtain⟨h1,h2,h3⟩:=h;unfold ze8;rw[if_pos ⟨by omega,by omega⟩,show((r0:Int)).toNat=r0 by omega];exact zgi (zmw h1 (zvp h3) hE hr h2)
theorem OutK.first {rs:List PR}{ns:List PN}{r0:Nat}(hr:r0<rs.length):OutK rs ns r0 0 (ins (fun _=>false) r0):=by
 have hc:=zlh (m:=fun _=>false) hr rfl;refine⟨zcf _ _,fun j hj hm=>?_,.inr (by omega)⟩;rcases zfk hm with h|rfl
 ·cases h
 ·exact .here
end
end Go.Proofs.YthhppmehhdlmnaaGreatDoor
