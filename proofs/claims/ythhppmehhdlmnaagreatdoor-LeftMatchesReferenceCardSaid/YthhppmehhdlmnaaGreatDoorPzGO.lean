/- An argument that is a grammar, opened: its rules and its nodes as lists. A grammar argument opened, with the capacities of its lists of kids. Layer 13: a gramma -/
import Derived.ChangeSame
import Derived.RowKit
import Derived.SliceStrings
import Derived.Lib.SmallJoins
import Derived.Deep.Slices
import Derived.Laws.IdiomArrays
import Derived.Below
import Derived.ProofKit
import Derived.WideKeyArgs
import Derived.Test.YthhppmehhdlmnaaGreatDoorPzD
import Derived.Test.YthhppmehhdlmnaaGreatDoorPzWD
set_option maxRecDepth 100000
set_option maxHeartbeats 200000
namespace Go.Proofs.YthhppmehhdlmnaaGreatDoor
open Go.ChangeShapes Go.WideShapes Go.RowKit Go.Deep Go.Joins
theorem zoo {α:Type}(Q:Nat->α->Prop):∀(len:Nat),(∀i,i<len->∃x,Q i x)->∃l:List α,l.length=len/\∀i x,l[i]?=some x->Q i x
 |0,_=>⟨[],rfl,fun i x h=>by simp at h⟩
 |n+1,h=>by
  obtain⟨l,hl,hq⟩:=zoo Q n (fun i hi=>h i (by omega));obtain⟨y,hy⟩:=h n (Nat.lt_succ_self _);refine⟨l++[y],by simp[hl],fun i x hx=>?_⟩;rcases Nat.lt_or_ge i n with hi|hi
  ·rw[List.getElem?_append_left (by omega)] at hx;exact hq i x hx
  ·have hin:i=n:=by
    have:=(List.getElem?_eq_some_iff.1 hx).1;simp at this;omega
   subst hin;rw[List.getElem?_append_right (by omega),hl,Nat.sub_self] at hx;obtain rfl:=Option.some.inj hx;exact hy
section
variable {H:Type} {enc:TypeId × Value->H} {w:World} {base:Nat} {spare:Nat->Bool} {held:Bool}
theorem z4t {fuel:Nat}{c:Value}{y:DataW H × List MemPlace}(h:DataW.trod enc Tryz.prog w base spare held fuel 9 [c]=some y):∃s:ByteArray,c=.string s:=by
 cases fuel with
 |zero=>simp[DataW.trod] at h
 |succ fuel=>
  cases c<;>simp[DataW.trod,Tryz.underlying9] at h
  exact⟨_,rfl⟩
theorem zop {fuel:Nat}{c:Value}{y:DataW H × List MemPlace}(h:DataW.trod enc Tryz.prog w base spare held fuel 3 [c]=some y):∃n,c=.int .i64 n:=by
 obtain⟨n,e,-,-⟩:=DataW.trod_int Tryz.underlying3 h;exact⟨n,by simpa using e⟩
theorem zoq {a:Addr}{v:Value}(h:w.cell? (a.add 0)=some v):a=⟨a.block,a.off,none⟩:=by
 have h1:=World.cell?_spot h;have e0:a.add 0=a:=by simp[Addr.add]
 rw[e0] at h1;obtain⟨ab,ao,asp⟩:=a;simp at h1;rw[h1]
theorem zz3 {fuel:Nat}{c:Value}{y:DataW H × List MemPlace}(h:DataW.trod enc Tryz.prog w base spare held fuel 29 [c]=some y):∃l,IntsAt w c l/\l.length<=maxLen:=by
 rcases open_ints Tryz.underlying29 Tryz.underlying3 (by kernel_rfl) h with⟨hc,-⟩|⟨a,len,cap,zs,hc,hb,hl,hm,hss,-,hcell,-⟩
 ·obtain rfl:=(List.cons.inj hc).1
  exact⟨[],⟨none,0,rfl,.inl rfl⟩,Nat.zero_le _⟩
 ·obtain rfl:=(List.cons.inj hc).1
  have hlen:len<=zs.length:=by rw[hss];split<;>omega
  have e:(zs.take len).length=len:=by simp;omega
  refine⟨zs.take len,⟨some a,cap,by rw[e],?_⟩,by omega⟩;rcases Nat.eq_zero_or_pos len with h0|h0
  ·left;exact List.length_eq_zero_iff.1 (by omega)
  ·right
   have hsp:=zoq (hcell 0 (by omega));refine⟨a.block,a.off,by rw[<-hsp],fun i x hx=>?_⟩;have hi:i<len:=by have:=(List.getElem?_eq_some_iff.1 hx).1;omega
   have hci:=hcell i (by omega);rw[hsp,Addr.add_lit] at hci;rw[hci];rw[List.getElem?_take,if_pos hi] at hx;simp[List.getD,hx]
theorem z4u {fuel:Nat}{c0 c1 c2 c3:Value}{y:DataW H × List MemPlace}(h:DataW.trod enc Tryz.prog w base spare held fuel 49 [c0,c1,c2,c3]=some y):∃a b c d,c0=.int .u64 a/\c1=.int .u64 b/\c2=.int .u64 c/\c3=.int .u64 d:=by
 obtain⟨y0,y1,y2,y3,n,-,h0,h1,h2,h3⟩:=trod_array4 (by kernel_rfl:Tryz.prog.underlying 49=some (.array 4 47)) (by kernel_rfl) h;obtain⟨n0,e0,-,-⟩:=DataW.trod_int Tryz.underlying47 h0;obtain⟨n1,e1,-,-⟩:=DataW.trod_int Tryz.underlying47 h1;obtain⟨n2,e2,-,-⟩:=DataW.trod_int Tryz.underlying47 h2;obtain⟨n3,e3,-,-⟩:=DataW.trod_int Tryz.underlying47 h3;exact⟨n0,n1,n2,n3,by simpa using e0,by simpa using e1,by simpa using e2,by simpa using e3⟩
theorem zz4 {fuel:Nat}{cs:List Value}{y:DataW H × List MemPlace}(h:DataW.trod enc Tryz.prog w base spare held fuel 53 cs=some y):∃r:PR,cs=[.string r.name,.int .i64 r.root]:=by
 have hs:=Tryz.underlying53;have hC:Tryz.prog.cellsOf 53=2:=by kernel_rfl
 have c1:Tryz.prog.cellsOf 9=1:=by kernel_rfl
 have c2:Tryz.prog.cellsOf 3=1:=by kernel_rfl
 obtain⟨xs,n,-,-,hlen,hl,hg⟩:=DataW.trod_struct hs h;rw[hC] at hlen;obtain⟨v0,v1,rfl⟩:∃v0 v1,cs=[v0,v1]:=by
  match cs,hlen with
  | [v0,v1],_=>exact⟨v0,v1,rfl⟩
 have hl2:xs.length=2:=hl;have g0:=hg 0 _ rfl;have g1:=hg 1 _ rfl;rw[List.getElem?_eq_getElem (by omega)] at g0 g1;simp[c1,c2] at g0 g1;obtain⟨s,rfl⟩:=z4t g0;obtain⟨k,rfl⟩:=zop g1;exact⟨⟨s,k⟩,rfl⟩
theorem zz5 {fuel:Nat}{cs:List Value}{y:DataW H × List MemPlace}(h:DataW.trod enc Tryz.prog w base spare held fuel 51 cs=some y):∃(n:PN) (kv:Value),cs=[.int .i64 n.op,kv,.int .i64 n.rule,.int .u64 n.s0,.int .u64 n.s1,.int .u64 n.s2,.int .u64 n.s3]/\IntsAt w kv n.kids/\n.kids.length<=maxLen:=by
 have hs:=Tryz.underlying51;have hC:Tryz.prog.cellsOf 51=7:=by kernel_rfl
 have c1:Tryz.prog.cellsOf 3=1:=by kernel_rfl
 have c2:Tryz.prog.cellsOf 29=1:=by kernel_rfl
 have c3:Tryz.prog.cellsOf 49=4:=by kernel_rfl
 obtain⟨xs,n,-,-,hlen,hl,hg⟩:=DataW.trod_struct hs h;rw[hC] at hlen;obtain⟨v0,v1,v2,v3,v4,v5,v6,rfl⟩:∃v0 v1 v2 v3 v4 v5 v6,cs=[v0,v1,v2,v3,v4,v5,v6]:=by
  match cs,hlen with
  | [v0,v1,v2,v3,v4,v5,v6],_=>exact⟨v0,v1,v2,v3,v4,v5,v6,rfl⟩
 have hl2:xs.length=4:=hl;have g0:=hg 0 _ rfl;have g1:=hg 1 _ rfl;have g2:=hg 2 _ rfl;have g3:=hg 3 _ rfl;rw[List.getElem?_eq_getElem (by omega)] at g0 g1 g2 g3;simp[c1,c2,c3] at g0 g1 g2 g3;obtain⟨op,rfl⟩:=zop g0;obtain⟨ks,hk,hkl⟩:=zz3 g1;obtain⟨r,rfl⟩:=zop g2;obtain⟨a,b,c,d,rfl,rfl,rfl,rfl⟩:=z4u g3;exact⟨⟨op,ks,r,a,b,c,d⟩,v1,rfl,hk,hkl⟩
theorem zu7 {fuel:Nat}{c:Value}{y:DataW H × List MemPlace}(h:DataW.trod enc Tryz.prog w base spare held fuel 22 [c]=some y):∃rs,RulesIn w c rs:=by
 rcases open_slice Tryz.underlying22 h with⟨hc,-⟩|⟨a,len,cap,m,n,D,Pl,hc,hb,hl,hm,hmm,-,hi⟩
 ·obtain rfl:=(List.cons.inj hc).1
  exact⟨[],Nat.zero_le _,none,0,rfl,.inl rfl⟩
 ·obtain rfl:=(List.cons.inj hc).1
  have hlm:len<=m:=by rw[hmm];split<;>omega
  have hC:Tryz.prog.cellsOf 53=2:=by kernel_rfl
  rw[hC] at hi;obtain⟨rs,hrl,hrs⟩:=zoo (fun i (r:PR)=>w.cell? (a.add (i*2))=some (.string r.name)/\w.cell? (a.add (i*2+1))=some (.int .i64 r.root)) len (fun i hil=>by
   obtain⟨cs,hcs,ht⟩:=hi i (by omega);obtain⟨r,rfl⟩:=zz4 ht;obtain⟨-,-,hat⟩:=World.cells?_some hcs;have h0:=hat 0 (by decide);have h1:=hat 1 (by decide);rw[Go.Deep.add_add] at h0 h1;exact⟨r,h0,h1⟩)
  refine⟨rs,by omega,some a,cap,by rw[hrl],?_⟩;rcases Nat.eq_zero_or_pos len with h0|h0
  ·left;exact List.length_eq_zero_iff.1 (by omega)
  ·right
   obtain⟨r0,hr0⟩:∃r,rs[0]?=some r:=⟨_,List.getElem?_eq_getElem (by omega)⟩;have hsp:=zoq (by simpa using (hrs 0 r0 hr0).1);refine⟨a.block,a.off,by rw[<-hsp],fun i r hr=>?_⟩;obtain⟨c0,c1⟩:=hrs i r hr;rw[hsp,Addr.add_lit] at c0 c1;exact⟨c0,c1⟩
theorem zu8 {fuel:Nat}{c:Value}{y:DataW H × List MemPlace}(h:DataW.trod enc Tryz.prog w base spare held fuel 23 [c]=some y):∃ns,NodesAt w c ns:=by
 rcases open_slice Tryz.underlying23 h with⟨hc,-⟩|⟨a,len,cap,m,n,D,Pl,hc,hb,hl,hm,hmm,-,hi⟩
 ·obtain rfl:=(List.cons.inj hc).1
  exact⟨[],Nat.zero_le _,none,0,rfl,.inl rfl⟩
 ·obtain rfl:=(List.cons.inj hc).1
  have hlm:len<=m:=by rw[hmm];split<;>omega
  have hC:Tryz.prog.cellsOf 51=7:=by kernel_rfl
  rw[hC] at hi;obtain⟨ns,hrl,hrs⟩:=zoo (fun i (n:PN)=>∃kv,w.cell? (a.add (i*7))=some (.int .i64 n.op)/\w.cell? (a.add (i*7+1))=some kv/\w.cell? (a.add (i*7+2))=some (.int .i64 n.rule)/\w.cell? (a.add (i*7+3))=some (.int .u64 n.s0)/\w.cell? (a.add (i*7+4))=some (.int .u64 n.s1)/\w.cell? (a.add (i*7+5))=some (.int .u64 n.s2)/\w.cell? (a.add (i*7+6))=some (.int .u64 n.s3)/\IntsAt w kv n.kids/\n.kids.length<=maxLen) len (fun i hil=>by
   obtain⟨cs,hcs,ht⟩:=hi i (by omega);obtain⟨r,kv,rfl,hk,hkl⟩:=zz5 ht;obtain⟨-,-,hat⟩:=World.cells?_some hcs;have h0:=hat 0 (by decide);have h1:=hat 1 (by decide);have h2:=hat 2 (by decide);have h3:=hat 3 (by decide);have h4:=hat 4 (by decide);have h5:=hat 5 (by decide);have h6:=hat 6 (by decide);rw[Go.Deep.add_add] at h0 h1 h2 h3 h4 h5 h6;exact⟨r,kv,h0,h1,h2,h3,h4,h5,h6,hk,hkl⟩)
  refine⟨ns,by omega,some a,cap,by rw[hrl],?_⟩;rcases Nat.eq_zero_or_pos len with h0|h0
  ·left;exact List.length_eq_zero_iff.1 (by omega)
  ·right
   obtain⟨r0,hr0⟩:∃r,ns[0]?=some r:=⟨_,List.getElem?_eq_getElem (by omega)⟩;obtain⟨_,hc0,-⟩:=hrs 0 r0 hr0;have hsp:=zoq (by simpa using hc0);refine⟨a.block,a.off,by rw[<-hsp],fun i r hr=>?_⟩;have hh:=hrs i r hr;rw[hsp] at hh;simp only[Addr.add_lit] at hh;exact hh
end
section
variable {H:Type} {enc:TypeId × Value->H} {w:World} {base:Nat} {spare:Nat->Bool} {held:Bool}
theorem zo9 {fuel:Nat}{c:Value}{y:DataW H × List MemPlace}(h:DataW.trod enc Tryz.prog w base spare held fuel 29 [c]=some y):∀a n cap,c=.slice a n cap->n<=cap:=by
 intro a n cap hc;rcases open_slice Tryz.underlying29 h with⟨hd,-⟩|⟨a',len,cap',m,k,D,Pl,hd,-,hl,-⟩
 ·have:=(List.cons.inj hd).1
  rw[hc] at this;injection this with e1 e2 e3;omega
 ·have:=(List.cons.inj hd).1
  rw[hc] at this;injection this with e1 e2 e3;omega
theorem zpa {fuel:Nat}{cs:List Value}{y:DataW H × List MemPlace}(h:DataW.trod enc Tryz.prog w base spare held fuel 51 cs=some y):∀a n cap,cs[1]?=some (.slice a n cap)->n<=cap:=by
 have hs:=Tryz.underlying51;have hC:Tryz.prog.cellsOf 51=7:=by kernel_rfl
 have c2:Tryz.prog.cellsOf 29=1:=by kernel_rfl
 have c3:Tryz.prog.cellsOf 49=4:=by kernel_rfl
 obtain⟨xs,n,-,-,hlen,hl,hg⟩:=DataW.trod_struct hs h;rw[hC] at hlen;obtain⟨v0,v1,v2,v3,v4,v5,v6,rfl⟩:∃v0 v1 v2 v3 v4 v5 v6,cs=[v0,v1,v2,v3,v4,v5,v6]:=by
  match cs,hlen with
  | [v0,v1,v2,v3,v4,v5,v6],_=>exact⟨v0,v1,v2,v3,v4,v5,v6,rfl⟩
 have hl2:xs.length=4:=hl;have g1:=hg 1 _ rfl;rw[List.getElem?_eq_getElem (by omega)] at g1;simp[c2] at g1;intro a n' cap hc;have:v1=.slice a n' cap:=by simpa using hc
 exact zo9 g1 a n' cap this
theorem zlk {fuel:Nat}{c:Value}{N:Nat}{y:DataW H × List MemPlace}(h:DataW.trod enc Tryz.prog w base spare held fuel 23 [c]=some y)(hN:∀a n cap,c=.slice a n cap->n=N):CapsAt w c N:=by
 intro b off n cc hc i hi a m d hcell;rcases open_slice Tryz.underlying23 h with⟨hd,-⟩|⟨a',len,cap',m',k,D,Pl,hd,hb,hl,hm,hmm,-,hi'⟩
 ·have:=(List.cons.inj hd).1
  rw[hc] at this;injection this with e1 e2 e3;cases e1
 ·have h1:=(List.cons.inj hd).1
  have hn:=hN _ _ _ hc;rw[hc] at h1;injection h1 with e1 e2 e3;cases e1;have hlm:len<=m':=by rw[hmm];split<;>omega
  have hC:Tryz.prog.cellsOf 51=7:=by kernel_rfl
  rw[hC] at hi';obtain⟨cs,hcs,ht⟩:=hi' i (by omega);obtain⟨-,-,hat⟩:=World.cells?_some hcs;have h1:=hat 1 (by decide);rw[Go.Deep.add_add,Addr.add_lit] at h1;refine zpa ht a m d ?_;rw[<-Nat.add_assoc] at h1;exact h1.symm.trans hcell
end
section
variable {H:Type} {enc:TypeId × Value->H} {w:World} {base:Nat} {spare:Nat->Bool} {held:Bool}
theorem zna {fuel:Nat}{c:Value}{y:DataW H × List MemPlace}(h:DataW.trod enc Tryz.prog w base spare held fuel 23 [c]=some y):∀a n cap,c=.slice a n cap->n<=cap:=by
 rcases open_slice Tryz.underlying23 h with⟨hc,-⟩|⟨a,len,cap,m,n,D,Pl,hc,hb,hl,hm,hmm,-,hi⟩
 ·obtain rfl:=(List.cons.inj hc).1
  exact fun a n cap e=>by injection e with e1 e2 e3;omega
 ·obtain rfl:=(List.cons.inj hc).1
  have hlm:len<=m:=by rw[hmm];split<;>omega
  exact fun a' n cap' e=>by injection e with e1 e2 e3;omega
theorem ze9 {r:Reach}{b0:Nat}{v:Value}{d:DataW H}{p:List MemPlace}(hv:Value.okWide Tryz.prog w r b0 25 v)(h:DataW.Trod enc Tryz.prog w base spare held 25 v d p) :
  ∃(rv nv:Value) (rs:List PR) (ns:List PN),v=.agg #[rv,nv]/\RulesIn w rv rs/\NodesAt w nv ns/\CapsAt w nv ns.length/\∀a n cap,nv=.slice a n cap->n<=cap:=by
 have hs:=Tryz.underlying25;have hC:Tryz.prog.cellsOf 25=2:=by kernel_rfl
 have c1:Tryz.prog.cellsOf 22=1:=by kernel_rfl
 have c2:Tryz.prog.cellsOf 23=1:=by kernel_rfl
 obtain⟨⟨l⟩,rfl,hsz⟩:=okWide_struct hs hv;rw[hC] at hsz;obtain⟨v0,v1,rfl⟩:∃v0 v1,l=[v0,v1]:=by
  match l,hsz with
  | [v0,v1],_=>exact⟨v0,v1,rfl⟩
 obtain⟨fuel,hf⟩:=h;obtain⟨xs,n,-,-,-,hlen,hg⟩:=DataW.trod_struct hs hf;have hl2:xs.length=2:=hlen;have g0:=hg 0 _ rfl;have g1:=hg 1 _ rfl;rw[List.getElem?_eq_getElem (by omega)] at g0 g1;simp[Value.cells,c1,c2] at g0 g1;obtain⟨rs,h1⟩:=zu7 g0;obtain⟨ns,h2⟩:=zu8 g1;refine⟨v0,v1,rs,ns,rfl,h1,h2,zlk g1 fun a n cap e=>?_,zna g1⟩;obtain⟨-,a',c',e',-⟩:=h2;rw[e] at e';injection e' with e1 e2 e3
end
end Go.Proofs.YthhppmehhdlmnaaGreatDoor
namespace Go.Proofs.YthhppmehhdlmnaaGreatDoor
open Go.RowKit Go.WideShapes Go.ChangeShapes
section
variable {H:Type} {enc:TypeId × Value->H} {P:Program}
theorem zme {f:Func}{s:ChangeSpec}{apart fresh handsOn again:Bool}{W W':World}{args:Array Value}{v:Value}{ds gs:List (DataW H)}{before pa pv:List MemPlace}
  (hW:DataW.Whole enc P f.params.toList s.vars apart W args.toList ds gs before)
  (hres:∀(b:Nat) (sp:Nat->Bool) (hd:Bool),DataW.TrodAll enc P W' b sp hd f.resultTypes.toList (v.resultList f.resultTypes.size) (s.fn H (ds++gs)).results [])
  (hargs:∀sp:Nat->Bool,(∀p ∈ before,sp p.block=true)->DataW.TrodAll enc P W' 0 sp true f.params.toList args.toList (s.fn H (ds++gs)).args pa)
  (hvars:∀sp:Nat->Bool,(∀p ∈ before,sp p.block=true)->DataW.TrodVars enc P W' sp s.vars (s.fn H (ds++gs)).vars pv)
  (hps:before=pa++pv) (hb:Below W.heap.size W W')
  (hok:∀(j:Nat) (t:TypeId) (r:Value),f.resultTypes[j]?=some t->(v.resultList f.resultTypes.size)[j]?=some r->Value.okWide P W' .any 0 t r) :
  s.post enc P f apart fresh handsOn again W args v W':=by
 have hlt:∀p ∈ before,p.block<W.heap.size:=fun p hp=>hW.lt p hp
 have hold:∀p ∈ before,(fun b=>decide (b<W.heap.size)) p.block=true:=fun p hp=>by simpa using hlt p hp
 refine⟨ds,gs,before,[],pa,pv,hW,hres _ _ _,hargs _ hold,hvars _ hold,World.keptBut_mono (fun p hp=>⟨hp,?_⟩) (hb.frame (· ∈ before)),fun _=>?_⟩
 ·rw[hps,List.mem_append] at hp
  exact Or.inr hp
 ·obtain⟨_,_,_,_,_,hz,hn⟩:=hW
  refine⟨hok,_,_,([]++pa)++pv,⟨[]++pa,pv,trodAll_append (hargs _ (fun _ _=>rfl)) (hres _ _ _),hvars _ (fun _ _=>rfl),rfl,?_,?_⟩,?_⟩
  ·intro b off hp
   have hin:MemPlace.cell b off ∈ before:=by rw[hps];simpa using hp
   rw[hb.frozen (hlt _ hin)];exact hz b off hin
  ·intro ha
   have:=hn ha;rw[hps] at this;simpa using this
  ·intro p hp _
   rw[hps];simpa using hp
theorem zgd (hl:laidOutB P=true){W W':World}(hb:Below W.heap.size W W'){sp:Nat->Bool}:∀ {ts:List TypeId} {vs:List Value} {ds:List (DataW H)} {ps:List MemPlace},
  (∀t,t ∈ ts->P.readableRec t=true/\t<P.types.size)->DataW.TrodAll enc P W 0 (fun _=>true) true ts vs ds ps->(∀p ∈ ps,p.block<W.heap.size)->(∀p ∈ ps,sp p.block=true)->DataW.TrodAll enc P W' 0 sp true ts vs ds ps
 | [],[],[],_,_,h,_,_=>h
 | [],[],_::_,_,_,h,_,_=>h.elim
 | [],_::_,_,_,_,h,_,_=>h.elim
 |_::_,[],_,_,_,h,_,_=>h.elim
 |_::_,_::_,[],_,_,h,_,_=>h.elim
 |t::_,_::_,_::_,_,ht,⟨p,q,h1,h2,e⟩,hlt,hs=>by
  have a1:=ht t (List.mem_cons.2 (Or.inl rfl));refine⟨p,q,WideElems.Trod_stays hl a1.1 a1.2 h1 (fun x hx=>hb.same (hlt x (by rw[e];exact List.mem_append_left _ hx))) (fun x hx=>hs x (by rw[e];exact List.mem_append_left _ hx)),
   zgd hl hb (fun t h=>ht t (List.mem_cons.2 (Or.inr h))) h2 (fun x hx=>hlt x (by rw[e];exact List.mem_append_right _ hx)) (fun x hx=>hs x (by rw[e];exact List.mem_append_right _ hx)),e⟩
theorem zsl {f:Func}{s:ChangeSpec}{apart fresh handsOn again:Bool}{W W':World}{args:Array Value}{ds gs:List (DataW H)}{before:List MemPlace}{tb:TypeId}
  (hl:laidOutB P=true) (hps:(f.params.toList.all fun t=>P.readableRec t&&decide (t<P.types.size))=true) (hv:s.vars=[]) (hr:f.resultTypes=#[tb]) (htb:P.underlying tb=some .bool)
  (hs:(s.fn H (ds++gs)).results=[.lit (.bool true)]) (ha:(s.fn H (ds++gs)).args=ds) (hgv:(s.fn H (ds++gs)).vars=[])
  (hW:DataW.Whole enc P f.params.toList s.vars apart W args.toList ds gs before) (hb:Below W.heap.size W W') :
  s.post enc P f apart fresh handsOn again W args (.bool true) W':=by
 have hlt:∀p ∈ before,p.block<W.heap.size:=fun p hp=>hW.lt p hp
 have hW':=hW;obtain⟨p,q,hA,hV,e,-,-⟩:=hW';rw[hv] at hV;have hq:q=[]:=by
  cases gs with
  |nil=>exact hV
  |cons g gs=>exact hV.elim
 subst hq;rw[List.append_nil] at e;subst e;have hps':∀t,t ∈ f.params.toList->P.readableRec t=true/\t<P.types.size:=fun t ht=>by
  have:=List.all_eq_true.1 hps t ht;simpa using this
 refine zme (pa:=before) (pv:=[]) hW (fun b sp hd=>?_) (fun sp hsp=>?_) (fun sp _=>?_) (by simp) hb (fun j t r hj hr'=>?_)
 ·rw[hr,hs];exact trodAll_mk1 (shut_bool htb true)
 ·rw[ha];exact zgd hl hb hps' hA hlt hsp
 ·rw[hv,hgv];rfl
 ·exact ok_one hr rfl (okWide_bool_mk htb true) j t r hj hr'
end
end Go.Proofs.YthhppmehhdlmnaaGreatDoor
