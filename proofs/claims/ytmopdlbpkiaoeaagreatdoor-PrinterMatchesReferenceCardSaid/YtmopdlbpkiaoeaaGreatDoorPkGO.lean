/- An argument that is a grammar, opened: its rules and its nodes as lists. An argument that is a grammar, opened, with what its words are and what its slice of no -/
import Derived.ChangeSame
import Derived.RowKit
import Derived.SliceStrings
import Derived.Lib.SmallJoins
import Derived.Deep.Slices
import Derived.Laws.IdiomArrays
import Derived.Test.YtmopdlbpkiaoeaaGreatDoorPkB
import Derived.Test.YtmopdlbpkiaoeaaGreatDoorPkD
set_option maxRecDepth 100000
set_option maxHeartbeats 200000
namespace Go.Proofs.YtmopdlbpkiaoeaaGreatDoor
open Go.ChangeShapes Go.WideShapes Go.RowKit Go.Deep Go.Joins
theorem yaep {α:Type}(Q:Nat->α->Prop):∀(len:Nat),(∀i,i<len->∃x,Q i x)->∃l:List α,l.length=len/\∀i x,l[i]?=some x->Q i x
 |0,_=>⟨[],rfl,fun i x h=>by simp at h⟩
 |n+1,h=>by
  obtain⟨l,hl,hq⟩:=yaep Q n (fun i hi=>h i (by omega));obtain⟨y,hy⟩:=h n (Nat.lt_succ_self _);refine⟨l++[y],by simp[hl],fun i x hx=>?_⟩;rcases Nat.lt_or_ge i n with hi|hi
  ·rw[List.getElem?_append_left (by omega)] at hx;exact hq i x hx
  ·have hin:i=n:=by
    have:=(List.getElem?_eq_some_iff.1 hx).1;simp at this;omega
   subst hin;rw[List.getElem?_append_right (by omega),hl,Nat.sub_self] at hx;obtain rfl:=Option.some.inj hx;exact hy
section
variable {H:Type} {enc:TypeId × Value->H} {w:World} {base:Nat} {spare:Nat->Bool} {held:Bool}
theorem yakq {fuel:Nat}{c:Value}{y:DataW H × List MemPlace}(h:DataW.trod enc Tryz.prog w base spare held fuel 9 [c]=some y):∃s:ByteArray,c=.string s:=by
 cases fuel with
 |zero=>simp[DataW.trod] at h
 |succ fuel=>
  cases c<;>simp[DataW.trod,Tryz.underlying9] at h
  exact⟨_,rfl⟩
theorem yaeq {fuel:Nat}{c:Value}{y:DataW H × List MemPlace}(h:DataW.trod enc Tryz.prog w base spare held fuel 3 [c]=some y):∃n,c=.int .i64 n:=by
 obtain⟨n,e,-,-⟩:=DataW.trod_int Tryz.underlying3 h;exact⟨n,by simpa using e⟩
theorem yaer {a:Addr}{v:Value}(h:w.cell? (a.add 0)=some v):a=⟨a.block,a.off,none⟩:=by
 have h1:=World.cell?_spot h;have e0:a.add 0=a:=by simp[Addr.add]
 rw[e0] at h1;obtain⟨ab,ao,asp⟩:=a;simp at h1;rw[h1]
theorem yai9 {fuel:Nat}{c:Value}{y:DataW H × List MemPlace}(h:DataW.trod enc Tryz.prog w base spare held fuel 52 [c]=some y):∃l,IntsAt w c l/\l.length<=maxLen:=by
 rcases open_ints Tryz.underlying52 Tryz.underlying3 (by kernel_rfl) h with⟨hc,-⟩|⟨a,len,cap,zs,hc,hb,hl,hm,hss,-,hcell,-⟩
 ·obtain rfl:=(List.cons.inj hc).1
  exact⟨[],⟨none,0,rfl,.inl rfl⟩,Nat.zero_le _⟩
 ·obtain rfl:=(List.cons.inj hc).1
  have hlen:len<=zs.length:=by rw[hss];split<;>omega
  have e:(zs.take len).length=len:=by simp;omega
  refine⟨zs.take len,⟨some a,cap,by rw[e],?_⟩,by omega⟩;rcases Nat.eq_zero_or_pos len with h0|h0
  ·left;exact List.length_eq_zero_iff.1 (by omega)
  ·right
   have hsp:=yaer (hcell 0 (by omega));refine⟨a.block,a.off,by rw[<-hsp],fun i x hx=>?_⟩;have hi:i<len:=by have:=(List.getElem?_eq_some_iff.1 hx).1;omega
   have hci:=hcell i (by omega);rw[hsp,Addr.add_lit] at hci;rw[hci];rw[List.getElem?_take,if_pos hi] at hx;simp[List.getD,hx]
theorem yaja {fuel:Nat}{cs:List Value}{y:DataW H × List MemPlace}(h:DataW.trod enc Tryz.prog w base spare held fuel 32 cs=some y):∃r:PR,cs=[.string r.name,.int .i64 r.root]:=by
 have hs:=Tryz.underlying32;have hC:Tryz.prog.cellsOf 32=2:=by kernel_rfl
 have c1:Tryz.prog.cellsOf 9=1:=by kernel_rfl
 have c2:Tryz.prog.cellsOf 3=1:=by kernel_rfl
 obtain⟨xs,n,-,-,hlen,hl,hg⟩:=DataW.trod_struct hs h;rw[hC] at hlen;obtain⟨v0,v1,rfl⟩:∃v0 v1,cs=[v0,v1]:=by
  match cs,hlen with
  | [v0,v1],_=>exact⟨v0,v1,rfl⟩
 have hl2:xs.length=2:=hl;have g0:=hg 0 _ rfl;have g1:=hg 1 _ rfl;rw[List.getElem?_eq_getElem (by omega)] at g0 g1;simp[c1,c2] at g0 g1;obtain⟨s,rfl⟩:=yakq g0;obtain⟨k,rfl⟩:=yaeq g1;exact⟨⟨s,k⟩,rfl⟩
theorem yahm {fuel:Nat}{c:Value}{y:DataW H × List MemPlace}(h:DataW.trod enc Tryz.prog w base spare held fuel 22 [c]=some y):∃rs,RulesIn w c rs:=by
 rcases open_slice Tryz.underlying22 h with⟨hc,-⟩|⟨a,len,cap,m,n,D,Pl,hc,hb,hl,hm,hmm,-,hi⟩
 ·obtain rfl:=(List.cons.inj hc).1
  exact⟨[],Nat.zero_le _,none,0,rfl,.inl rfl⟩
 ·obtain rfl:=(List.cons.inj hc).1
  have hlm:len<=m:=by rw[hmm];split<;>omega
  have hC:Tryz.prog.cellsOf 32=2:=by kernel_rfl
  rw[hC] at hi;obtain⟨rs,hrl,hrs⟩:=yaep (fun i (r:PR)=>w.cell? (a.add (i*2))=some (.string r.name)/\w.cell? (a.add (i*2+1))=some (.int .i64 r.root)) len (fun i hil=>by
   obtain⟨cs,hcs,ht⟩:=hi i (by omega);obtain⟨r,rfl⟩:=yaja ht;obtain⟨-,-,hat⟩:=World.cells?_some hcs;have h0:=hat 0 (by decide);have h1:=hat 1 (by decide);rw[Go.Deep.add_add] at h0 h1;exact⟨r,h0,h1⟩)
  refine⟨rs,by omega,some a,cap,by rw[hrl],?_⟩;rcases Nat.eq_zero_or_pos len with h0|h0
  ·left;exact List.length_eq_zero_iff.1 (by omega)
  ·right
   obtain⟨r0,hr0⟩:∃r,rs[0]?=some r:=⟨_,List.getElem?_eq_getElem (by omega)⟩;have hsp:=yaer (by simpa using (hrs 0 r0 hr0).1);refine⟨a.block,a.off,by rw[<-hsp],fun i r hr=>?_⟩;obtain⟨c0,c1⟩:=hrs i r hr;rw[hsp,Addr.add_lit] at c0 c1;exact⟨c0,c1⟩
end
theorem wf64 {n:Int}(h:(Lit.int .u64 n).wf=true):0<=n/\n<=18446744073709551615:=by
 have e1:IntKind.u64.min=0:=rfl;have e2:IntKind.u64.max=18446744073709551615:=rfl;simp only[Lit.wf,e1,e2,Bool.and_eq_true,decide_eq_true_eq] at h;exact h
section
variable {H:Type} {enc:TypeId × Value->H} {w:World} {base:Nat} {spare:Nat->Bool} {held:Bool}
theorem yakr {fuel:Nat}{c0 c1 c2 c3:Value}{y:DataW H × List MemPlace}(h:DataW.trod enc Tryz.prog w base spare held fuel 41 [c0,c1,c2,c3]=some y):∃a b c d,c0=.int .u64 a/\c1=.int .u64 b/\c2=.int .u64 c/\c3=.int .u64 d/\(0<=a/\a<=18446744073709551615)/\(0<=b/\b<=18446744073709551615)/\(0<=c/\c<=18446744073709551615)/\(0<=d/\d<=18446744073709551615):=by
 obtain⟨y0,y1,y2,y3,n,-,h0,h1,h2,h3⟩:=trod_array4 (by kernel_rfl:Tryz.prog.underlying 41=some (.array 4 39)) (by kernel_rfl) h;obtain⟨n0,e0,-,w0⟩:=DataW.trod_int Tryz.underlying39 h0;obtain⟨n1,e1,-,w1⟩:=DataW.trod_int Tryz.underlying39 h1;obtain⟨n2,e2,-,w2⟩:=DataW.trod_int Tryz.underlying39 h2;obtain⟨n3,e3,-,w3⟩:=DataW.trod_int Tryz.underlying39 h3;exact⟨n0,n1,n2,n3,by simpa using e0,by simpa using e1,by simpa using e2,by simpa using e3,wf64 w0,wf64 w1,wf64 w2,wf64 w3⟩
theorem yajb {fuel:Nat}{cs:List Value}{y:DataW H × List MemPlace}(h:DataW.trod enc Tryz.prog w base spare held fuel 54 cs=some y):∃(n:PN) (kv:Value),cs=[.int .i64 n.op,kv,.int .i64 n.rule,.int .u64 n.s0,.int .u64 n.s1,.int .u64 n.s2,.int .u64 n.s3]/\IntsAt w kv n.kids/\n.kids.length<=maxLen/\z87 n:=by
 have hs:=Tryz.underlying54;have hC:Tryz.prog.cellsOf 54=7:=by kernel_rfl
 have c1:Tryz.prog.cellsOf 3=1:=by kernel_rfl
 have c2:Tryz.prog.cellsOf 52=1:=by kernel_rfl
 have c3:Tryz.prog.cellsOf 41=4:=by kernel_rfl
 obtain⟨xs,n,-,-,hlen,hl,hg⟩:=DataW.trod_struct hs h;rw[hC] at hlen;obtain⟨v0,v1,v2,v3,v4,v5,v6,rfl⟩:∃v0 v1 v2 v3 v4 v5 v6,cs=[v0,v1,v2,v3,v4,v5,v6]:=by
  match cs,hlen with
  | [v0,v1,v2,v3,v4,v5,v6],_=>exact⟨v0,v1,v2,v3,v4,v5,v6,rfl⟩
 have hl2:xs.length=4:=hl;have g0:=hg 0 _ rfl;have g1:=hg 1 _ rfl;have g2:=hg 2 _ rfl;have g3:=hg 3 _ rfl;rw[List.getElem?_eq_getElem (by omega)] at g0 g1 g2 g3;simp[c1,c2,c3] at g0 g1 g2 g3;obtain⟨op,rfl⟩:=yaeq g0;obtain⟨ks,hk,hkl⟩:=yai9 g1;obtain⟨r,rfl⟩:=yaeq g2;obtain⟨a,b,c,d,rfl,rfl,rfl,rfl,wa,wb,wc,wd⟩:=yakr g3;exact⟨⟨op,ks,r,a,b,c,d⟩,v1,rfl,hk,hkl,wa,wb,wc,wd⟩
theorem yahn {fuel:Nat}{c:Value}{y:DataW H × List MemPlace}(h:DataW.trod enc Tryz.prog w base spare held fuel 23 [c]=some y):∃ns,NodesAt w c ns/\(∀n,n ∈ ns->z87 n)/\∀a n cap,c=.slice a n cap->n<=cap:=by
 rcases open_slice Tryz.underlying23 h with⟨hc,-⟩|⟨a,len,cap,m,n,D,Pl,hc,hb,hl,hm,hmm,-,hi⟩
 ·obtain rfl:=(List.cons.inj hc).1
  exact⟨[],⟨Nat.zero_le _,none,0,rfl,.inl rfl⟩,fun n hn=>by simp at hn,fun a n cap e=>by injection e with e1 e2 e3;omega⟩
 ·obtain rfl:=(List.cons.inj hc).1
  have hlm:len<=m:=by rw[hmm];split<;>omega
  have hC:Tryz.prog.cellsOf 54=7:=by kernel_rfl
  rw[hC] at hi;obtain⟨ns,hrl,hrs⟩:=yaep (fun i (n:PN)=>∃kv,w.cell? (a.add (i*7))=some (.int .i64 n.op)/\w.cell? (a.add (i*7+1))=some kv/\w.cell? (a.add (i*7+2))=some (.int .i64 n.rule)/\w.cell? (a.add (i*7+3))=some (.int .u64 n.s0)/\w.cell? (a.add (i*7+4))=some (.int .u64 n.s1)/\w.cell? (a.add (i*7+5))=some (.int .u64 n.s2)/\w.cell? (a.add (i*7+6))=some (.int .u64 n.s3)/\IntsAt w kv n.kids/\n.kids.length<=maxLen/\z87 n) len (fun i hil=>by
   obtain⟨cs,hcs,ht⟩:=hi i (by omega);obtain⟨r,kv,rfl,hk,hkl,hwk⟩:=yajb ht;obtain⟨-,-,hat⟩:=World.cells?_some hcs;have h0:=hat 0 (by decide);have h1:=hat 1 (by decide);have h2:=hat 2 (by decide);have h3:=hat 3 (by decide);have h4:=hat 4 (by decide);have h5:=hat 5 (by decide);have h6:=hat 6 (by decide);rw[Go.Deep.add_add] at h0 h1 h2 h3 h4 h5 h6;exact⟨r,kv,h0,h1,h2,h3,h4,h5,h6,hk,hkl,hwk⟩)
  refine⟨ns,⟨by omega,some a,cap,by rw[hrl],?_⟩,fun n hn=>by
   obtain⟨i,hi,rfl⟩:=List.getElem_of_mem hn;obtain⟨_,_,_,_,_,_,_,_,_,_,hwk⟩:=hrs i _ (List.getElem?_eq_getElem hi);exact hwk,fun a' n cap' e=>by injection e with e1 e2 e3;omega⟩
  rcases Nat.eq_zero_or_pos len with h0|h0
  ·left;exact List.length_eq_zero_iff.1 (by omega)
  ·right
   obtain⟨r0,hr0⟩:∃r,ns[0]?=some r:=⟨_,List.getElem?_eq_getElem (by omega)⟩;obtain⟨_,hc0,-⟩:=hrs 0 r0 hr0;have hsp:=yaer (by simpa using hc0);refine⟨a.block,a.off,by rw[<-hsp],fun i r hr=>?_⟩;obtain⟨kv,q0,q1,q2,q3,q4,q5,q6,q7,q8,-⟩:=hrs i r hr;rw[hsp] at q0 q1 q2 q3 q4 q5 q6;simp only[Addr.add_lit] at q0 q1 q2 q3 q4 q5 q6;exact⟨kv,q0,q1,q2,q3,q4,q5,q6,q7,q8⟩
theorem z9y {r:Reach}{b0:Nat}{v:Value}{d:DataW H}{p:List MemPlace}(hv:Value.okWide Tryz.prog w r b0 25 v)(h:DataW.Trod enc Tryz.prog w base spare held 25 v d p) :
  ∃(rv nv:Value) (rs:List PR) (ns:List PN),v=.agg #[rv,nv]/\RulesIn w rv rs/\NodesAt w nv ns/\(∀n,n ∈ ns->z87 n)/\∀a n cap,nv=.slice a n cap->n<=cap:=by
 have hs:=Tryz.underlying25;have hC:Tryz.prog.cellsOf 25=2:=by kernel_rfl
 have c1:Tryz.prog.cellsOf 22=1:=by kernel_rfl
 have c2:Tryz.prog.cellsOf 23=1:=by kernel_rfl
 obtain⟨⟨l⟩,rfl,hsz⟩:=okWide_struct hs hv;rw[hC] at hsz;obtain⟨v0,v1,rfl⟩:∃v0 v1,l=[v0,v1]:=by
  match l,hsz with
  | [v0,v1],_=>exact⟨v0,v1,rfl⟩
 obtain⟨fuel,hf⟩:=h;obtain⟨xs,n,-,-,-,hlen,hg⟩:=DataW.trod_struct hs hf;have hl2:xs.length=2:=hlen;have g0:=hg 0 _ rfl;have g1:=hg 1 _ rfl;rw[List.getElem?_eq_getElem (by omega)] at g0 g1;simp[Value.cells,c1,c2] at g0 g1;obtain⟨rs,h1⟩:=yahm g0;obtain⟨ns,h2,h3,h4⟩:=yahn g1;exact⟨v0,v1,rs,ns,rfl,h1,h2,h3,h4⟩
end
end Go.Proofs.YtmopdlbpkiaoeaaGreatDoor
