/- The needs of nodes and their loops, by the least facts; a grammar with nodes more. No walk. wf: null, repeatsNothing, needs. wf: where, at its three types, with -/
import Derived.Deep.CutRange
import Derived.Test.YthhppmehhdlmnaaGreatDoorPkFM
import Derived.Test.YthhppmehhdlmnaaGreatDoorPkFS
set_option maxRecDepth 100000
set_option maxHeartbeats 4000000
namespace Go.Proofs.YthhppmehhdlmnaaGreatDoor
def seqNd (L:List Fc):List Int->List Int
 | []=>[]
 |k::r=>k::(if (atF L k).nul then seqNd L r else [])
def needN (rs:List PR)(L:List Fc)(n:PN):List Int:=if n.op=2 then [rootF rs n.rule] else if n.op=3 then seqNd L n.kids else n.kids
def loopN (L:List Fc)(n:PN):Bool:=decide (n.op=5∨n.op=6)&&(atF L (n.kids.headD (-1))).nul
def needW (rs:List PR)(ns:List PN)(L:List Fc)(i:Nat):List Nat:=match ns[i]? with
 |some n=>(needN rs L n).map Int.toNat
 |none=>[]
def loopW (ns:List PN)(L:List Fc)(i:Nat):Bool:=match ns[i]? with
 |some n=>loopN L n
 |none=>false
theorem zc8 {rs:List PR}{ns:List PN}{L:List Fc}{i:Nat}{n:PN}(h:ns[i]?=some n):needW rs ns L i=(needN rs L n).map Int.toNat:=by unfold needW;rw[h]
theorem zlc {ns:List PN}{L:List Fc}{i:Nat}{n:PN}(h:ns[i]?=some n):loopW ns L i=loopN L n:=by unfold loopW;rw[h]
theorem zh9 (L:List Fc):∀(ks:List Int) (k:Int),k ∈ seqNd L ks->k ∈ ks
 | [],_,h=>by cases h
 |x::r,k,h=>by
  unfold seqNd at h;rcases List.mem_cons.1 h with rfl|h
  ·exact List.mem_cons_self ..
  ·split at h
   ·exact List.mem_cons_of_mem _ (zh9 L r k h)
   ·cases h
theorem zld (L:List Fc):∀(ks:List Int) (q:Int->Bool),(∀k,k ∈ seqNd L ks->q k=true)↔∀(j:Nat) (k:Int),ks[j]?=some k->(∀m,m<j->∀x,ks[m]?=some x->(atF L x).nul=true)->q k=true
 | [],q=>by
  refine⟨fun _ j k h=>by simp at h,fun _ k h=>by cases h⟩
 |x::r,q=>by
  unfold seqNd;have ih:=zld L r q;constructor
  ·intro h j k hj hb
   cases j with
   |zero=>
    obtain rfl:x=k:=by simpa using hj
    exact h _ (List.mem_cons_self ..)
   |succ j=>
    have hx:(atF L x).nul=true:=hb 0 (by omega) x rfl;rw[hx,if_pos rfl] at h;exact ih.1 (fun k hk=>h k (List.mem_cons_of_mem _ hk)) j k (by simpa using hj) fun m hm y hy=>hb (m+1) (by omega) y (by simpa using hy)
  ·intro h k hk
   rcases List.mem_cons.1 hk with rfl|hk
   ·exact h 0 _ rfl fun m hm=>by omega
   ·split at hk
    ·rename_i hx
     refine ih.2 (fun j k hj hb=>h (j+1) k (by simpa using hj) fun m hm y hy=>?_) k hk;cases m with
     |zero=>
          obtain rfl:x=y:=by simpa using hy
          exact hx
     |succ m=>exact hb m (by omega) y (by simpa using hy)
    ·cases hk
theorem zhj {rs:List PR}{L:List Fc}{n:PN}{N:Nat}(h:NodeIn rs N n){k:Int}(hk:k ∈ needN rs L n):0<=k/\k<(N:Int):=by
 unfold needN at hk;split at hk
 ·rename_i h2
  obtain⟨r,x,e,hx,h1,h3⟩:=h.root h2;obtain rfl:=List.mem_singleton.1 hk;rw[e,zcn hx];exact⟨h1,h3⟩
 ·split at hk
  ·exact h.kid k (zh9 _ _ _ hk)
  ·exact h.kid k hk
theorem zle {rs:List PR}{ns:List PN}{L:List Fc}(h:∀n,n ∈ ns->NodeIn rs ns.length n):∀i,i<ns.length->∀j,j ∈ needW rs ns L i->j<ns.length:=fun i hi j hj=>by
 have hn:ns[i]?=some ns[i]:=List.getElem?_eq_getElem hi;rw[zc8 hn] at hj;obtain⟨k,hk,rfl⟩:=List.mem_map.1 hj;have:=zhj (h _ (List.getElem_mem hi)) hk;omega
open Go.RowKit
theorem zm1 (v:Value)(l:List Fc)(i:Int)(w:World)(h:FactsAt w v l) :
  Calls Tryz.prog 79 #[v,.int .i64 i] w fun e w'=>e=.returned (.bool (atF l i).nul)/\w'=w:=by
 obtain⟨a,c,rfl⟩:=h.slice;by_cases h0:i<0
 ·rw[zfi h0]
  have k0:¬(0:Int)<=i:=by omega
  go_enter Tryz.func79,Tryz.ntmps79;go_wp2;go_ret;exact⟨rfl,rfl⟩
 ·have k0:(0:Int)<=i:=by omega
  by_cases h1:(l.length:Int)<=i
  ·rw[zor h1]
   have k1:¬i<(l.length:Int):=by omega
   go_enter Tryz.func79,Tryz.ntmps79;go_wp2;go_ret;exact⟨rfl,rfl⟩
  ·obtain⟨k,rfl⟩:∃k:Nat,i=k:=⟨i.toNat,by omega⟩
   have hk:k<l.length:=by omega
   obtain⟨f,hf⟩:∃f,l[k]?=some f:=⟨_,List.getElem?_eq_getElem hk⟩;rw[za6 hf];obtain⟨b,off,rfl,c0,-,-⟩:=h.at hf;have hlt:=zac c0;have k1:(k:Int)<(l.length:Int):=by omega
   clear h hf;go_enter Tryz.func79,Tryz.ntmps79;go_wp2;go_ret;exact⟨rfl,rfl⟩
theorem IntsAt.cell {w:World}{a:Option Addr}{n c:Nat}{l:List Int}{i:Nat}{x:Int}(h:IntsAt w (.slice a n c) l)(hx:l[i]?=some x):∃b off,a=some ⟨b,off,none⟩/\w.cell? ⟨b,off+i,none⟩=some (.int .i64 x):=by
 obtain⟨a',c',e,h⟩:=h;injection e with e1 e2 e3;subst e1;rcases h with h|⟨b,off,rfl,hc⟩
 ·rw[h] at hx;simp at hx
 ·exact⟨b,off,rfl,hc i x hx⟩
theorem zm2 (n:PN)(ka:Option Addr)(kc:Nat)(v:Value)(L:List Fc)(w:World)(hK:IntsAt w (.slice ka n.kids.length kc) n.kids)(hF:FactsAt w v L)(h5:5<=n.op->∃k,n.kids=[k]) :
  Calls Tryz.prog 48 #[.agg #[.int .i64 n.op,.slice ka n.kids.length kc,.int .i64 n.rule,.int .u64 n.s0,.int .u64 n.s1,.int .u64 n.s2,.int .u64 n.s3],v] w fun e w'=>e=.returned (.bool (loopN L n))/\Below w.heap.size w w':=by
 have hone:=Lib.hid (zab w (.cells #[.int .i64 n.op,.slice ka n.kids.length kc,.int .i64 n.rule,.int .u64 n.s0,.int .u64 n.s1,.int .u64 n.s2,.int .u64 n.s3] 51));by_cases e56:n.op=5∨n.op=6
 ·obtain⟨k,hk⟩:=h5 (by omega)
  obtain⟨b,off,rfl,c0⟩:=hK.cell (i:=0) (x:=k) (by rw[hk];rfl);rw[Nat.add_zero] at c0;have hl:=zac c0;have hres:=Lib.hid (show loopN L n=(atF L k).nul by unfold loopN;rw[hk,decide_eq_true e56];rfl);have HN:=Lib.hid (zm1 v L k _ (hF.below hone.out));rw[show n.kids.length=1 by rw[hk];rfl] at HN ⊢;clear hK hF h5 hk;rcases e56 with e|e<;>rw[e] at HN ⊢<;>clear e
  all_goals
   go_enter Tryz.func48,Tryz.ntmps48
   go_wp2_with (go_at_call 79;(with_reducible refine HN.out.mono ?_);rintro e w2 ⟨rfl,hw⟩;obtain rfl:=hw.symm;clear hw)
   go_ret;exact⟨zaf hres.out.symm,zab _ _⟩
 ·have q5:(n.op == 5)=false:=zaj (by omega)
  have q6:(n.op == 6)=false:=zaj (by omega);have hres:=Lib.hid (show loopN L n=false by unfold loopN;rw[decide_eq_false e56];rfl);clear hK hF h5;go_enter Tryz.func48,Tryz.ntmps48;go_wp2;go_ret;exact⟨zaf hres.out.symm,zab _ _⟩
theorem zm3 (L:List Fc):∀(ks:List Int),(∀k,k ∈ ks->(atF L k).nul=true)->seqNd L ks=ks
 | [],_=>rfl
 |x::r,h=>by
  unfold seqNd;rw[h x (List.mem_cons_self ..),if_pos rfl,zm3 L r fun k hk=>h k (List.mem_cons_of_mem _ hk)]
theorem zm4 (L:List Fc):∀(ks:List Int) (m:Nat) (x:Int),(∀k,k ∈ ks.take m->(atF L k).nul=true)->ks[m]?=some x->(atF L x).nul=false->seqNd L ks=ks.take (m+1)
 | [],m,x,_,h,_=>by simp at h
 |y::r,0,x,_,h,hx=>by
  obtain rfl:y=x:=by simpa using h
  unfold seqNd;rw[hx];rfl
 |y::r,m+1,x,hy,h,hx=>by
  unfold seqNd;rw[hy y (by simp),if_pos rfl,zm4 L r m x (fun k hk=>hy k (by rw[List.take_succ_cons];exact List.mem_cons_of_mem _ hk)) (by simpa using h) hx,List.take_succ_cons]
theorem IntsAt.take {w:World}{a:Option Addr}{n c m:Nat}{l:List Int}(h:IntsAt w (.slice a n c) l)(hm:m<=l.length):IntsAt w (.slice a m c) (l.take m):=by
 obtain⟨a',c',e,h⟩:=h;injection e with e1 e2 e3;subst e1 e3;refine⟨a,c,by rw[List.length_take,Nat.min_eq_left hm],?_⟩;rcases h with h|⟨b,off,rfl,hc⟩
 ·left;rw[h];simp
 ·refine .inr ⟨b,off,rfl,fun i x hx=>hc i x ?_⟩
  rw[List.getElem?_take] at hx;split at hx
  ·exact hx
  ·cases hx
def NeedsIs (rs:List PR)(L:List Fc)(n:PN)(ka:Option Addr)(kc:Nat)(w:World)(e:Ending)(w':World):Prop:=∃a c,e=.returned (.slice a (needN rs L n).length c)/\IntsAt w' (.slice a (needN rs L n).length c) (needN rs L n)/\Below w.heap.size w w' /\
 ((a=ka/\c=kc/\needN rs L n=n.kids.take (needN rs L n).length)∨∃X x,a=some ⟨X,0,none⟩/\c=1/\needN rs L n=[x]/\w.heap.size<=X)
theorem NeedsIs.kids {rs:List PR}{L:List Fc}{n:PN}{w w':World}{l:List Int}{a:Option Addr}{m c:Nat}(h:needN rs L n=l)(hi:IntsAt w' (.slice a m c) l)(ht:l=n.kids.take m)(hb:Below w.heap.size w w'):NeedsIs rs L n a c w (.returned (.slice a m c)) w':=by
 subst h;obtain⟨a',c',e,h2⟩:=id hi;injection e with e1 e2 e3;subst e2;exact⟨a,c,rfl,hi,hb,.inl ⟨rfl,rfl,ht⟩⟩
theorem NeedsIs.one {rs:List PR}{L:List Fc}{n:PN}{w w':World}{x:Int}{X:Nat}{ka:Option Addr}{kc:Nat}(h:needN rs L n=[x])(hi:IntsAt w' (.slice (some ⟨X,0,none⟩) 1 1) [x])(hX:w.heap.size<=X)(hb:Below w.heap.size w w'):NeedsIs rs L n ka kc w (.returned (.slice (some ⟨X,0,none⟩) 1 1)) w':=by
 unfold NeedsIs;rw[h];exact⟨_,_,rfl,hi,hb,.inr ⟨X,x,rfl,rfl,rfl,hX⟩⟩
theorem zjm (rv nv v:Value)(rs:List PR)(N:Nat)(L:List Fc)(n:PN)(ka:Option Addr)(kc:Nat)(w:World)(hR:RulesIn w rv rs)(hK:IntsAt w (.slice ka n.kids.length kc) n.kids)(hc:n.kids.length<=kc)(hl:n.kids.length<=1000000)(hF:n.op=3->FactsAt w v L)(hI:NodeIn rs N n) :
  Calls Tryz.prog 61 #[.agg #[rv,nv],.agg #[.int .i64 n.op,.slice ka n.kids.length kc,.int .i64 n.rule,.int .u64 n.s0,.int .u64 n.s1,.int .u64 n.s2,.int .u64 n.s3],v] w (NeedsIs rs L n ka kc w):=by
 have htwo:=Lib.hid (zat w (.cells #[rv,nv] 25) (.cells #[.int .i64 n.op,.slice ka n.kids.length kc,.int .i64 n.rule,.int .u64 n.s0,.int .u64 n.s1,.int .u64 n.s2,.int .u64 n.s3] 51));by_cases e2:n.op=2
 ·obtain⟨r,x,hr,hx,h0,h1⟩:=hI.root e2
  have hres:=Lib.hid (show needN rs L n=[x.root] by unfold needN;rw[if_pos e2,hr,zcn hx]);obtain⟨-,ra,rc,rfl,hra⟩:=hR;have hrl:=(List.getElem?_eq_some_iff.1 hx).1;rcases hra with h|⟨rb,ro,rfl,hca⟩
  ·rw[h] at hrl;exact absurd hrl (Nat.not_lt_zero _)
  obtain⟨r0,r1⟩:=hca r x hx;have lr:=zac r0;have k0:¬(r:Int)<0:=by omega
  have k1:¬(rs.length:Int)<=(r:Int):=by omega
  have k2:(r:Int)<(rs.length:Int):=by omega
  rw[e2,hr] at htwo ⊢;clear hI hca hF hK hx hr h0 h1;go_enter Tryz.func61,Tryz.ntmps61;go_wp2;go_ret;refine NeedsIs.one hres.out ⟨some ⟨w.heap.size+2,0,none⟩,1,rfl,.inr ⟨_,0,rfl,fun i y hy=>?_⟩⟩ (by omega) (zar htwo.out);cases i with
  |zero=>
       obtain rfl:x.root=y:=by simpa using hy
       exact Bl.cell (o:=0) (Bl.new' (by simp)) rfl
  |succ i=>simp at hy
 ·have q2:(n.op == 2)=false:=zaj e2
  by_cases e3:n.op=3
  ·have hF:=hF e3
   have hN:=Lib.hid (show needN rs L n=seqNd L n.kids by unfold needN;rw[if_neg e2,if_pos e3]);have HN:=Lib.hid (fun(x:Int)=>zm1 v L x _ (hF.below htwo.out));have HK:=Lib.hid (hK.kept htwo.out (Nat.le_refl _));have HB:=Lib.hid htwo.out;have hz0:∃a l c,v=.slice a l c:=by obtain⟨a,c,e⟩:=hF.slice;exact⟨a,_,c,e⟩
   rw[e3] at htwo HN HK HB ⊢;clear hI hF q2 htwo;go_enter Tryz.func61,Tryz.ntmps61;go_wp2
   go_loopw [37] (fun d wr=>∃k:Nat,k<=n.kids.length/\d=.int .i64 (k:Int)/\wr=(w.alloc (.cells #[rv,nv] 25)).alloc (.cells #[.int .i64 3,.slice ka n.kids.length kc,.int .i64 n.rule,.int .u64 n.s0,.int .u64 n.s1,.int .u64 n.s2,.int .u64 n.s3] 51)/\∀y,y ∈ n.kids.take k->(atF L y).nul=true) (fun d _=>n.kids.length-(intOf d).toNat)
   case atStart=>exact⟨0,Nat.zero_le _,by first|rfl|trivial,by first|rfl|trivial,by simp⟩
   case round=>
    obtain⟨k,hk,rfl,rfl,hall⟩:=hrel;have HA:=Lib.hid hall;clear hall;by_cases hlt:k<n.kids.length
    ·have k1:(k:Int)<(n.kids.length:Int):=by omega
     have k2:(k:Int)+1<=(kc:Int):=by omega
     obtain⟨x,hx⟩:∃x,n.kids[k]?=some x:=⟨_,List.getElem?_eq_getElem hlt⟩;obtain⟨b,off,rfl,c0⟩:=hK.cell hx;have hlb:=zac c0;have HX:=Lib.hid hx;have HNX:=Lib.hid (HN.out x);clear hx;cases hb:(atF L x).nul with
     |true=>
      rw[hb] at HNX
      go_wp2_with (go_at_call 79;(with_reducible refine HNX.out.mono ?_);rintro e w2 ⟨rfl,hw⟩;obtain rfl:=hw.symm;clear hw)
      go_roundw
      case rel=>
       refine⟨k+1,by omega,by go_num,by first|rfl|trivial,fun y hy=>?_⟩;rw[List.take_add_one,HX.out,List.mem_append] at hy;rcases hy with hy|hy
       ·exact HA.out y hy
       ·obtain rfl:y=x:=by simpa using hy
        exact hb
      case measure=>simp[intOf];omega
     |false=>
      rw[hb] at HNX
      go_wp2_with (go_at_call 79;(with_reducible refine HNX.out.mono ?_);rintro e w2 ⟨rfl,hw⟩;obtain rfl:=hw.symm;clear hw)
      go_ret;have e1:=zm4 L n.kids k x HA.out HX.out hb;exact NeedsIs.kids (hN.out.trans e1) (HK.out.take hlt) rfl HB.out
    ·obtain rfl:k=n.kids.length:=by omega
     have k1:¬(n.kids.length:Int)<(n.kids.length:Int):=by omega
     go_wp2;go_ret;rw[List.take_length] at HA;exact NeedsIs.kids (hN.out.trans (zm3 L _ HA.out)) HK.out (List.take_length ..).symm HB.out
  ·have q3:(n.op == 3)=false:=zaj e3
   have hres:=Lib.hid (show needN rs L n=n.kids by unfold needN;rw[if_neg e2,if_neg e3]);have HK:=Lib.hid (hK.kept htwo.out (Nat.le_refl _));clear hI hF hK;go_enter Tryz.func61,Tryz.ntmps61;go_wp2;go_ret;exact NeedsIs.kids hres.out HK.out (List.take_length ..).symm htwo.out
def idxP (p:Nat->Bool)(k:Nat):List Int:=((List.range k).filter p).map fun(i:Nat)=>(i:Int)
theorem zf3 {p:Nat->Bool}{k:Nat}(h:p k=true):idxP p (k+1)=idxP p k++[(k:Int)]:=by
 unfold idxP;rw[List.range_succ,List.filter_append,List.map_append,List.filter_cons_of_pos h];rfl
theorem zlf {p:Nat->Bool}{k:Nat}(h:p k=false):idxP p (k+1)=idxP p k:=by
 unfold idxP;rw[List.range_succ,List.filter_append,List.map_append,List.filter_cons_of_neg (by rw[h];simp)];simp
theorem zlg (p:Nat->Bool)(k:Nat):(idxP p k).length<=k:=by
 unfold idxP;rw[List.length_map];have:=List.length_filter_le p (List.range k);rwa [List.length_range] at this
theorem zs5 {p q:Nat->Bool}{k:Nat}(h:∀i,i<k->p i=q i):idxP p k=idxP q k:=by
 unfold idxP;rw[List.filter_congr fun i hi=>h i (List.mem_range.1 hi)]
def BoolsAt (w:World)(v:Value)(l:List Bool):Prop:=∃a cap,v=.slice a l.length cap/\(l=[]∨∃b off,a=some ⟨b,off,none⟩/\∀i x,l[i]?=some x->w.cell? ⟨b,off+i,none⟩=some (.bool x))
theorem BoolsAt.kept {n:Nat}{w w':World}{v:Value}{l:List Bool}(h:BoolsAt w v l)(hb:Below n w w')(hn:w.heap.size<=n):BoolsAt w' v l:=by
 obtain⟨a,cap,rfl,h⟩:=h;refine⟨a,cap,rfl,?_⟩;rcases h with h|⟨b,off,rfl,hc⟩
 ·exact .inl h
 ·refine .inr ⟨b,off,rfl,fun i x hx=>?_⟩
  have h0:=hc i x hx;have hl:=zac h0;rw[(bcell hb).1 b _ (by omega)];exact h0
theorem BoolsAt.cell {w:World}{a:Option Addr}{n c:Nat}{l:List Bool}{i:Nat}{x:Bool}(h:BoolsAt w (.slice a n c) l)(hx:l[i]?=some x):∃b off,a=some ⟨b,off,none⟩/\w.cell? ⟨b,off+i,none⟩=some (.bool x):=by
 obtain⟨a',c',e,h⟩:=h;injection e with e1 e2 e3;subst e1;rcases h with h|⟨b,off,rfl,hc⟩
 ·rw[h] at hx;simp at hx
 ·exact⟨b,off,rfl,hc i x hx⟩
def RowIs (r:List Int)(w:World)(e:Ending)(w':World):Prop:=∃v,e=.returned v/\w'.ownsRow w.heap.size 3 1 v r.length (intsV r)/\Below w.heap.size w w'
theorem zq7 (x:Int)(w:World):Calls Tryz.prog 120 #[.int .i64 x] w fun e w'=>e=.returned (.bool (decide (x=0)))/\w'=w:=by
 by_cases h:x=0
 ·subst h
  go_enter Tryz.func120,Tryz.ntmps120;go_wp2;go_ret;exact⟨rfl,rfl⟩
 ·have q:(x == 0)=false:=zaj h
  have hd:=Lib.hid (decide_eq_false h);go_enter Tryz.func120,Tryz.ntmps120;go_wp2;go_ret;exact⟨zaf hd.out.symm,rfl⟩
theorem zia (x:Bool)(w:World):Calls Tryz.prog 83 #[.bool x] w fun e w'=>e=.returned (.bool (!x))/\w'=w:=by
 go_enter Tryz.func83,Tryz.ntmps83;go_wp2;go_ret;exact⟨rfl,rfl⟩
theorem zo1 (n:PN)(ka:Option Addr)(kc FB:Nat)(v:Value)(L:List Fc)(w:World)(hK:IntsAt w (.slice ka n.kids.length kc) n.kids)(hF:FactsAt w v L)(h5:5<=n.op->∃k,n.kids=[k])(hc:w.cell? ⟨FB,0,none⟩=some v) :
  Calls Tryz.prog 47 #[.agg #[.int .i64 n.op,.slice ka n.kids.length kc,.int .i64 n.rule,.int .u64 n.s0,.int .u64 n.s1,.int .u64 n.s2,.int .u64 n.s3],.pointer (some ⟨FB,0,none⟩)] w fun e w'=>e=.returned (.bool (loopN L n))/\Below w.heap.size w w':=by
 have hone:=Lib.hid (zab w (.cells #[.int .i64 n.op,.slice ka n.kids.length kc,.int .i64 n.rule,.int .u64 n.s0,.int .u64 n.s1,.int .u64 n.s2,.int .u64 n.s3] 51));have HN:=Lib.hid (zm2 n ka kc v L _ (hK.kept hone.out (Nat.le_refl _)) (hF.below hone.out) h5);obtain⟨a,c,rfl⟩:=hF.slice;have hl:=zac hc;clear hK hF h5;go_enter Tryz.func47,Tryz.ntmps47
 go_wp2_with (go_at_call 48;(with_reducible refine HN.out.mono ?_);rintro e w2 ⟨rfl,hb⟩;have HB:=Lib.hid hb;clear hb)
 go_ret;exact⟨rfl,bl_on hone.out HB.out⟩
theorem zo2 (u:Value)(l:List Int)(w:World)(hl:l.length<=100000)(hu:IntsAt w u l) :
  Calls Tryz.prog 119 #[u,.func (.func 120) #[] #[]] w (RowIs (idxP (fun i=>decide (l[i]?=some 0)) l.length) w):=by
 obtain⟨ii,hii,hz0,hz1,hz2⟩:=info_parts za3;obtain⟨ua,uc,rfl,-⟩:=id hu;go_enter Tryz.func119,Tryz.ntmps119;go_wp2
 go_loopw [5,10] (fun s c wr=>∃k:Nat,k<=l.length/\c=.int .i64 (k:Int)/\wr.ownsRow w.heap.size 3 1 s (idxP (fun i=>decide (l[i]?=some 0)) k).length (intsV (idxP (fun i=>decide (l[i]?=some 0)) k))/\Below w.heap.size w wr) (fun _ c _=>l.length-(intOf c).toNat)
 case atStart=>exact⟨0,Nat.zero_le _,rfl,World.ownsRow_nil _ _ _ _,Below.refl _ _⟩
 case round=>
  obtain⟨k,hk,rfl,ho,hb⟩:=hrel;obtain⟨sa,sc,rfl⟩:=zad ho;have hlen:=zlg (fun i=>decide (l[i]?=some 0)) k;by_cases hlt:k<l.length
  ·have k1:(k:Int)<(l.length:Int):=by omega
   obtain⟨x,hx⟩:∃x,l[k]?=some x:=⟨_,List.getElem?_eq_getElem hlt⟩;obtain⟨b,off,rfl,c0⟩:=hu.cell hx;have hlb:=zac c0;rw[<-(bcell hb).1 _ _ hlb] at c0;have hlb':=zac c0;have HB:=Lib.hid hb;have HO:=Lib.hid ho;cases hd:decide (x=0) with
   |true=>
    have HC:=Lib.hid (zq7 x wr);rw[hd] at HC;have HI:=Lib.hid (zf3 (p:=fun i=>decide (l[i]?=some 0)) (k:=k) (by rw[hx];simpa using hd));clear hx ho hb;generalize hg:idxP (fun i=>decide (l[i]?=some 0)) k=r at *
    go_wp2_with (first
     |(go_at_call 120;(with_reducible refine HC.out.mono ?_);rintro e w2 ⟨rfl,hw⟩;obtain rfl:=hw.symm;clear hw)
     |(at_builtin;refine wpList_append_own _ rfl _ _ 29 rfl w.heap.size 3 ii _ 1 8 Tryz.underlying29 hii hz0 hz1 hz2 rfl (by decide) _ r.length _ rfl (zaa HO.out (zab _ _)) ⟨_,0,none⟩ 1 1 [.int .i64 (k:Int)] rfl rfl (Bl.news (Bl.new _ 3 _)) (by simp[Value.oneCell']) (by unfold maxLen;omega) (by omega) (by have:=HB.out.size;simp;omega) ?_;intro v5 w5 hown' hgrow _;have HO5:=Lib.hid hown';have HB5:=Lib.hid ((zar HB.out).grown hgrow (zar HB.out).size (fun g e=>(HO.out.lt g e).1));clear hown' hgrow))
    go_roundw
    case rel=>exact⟨k+1,by omega,by go_num,by rw[HI.out,List.length_append,zbb];exact HO5.out,HB5.out⟩
    case measure=>simp[intOf];omega
   |false=>
    have HC:=Lib.hid (zq7 x wr);rw[hd] at HC;have HI:=Lib.hid (zlf (p:=fun i=>decide (l[i]?=some 0)) (k:=k) (by rw[hx];simpa using hd));clear hx ho hb
    go_wp2_with (go_at_call 120;(with_reducible refine HC.out.mono ?_);rintro e w2 ⟨rfl,hw⟩;obtain rfl:=hw.symm;clear hw)
    go_roundw
    case rel=>exact⟨k+1,by omega,by go_num,by rw[HI.out];exact HO.out,HB.out⟩
    case measure=>simp[intOf];omega
  ·obtain rfl:k=l.length:=by omega
   have k1:¬(l.length:Int)<(l.length:Int):=by omega
   have HO:=Lib.hid ho;have HB:=Lib.hid hb;clear ho hb;go_wp2;go_ret;exact⟨_,rfl,HO.out,HB.out⟩
theorem zo3 (u:Value)(l:List Bool)(w:World)(hl:l.length<=100000)(hu:BoolsAt w u l) :
  Calls Tryz.prog 81 #[u,.func (.func 83) #[] #[]] w (RowIs (idxP (fun i=>decide (l[i]?=some false)) l.length) w):=by
 obtain⟨ii,hii,hz0,hz1,hz2⟩:=info_parts za3;obtain⟨ua,uc,rfl,-⟩:=id hu;go_enter Tryz.func81,Tryz.ntmps81;go_wp2
 go_loopw [5,10] (fun s c wr=>∃k:Nat,k<=l.length/\c=.int .i64 (k:Int)/\wr.ownsRow w.heap.size 3 1 s (idxP (fun i=>decide (l[i]?=some false)) k).length (intsV (idxP (fun i=>decide (l[i]?=some false)) k))/\Below w.heap.size w wr) (fun _ c _=>l.length-(intOf c).toNat)
 case atStart=>exact⟨0,Nat.zero_le _,rfl,World.ownsRow_nil _ _ _ _,Below.refl _ _⟩
 case round=>
  obtain⟨k,hk,rfl,ho,hb⟩:=hrel;obtain⟨sa,sc,rfl⟩:=zad ho;have hlen:=zlg (fun i=>decide (l[i]?=some false)) k;by_cases hlt:k<l.length
  ·have k1:(k:Int)<(l.length:Int):=by omega
   obtain⟨x,hx⟩:∃x,l[k]?=some x:=⟨_,List.getElem?_eq_getElem hlt⟩;obtain⟨b,off,rfl,c0⟩:=hu.cell hx;have hlb:=zac c0;rw[<-(bcell hb).1 _ _ hlb] at c0;have hlb':=zac c0;have HB:=Lib.hid hb;have HO:=Lib.hid ho;cases x with
   |false=>
    have HC:=Lib.hid (zia false wr);have HI:=Lib.hid (zf3 (p:=fun i=>decide (l[i]?=some false)) (k:=k) (by rw[hx];simp));clear hx ho hb;generalize hg:idxP (fun i=>decide (l[i]?=some false)) k=r at *
    go_wp2_with (first
     |(go_at_call 83;(with_reducible refine HC.out.mono ?_);rintro e w2 ⟨rfl,hw⟩;obtain rfl:=hw.symm;clear hw)
     |(at_builtin;refine wpList_append_own _ rfl _ _ 29 rfl w.heap.size 3 ii _ 1 8 Tryz.underlying29 hii hz0 hz1 hz2 rfl (by decide) _ r.length _ rfl (zaa HO.out (zab _ _)) ⟨_,0,none⟩ 1 1 [.int .i64 (k:Int)] rfl rfl (Bl.news (Bl.new _ 3 _)) (by simp[Value.oneCell']) (by unfold maxLen;omega) (by omega) (by have:=HB.out.size;simp;omega) ?_;intro v5 w5 hown' hgrow _;have HO5:=Lib.hid hown';have HB5:=Lib.hid ((zar HB.out).grown hgrow (zar HB.out).size (fun g e=>(HO.out.lt g e).1));clear hown' hgrow))
    go_roundw
    case rel=>exact⟨k+1,by omega,by go_num,by rw[HI.out,List.length_append,zbb];exact HO5.out,HB5.out⟩
    case measure=>simp[intOf];omega
   |true=>
    have HC:=Lib.hid (zia true wr);have HI:=Lib.hid (zlf (p:=fun i=>decide (l[i]?=some false)) (k:=k) (by rw[hx];simp));clear hx ho hb
    go_wp2_with (go_at_call 83;(with_reducible refine HC.out.mono ?_);rintro e w2 ⟨rfl,hw⟩;obtain rfl:=hw.symm;clear hw)
    go_roundw
    case rel=>exact⟨k+1,by omega,by go_num,by rw[HI.out];exact HO.out,HB.out⟩
    case measure=>simp[intOf];omega
  ·obtain rfl:k=l.length:=by omega
   have k1:¬(l.length:Int)<(l.length:Int):=by omega
   have HO:=Lib.hid ho;have HB:=Lib.hid hb;clear ho hb;go_wp2;go_ret;exact⟨_,rfl,HO.out,HB.out⟩
theorem zo4 (nv v:Value)(ns:List PN)(L:List Fc)(FB:Nat)(w:World)(hl:ns.length<=100000)(hN:NodesAt w nv ns)(hF:FactsAt w v L)(h5:∀n,n ∈ ns->5<=n.op->∃k,n.kids=[k])(hc:w.cell? ⟨FB,0,none⟩=some v) :
  Calls Tryz.prog 46 #[nv,.func (.func 47) #[] #[.pointer (some ⟨FB,0,none⟩)]] w (RowIs (idxP (loopW ns L) ns.length) w):=by
 obtain⟨ii,hii,hz0,hz1,hz2⟩:=info_parts za3;obtain⟨-,na,nc,rfl,hna⟩:=id hN;have HF:=Lib.hid (fun(W:World) (hb:Below w.heap.size w W) (n:PN) (hn:n ∈ ns) (ka:Option Addr) (kc:Nat) (hK:IntsAt W (.slice ka n.kids.length kc) n.kids)=>zo1 n ka kc FB v L W hK (hF.below hb) (h5 n hn) (by rw[(bcell hb).1 _ _ (zac hc)];exact hc));clear hF hc h5;go_enter Tryz.func46,Tryz.ntmps46;go_wp2
 go_loopw [5,10] (fun s c wr=>∃k:Nat,k<=ns.length/\c=.int .i64 (k:Int)/\wr.ownsRow w.heap.size 3 1 s (idxP (loopW ns L) k).length (intsV (idxP (loopW ns L) k))/\Below w.heap.size w wr) (fun _ c _=>ns.length-(intOf c).toNat)
 case atStart=>exact⟨0,Nat.zero_le _,rfl,World.ownsRow_nil _ _ _ _,Below.refl _ _⟩
 case round=>
  obtain⟨k,hk,rfl,ho,hb⟩:=hrel;obtain⟨sa,sc,rfl⟩:=zad ho;have hlen:=zlg (loopW ns L) k;by_cases hlt:k<ns.length
  ·have k1:(k:Int)<(ns.length:Int):=by omega
   obtain⟨n,hn⟩:∃n,ns[k]?=some n:=⟨_,List.getElem?_eq_getElem hlt⟩;rcases hna with h0|⟨nb,no,rfl,hca⟩
   ·rw[h0] at hlt;exact absurd hlt (Nat.not_lt_zero _)
   obtain⟨kv,c0,c1,c2,c3,c4,c5,c6,hki,-⟩:=hca k n hn;have lr:=zac c0;obtain⟨ka,kc,rfl,-⟩:=id hki;have hb1:=zar (o:=.cells #[.int .i64 n.op,.slice ka n.kids.length kc,.int .i64 n.rule,.int .u64 n.s0,.int .u64 n.s1,.int .u64 n.s2,.int .u64 n.s3] 51) hb;have HC:=Lib.hid (HF.out _ hb1 n (List.mem_of_getElem? hn) ka kc (hki.kept hb1 (Nat.le_refl _)));rw[<-(bcell hb).1 _ _ lr] at c0 c1 c2 c3 c4 c5 c6;have hl0:=zac c0;have HB:=Lib.hid hb1;have HO:=Lib.hid (zaa ho (zab wr (.cells #[.int .i64 n.op,.slice ka n.kids.length kc,.int .i64 n.rule,.int .u64 n.s0,.int .u64 n.s1,.int .u64 n.s2,.int .u64 n.s3] 51)));have hlw:=zlc (L:=L) hn;cases hd:loopN L n with
   |true=>
    rw[hd] at HC;have HI:=Lib.hid (zf3 (p:=loopW ns L) (k:=k) (hlw.trans hd));clear hn ho hb hca hb1 hki hlw hd;generalize hg:idxP (loopW ns L) k=r at *
    go_wp2_with (first
     |(go_at_call 47;(with_reducible refine HC.out.mono ?_);rintro e w2 ⟨rfl,hw⟩;have HB2:=Lib.hid (bl_on HB.out hw);have HO2:=Lib.hid (zaa HO.out hw);clear hw)
     |(at_builtin;refine wpList_append_own _ rfl _ _ 29 rfl w.heap.size 3 ii _ 1 8 Tryz.underlying29 hii hz0 hz1 hz2 rfl (by decide) _ r.length _ rfl (zaa HO2.out (zab _ _)) ⟨_,0,none⟩ 1 1 [.int .i64 (k:Int)] rfl rfl (Bl.news (Bl.new _ 3 _)) (by simp[Value.oneCell']) (by unfold maxLen;omega) (by omega) (by have:=HB2.out.size;simp;omega) ?_;intro v5 w5 hown' hgrow _;have HO5:=Lib.hid hown';have HB5:=Lib.hid ((zar HB2.out).grown hgrow (zar HB2.out).size (fun g e=>(HO2.out.lt g e).1));clear hown' hgrow))
    go_roundw
    case rel=>exact⟨k+1,by omega,by go_num,by rw[HI.out,List.length_append,zbb];exact HO5.out,HB5.out⟩
    case measure=>simp[intOf];omega
   |false=>
    rw[hd] at HC;have HI:=Lib.hid (zlf (p:=loopW ns L) (k:=k) (hlw.trans hd));clear hn ho hb hca hb1 hki hlw hd
    go_wp2_with (go_at_call 47;(with_reducible refine HC.out.mono ?_);rintro e w2 ⟨rfl,hw⟩;have HB2:=Lib.hid (bl_on HB.out hw);have HO2:=Lib.hid (zaa HO.out hw);clear hw)
    go_roundw
    case rel=>exact⟨k+1,by omega,by go_num,by rw[HI.out];exact HO2.out,HB2.out⟩
    case measure=>simp[intOf];omega
  ·obtain rfl:k=ns.length:=by omega
   have k1:¬(ns.length:Int)<(ns.length:Int):=by omega
   have HO:=Lib.hid ho;have HB:=Lib.hid hb;clear ho hb;go_wp2;go_ret;exact⟨_,rfl,HO.out,HB.out⟩
end Go.Proofs.YthhppmehhdlmnaaGreatDoor
