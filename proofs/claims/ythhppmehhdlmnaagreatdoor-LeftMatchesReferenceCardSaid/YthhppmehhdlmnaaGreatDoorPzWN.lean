/- The needs of nodes and their loops, by the least facts; a grammar with nodes more. No walk. wf: null, repeatsNothing, needs. wf: where, at its three types, with -/
import Derived.Deep.CutRange
import Derived.Test.YthhppmehhdlmnaaGreatDoorPzFM
import Derived.Test.YthhppmehhdlmnaaGreatDoorPzFS
set_option maxRecDepth 100000
set_option maxHeartbeats 4000000
namespace Go.Proofs.YthhppmehhdlmnaaGreatDoor
def seqNd (L:List Fc):List Int->List Int
 | []=>[]
 |k::r=>k::(if (atF L k).nul then seqNd L r else [])
def needN (rs:List PR)(L:List Fc)(n:PN):List Int:=if n.op=2 then [rootF rs n.rule] else if n.op=3 then seqNd L n.kids else n.kids
def loopN (L:List Fc)(n:PN):Bool:=decide (n.op=5∨n.op=6)&&(atF L (n.kids.headD (-1))).nul
def needW (rs:List PR)(ns:List PN)(L:List Fc)(i:Nat):List Nat:=match ns[i]? with
 |some n=>(needN rs L n).map Int.toNat
 |none=>[]
def loopW (ns:List PN)(L:List Fc)(i:Nat):Bool:=match ns[i]? with
 |some n=>loopN L n
 |none=>false
theorem zc8 {rs:List PR}{ns:List PN}{L:List Fc}{i:Nat}{n:PN}(h:ns[i]?=some n):needW rs ns L i=(needN rs L n).map Int.toNat:=by unfold needW;rw[h]
theorem zh9 (L:List Fc):∀(ks:List Int) (k:Int),k ∈ seqNd L ks->k ∈ ks
 | [],_,h=>by cases h
 |x::r,k,h=>by
  unfold seqNd at h;rcases List.mem_cons.1 h with rfl|h
  ·exact List.mem_cons_self ..
  ·split at h
   ·exact List.mem_cons_of_mem _ (zh9 L r k h)
   ·cases h
theorem zhj {rs:List PR}{L:List Fc}{n:PN}{N:Nat}(h:NodeIn rs N n){k:Int}(hk:k ∈ needN rs L n):0<=k/\k<(N:Int):=by
 unfold needN at hk;split at hk
 ·rename_i h2
  obtain⟨r,x,e,hx,h1,h3⟩:=h.root h2;obtain rfl:=List.mem_singleton.1 hk;rw[e,zcn hx];exact⟨h1,h3⟩
 ·split at hk
  ·exact h.kid k (zh9 _ _ _ hk)
  ·exact h.kid k hk
open Go.RowKit
theorem zm1 (v:Value)(l:List Fc)(i:Int)(w:World)(h:FactsAt w v l) :
  Calls Tryz.prog 79 #[v,.int .i64 i] w fun e w'=>e=.returned (.bool (atF l i).nul)/\w'=w:=by
 obtain⟨a,c,rfl⟩:=h.slice;by_cases h0:i<0
 ·rw[zfi h0]
  have k0:¬(0:Int)<=i:=by omega
  go_enter Tryz.func79,Tryz.ntmps79;go_wp2;go_ret;exact⟨rfl,rfl⟩
 ·have k0:(0:Int)<=i:=by omega
  by_cases h1:(l.length:Int)<=i
  ·rw[zor h1]
   have k1:¬i<(l.length:Int):=by omega
   go_enter Tryz.func79,Tryz.ntmps79;go_wp2;go_ret;exact⟨rfl,rfl⟩
  ·obtain⟨k,rfl⟩:∃k:Nat,i=k:=⟨i.toNat,by omega⟩
   have hk:k<l.length:=by omega
   obtain⟨f,hf⟩:∃f,l[k]?=some f:=⟨_,List.getElem?_eq_getElem hk⟩;rw[za6 hf];obtain⟨b,off,rfl,c0,-,-⟩:=h.at hf;have hlt:=zac c0;have k1:(k:Int)<(l.length:Int):=by omega
   clear h hf;go_enter Tryz.func79,Tryz.ntmps79;go_wp2;go_ret;exact⟨rfl,rfl⟩
theorem IntsAt.cell {w:World}{a:Option Addr}{n c:Nat}{l:List Int}{i:Nat}{x:Int}(h:IntsAt w (.slice a n c) l)(hx:l[i]?=some x):∃b off,a=some ⟨b,off,none⟩/\w.cell? ⟨b,off+i,none⟩=some (.int .i64 x):=by
 obtain⟨a',c',e,h⟩:=h;injection e with e1 e2 e3;subst e1;rcases h with h|⟨b,off,rfl,hc⟩
 ·rw[h] at hx;simp at hx
 ·exact⟨b,off,rfl,hc i x hx⟩
theorem zm3 (L:List Fc):∀(ks:List Int),(∀k,k ∈ ks->(atF L k).nul=true)->seqNd L ks=ks
 | [],_=>rfl
 |x::r,h=>by
  unfold seqNd;rw[h x (List.mem_cons_self ..),if_pos rfl,zm3 L r fun k hk=>h k (List.mem_cons_of_mem _ hk)]
theorem zm4 (L:List Fc):∀(ks:List Int) (m:Nat) (x:Int),(∀k,k ∈ ks.take m->(atF L k).nul=true)->ks[m]?=some x->(atF L x).nul=false->seqNd L ks=ks.take (m+1)
 | [],m,x,_,h,_=>by simp at h
 |y::r,0,x,_,h,hx=>by
  obtain rfl:y=x:=by simpa using h
  unfold seqNd;rw[hx];rfl
 |y::r,m+1,x,hy,h,hx=>by
  unfold seqNd;rw[hy y (by simp),if_pos rfl,zm4 L r m x (fun k hk=>hy k (by rw[List.take_succ_cons];exact List.mem_cons_of_mem _ hk)) (by simpa using h) hx,List.take_succ_cons]
theorem IntsAt.take {w:World}{a:Option Addr}{n c m:Nat}{l:List Int}(h:IntsAt w (.slice a n c) l)(hm:m<=l.length):IntsAt w (.slice a m c) (l.take m):=by
 obtain⟨a',c',e,h⟩:=h;injection e with e1 e2 e3;subst e1 e3;refine⟨a,c,by rw[List.length_take,Nat.min_eq_left hm],?_⟩;rcases h with h|⟨b,off,rfl,hc⟩
 ·left;rw[h];simp
 ·refine .inr ⟨b,off,rfl,fun i x hx=>hc i x ?_⟩
  rw[List.getElem?_take] at hx;split at hx
  ·exact hx
  ·cases hx
def NeedsIs (rs:List PR)(L:List Fc)(n:PN)(ka:Option Addr)(kc:Nat)(w:World)(e:Ending)(w':World):Prop:=∃a c,e=.returned (.slice a (needN rs L n).length c)/\IntsAt w' (.slice a (needN rs L n).length c) (needN rs L n)/\Below w.heap.size w w' /\
 ((a=ka/\c=kc/\needN rs L n=n.kids.take (needN rs L n).length)∨∃X x,a=some ⟨X,0,none⟩/\c=1/\needN rs L n=[x]/\w.heap.size<=X)
theorem NeedsIs.kids {rs:List PR}{L:List Fc}{n:PN}{w w':World}{l:List Int}{a:Option Addr}{m c:Nat}(h:needN rs L n=l)(hi:IntsAt w' (.slice a m c) l)(ht:l=n.kids.take m)(hb:Below w.heap.size w w'):NeedsIs rs L n a c w (.returned (.slice a m c)) w':=by
 subst h;obtain⟨a',c',e,h2⟩:=id hi;injection e with e1 e2 e3;subst e2;exact⟨a,c,rfl,hi,hb,.inl ⟨rfl,rfl,ht⟩⟩
theorem NeedsIs.one {rs:List PR}{L:List Fc}{n:PN}{w w':World}{x:Int}{X:Nat}{ka:Option Addr}{kc:Nat}(h:needN rs L n=[x])(hi:IntsAt w' (.slice (some ⟨X,0,none⟩) 1 1) [x])(hX:w.heap.size<=X)(hb:Below w.heap.size w w'):NeedsIs rs L n ka kc w (.returned (.slice (some ⟨X,0,none⟩) 1 1)) w':=by
 unfold NeedsIs;rw[h];exact⟨_,_,rfl,hi,hb,.inr ⟨X,x,rfl,rfl,rfl,hX⟩⟩
theorem zjm (rv nv v:Value)(rs:List PR)(N:Nat)(L:List Fc)(n:PN)(ka:Option Addr)(kc:Nat)(w:World)(hR:RulesIn w rv rs)(hK:IntsAt w (.slice ka n.kids.length kc) n.kids)(hc:n.kids.length<=kc)(hl:n.kids.length<=1000000)(hF:n.op=3->FactsAt w v L)(hI:NodeIn rs N n) :
  Calls Tryz.prog 61 #[.agg #[rv,nv],.agg #[.int .i64 n.op,.slice ka n.kids.length kc,.int .i64 n.rule,.int .u64 n.s0,.int .u64 n.s1,.int .u64 n.s2,.int .u64 n.s3],v] w (NeedsIs rs L n ka kc w):=by
 have htwo:=Lib.hid (zat w (.cells #[rv,nv] 25) (.cells #[.int .i64 n.op,.slice ka n.kids.length kc,.int .i64 n.rule,.int .u64 n.s0,.int .u64 n.s1,.int .u64 n.s2,.int .u64 n.s3] 51));by_cases e2:n.op=2
 ·obtain⟨r,x,hr,hx,h0,h1⟩:=hI.root e2
  have hres:=Lib.hid (show needN rs L n=[x.root] by unfold needN;rw[if_pos e2,hr,zcn hx]);obtain⟨-,ra,rc,rfl,hra⟩:=hR;have hrl:=(List.getElem?_eq_some_iff.1 hx).1;rcases hra with h|⟨rb,ro,rfl,hca⟩
  ·rw[h] at hrl;exact absurd hrl (Nat.not_lt_zero _)
  obtain⟨r0,r1⟩:=hca r x hx;have lr:=zac r0;have k0:¬(r:Int)<0:=by omega
  have k1:¬(rs.length:Int)<=(r:Int):=by omega
  have k2:(r:Int)<(rs.length:Int):=by omega
  rw[e2,hr] at htwo ⊢;clear hI hca hF hK hx hr h0 h1;go_enter Tryz.func61,Tryz.ntmps61;go_wp2;go_ret;refine NeedsIs.one hres.out ⟨some ⟨w.heap.size+2,0,none⟩,1,rfl,.inr ⟨_,0,rfl,fun i y hy=>?_⟩⟩ (by omega) (zar htwo.out);cases i with
  |zero=>
       obtain rfl:x.root=y:=by simpa using hy
       exact Bl.cell (o:=0) (Bl.new' (by simp)) rfl
  |succ i=>simp at hy
 ·have q2:(n.op == 2)=false:=zaj e2
  by_cases e3:n.op=3
  ·have hF:=hF e3
   have hN:=Lib.hid (show needN rs L n=seqNd L n.kids by unfold needN;rw[if_neg e2,if_pos e3]);have HN:=Lib.hid (fun(x:Int)=>zm1 v L x _ (hF.below htwo.out));have HK:=Lib.hid (hK.kept htwo.out (Nat.le_refl _));have HB:=Lib.hid htwo.out;have hz0:∃a l c,v=.slice a l c:=by obtain⟨a,c,e⟩:=hF.slice;exact⟨a,_,c,e⟩
   rw[e3] at htwo HN HK HB ⊢;clear hI hF q2 htwo;go_enter Tryz.func61,Tryz.ntmps61;go_wp2
   go_loopw [37] (fun d wr=>∃k:Nat,k<=n.kids.length/\d=.int .i64 (k:Int)/\wr=(w.alloc (.cells #[rv,nv] 25)).alloc (.cells #[.int .i64 3,.slice ka n.kids.length kc,.int .i64 n.rule,.int .u64 n.s0,.int .u64 n.s1,.int .u64 n.s2,.int .u64 n.s3] 51)/\∀y,y ∈ n.kids.take k->(atF L y).nul=true) (fun d _=>n.kids.length-(intOf d).toNat)
   case atStart=>exact⟨0,Nat.zero_le _,by first|rfl|trivial,by first|rfl|trivial,by simp⟩
   case round=>
    obtain⟨k,hk,rfl,rfl,hall⟩:=hrel;have HA:=Lib.hid hall;clear hall;by_cases hlt:k<n.kids.length
    ·have k1:(k:Int)<(n.kids.length:Int):=by omega
     have k2:(k:Int)+1<=(kc:Int):=by omega
     obtain⟨x,hx⟩:∃x,n.kids[k]?=some x:=⟨_,List.getElem?_eq_getElem hlt⟩;obtain⟨b,off,rfl,c0⟩:=hK.cell hx;have hlb:=zac c0;have HX:=Lib.hid hx;have HNX:=Lib.hid (HN.out x);clear hx;cases hb:(atF L x).nul with
     |true=>
      rw[hb] at HNX
      go_wp2_with (go_at_call 79;(with_reducible refine HNX.out.mono ?_);rintro e w2 ⟨rfl,hw⟩;obtain rfl:=hw.symm;clear hw)
      go_roundw
      case rel=>
       refine⟨k+1,by omega,by go_num,by first|rfl|trivial,fun y hy=>?_⟩;rw[List.take_add_one,HX.out,List.mem_append] at hy;rcases hy with hy|hy
       ·exact HA.out y hy
       ·obtain rfl:y=x:=by simpa using hy
        exact hb
      case measure=>simp[intOf];omega
     |false=>
      rw[hb] at HNX
      go_wp2_with (go_at_call 79;(with_reducible refine HNX.out.mono ?_);rintro e w2 ⟨rfl,hw⟩;obtain rfl:=hw.symm;clear hw)
      go_ret;have e1:=zm4 L n.kids k x HA.out HX.out hb;exact NeedsIs.kids (hN.out.trans e1) (HK.out.take hlt) rfl HB.out
    ·obtain rfl:k=n.kids.length:=by omega
     have k1:¬(n.kids.length:Int)<(n.kids.length:Int):=by omega
     go_wp2;go_ret;rw[List.take_length] at HA;exact NeedsIs.kids (hN.out.trans (zm3 L _ HA.out)) HK.out (List.take_length ..).symm HB.out
  ·have q3:(n.op == 3)=false:=zaj e3
   have hres:=Lib.hid (show needN rs L n=n.kids by unfold needN;rw[if_neg e2,if_neg e3]);have HK:=Lib.hid (hK.kept htwo.out (Nat.le_refl _));clear hI hF hK;go_enter Tryz.func61,Tryz.ntmps61;go_wp2;go_ret;exact NeedsIs.kids hres.out HK.out (List.take_length ..).symm htwo.out
def BoolsAt (w:World)(v:Value)(l:List Bool):Prop:=∃a cap,v=.slice a l.length cap/\(l=[]∨∃b off,a=some ⟨b,off,none⟩/\∀i x,l[i]?=some x->w.cell? ⟨b,off+i,none⟩=some (.bool x))
theorem BoolsAt.kept {n:Nat}{w w':World}{v:Value}{l:List Bool}(h:BoolsAt w v l)(hb:Below n w w')(hn:w.heap.size<=n):BoolsAt w' v l:=by
 obtain⟨a,cap,rfl,h⟩:=h;refine⟨a,cap,rfl,?_⟩;rcases h with h|⟨b,off,rfl,hc⟩
 ·exact .inl h
 ·refine .inr ⟨b,off,rfl,fun i x hx=>?_⟩
  have h0:=hc i x hx;have hl:=zac h0;rw[(bcell hb).1 b _ (by omega)];exact h0
theorem BoolsAt.cell {w:World}{a:Option Addr}{n c:Nat}{l:List Bool}{i:Nat}{x:Bool}(h:BoolsAt w (.slice a n c) l)(hx:l[i]?=some x):∃b off,a=some ⟨b,off,none⟩/\w.cell? ⟨b,off+i,none⟩=some (.bool x):=by
 obtain⟨a',c',e,h⟩:=h;injection e with e1 e2 e3;subst e1;rcases h with h|⟨b,off,rfl,hc⟩
 ·rw[h] at hx;simp at hx
 ·exact⟨b,off,rfl,hc i x hx⟩
def RowIs (r:List Int)(w:World)(e:Ending)(w':World):Prop:=∃v,e=.returned v/\w'.ownsRow w.heap.size 3 1 v r.length (intsV r)/\Below w.heap.size w w'
end Go.Proofs.YthhppmehhdlmnaaGreatDoor
