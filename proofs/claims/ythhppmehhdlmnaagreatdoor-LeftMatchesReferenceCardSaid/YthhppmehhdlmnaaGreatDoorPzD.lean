/- '==' between two sets and between two rules, as operations of a walk. No walk. Grammars in memory; comparison of slices of numbers, of rules, of nodes; gram.Sam -/
import Derived.ChangeKeysEq
import Derived.Laws.StructEq
import Derived.OwnWalkIn
import Derived.TacticsInMore
import Derived.BigQuiet
import Derived.Deep.QuietTactic
import Derived.Maps.AppendAt
import Derived.Laws.AppendOwnNone
import Derived.Lib.OwnKind
import Derived.Deep.AppendSrc
import Derived.Deep.RegionWith
import Derived.Deep.RegionLaw
import Derived.Deep.AppendLies
import Derived.Deep.Cut
import Derived.Test.YthhppmehhdlmnaaGreatDoorPzA
import Derived.Test.YthhppmehhdlmnaaGreatDoorPzB
set_option maxRecDepth 100000
set_option maxHeartbeats 1000000
namespace Go.Proofs.YthhppmehhdlmnaaGreatDoor
open Go.RowKit
theorem zk1 (k:Nat)(a b:Int)(w:World):(Op.equalIn (k+1) 47 (.int .u64 a) (.int .u64 b)).run Tryz.prog w=.ok (a == b) w:=run_equalIn_int (P:=Tryz.prog) w k 47 .u64 .u64 a b Tryz.underlying47
theorem gpt0 (x y z u:Value)(w:World):(Go.part 47 #[x,y,z,u] 0).run Tryz.prog w=.ok x w:=by kernel_rfl
theorem gpt1 (x y z u:Value)(w:World):(Go.part 47 #[x,y,z,u] 1).run Tryz.prog w=.ok y w:=by kernel_rfl
theorem gpt2 (x y z u:Value)(w:World):(Go.part 47 #[x,y,z,u] 2).run Tryz.prog w=.ok z w:=by kernel_rfl
theorem gpt3 (x y z u:Value)(w:World):(Go.part 47 #[x,y,z,u] 3).run Tryz.prog w=.ok u w:=by kernel_rfl
theorem zst:Tryz.prog.cellsOf 47=1:=by kernel_rfl
theorem zzx:Tryz.prog.underlying 49=some (.array 4 47):=by kernel_rfl
theorem zu4:∃i,Tryz.prog.info? 47=some i:=Option.isSome_iff_exists.1 (by kernel_rfl)
theorem zu5 (k:Nat)(a b c d x y z u:Int)(w:World) :
  (Op.equalIn (k+2) 49 (.agg #[.int .u64 a,.int .u64 b,.int .u64 c,.int .u64 d]) (.agg #[.int .u64 x,.int .u64 y,.int .u64 z,.int .u64 u])).run Tryz.prog w=.ok (a == x&&(b == y&&(c == z&&d == u))) w:=by
 obtain⟨i,hi⟩:=zu4;rw[run_equalIn_array w (k+1) _ _ zzx hi,show List.range 4=[0,1,2,3] from rfl];have e1:=zk1 k a x;have e2:=zk1 k b y;have e3:=zk1 k c z;have e4:=zk1 k d u;generalize (a == x)=r1 at *;generalize (b == y)=r2 at *;generalize (c == z)=r3 at *;generalize (d == u)=r4 at *;cases r1<;>cases r2<;>cases r3<;>cases r4<;>simp[Op.eqItems,zst,gpt0,gpt1,gpt2,gpt3,e1,e2,e3,e4]
theorem zzy (a b c d x y z u:Int)(w:World) :
  (binOp .eql 49 (.agg #[.int .u64 a,.int .u64 b,.int .u64 c,.int .u64 d]) (.agg #[.int .u64 x,.int .u64 y,.int .u64 z,.int .u64 u])).run Tryz.prog w=.ok (.bool (a == x&&(b == y&&(c == z&&d == u)))) w:=by
 have h:(Op.equal 49 (.agg #[.int .u64 a,.int .u64 b,.int .u64 c,.int .u64 d]) (.agg #[.int .u64 x,.int .u64 y,.int .u64 z,.int .u64 u])).run Tryz.prog w=_:=zu5 9998 a b c d x y z u w;simp[binOp,h]
theorem zzz (a b c d x y z u:Int)(w:World) :
  (binOp .neq 49 (.agg #[.int .u64 a,.int .u64 b,.int .u64 c,.int .u64 d]) (.agg #[.int .u64 x,.int .u64 y,.int .u64 z,.int .u64 u])).run Tryz.prog w=.ok (.bool (!(a == x&&(b == y&&(c == z&&d == u))))) w:=by
 have h:(Op.equal 49 (.agg #[.int .u64 a,.int .u64 b,.int .u64 c,.int .u64 d]) (.agg #[.int .u64 x,.int .u64 y,.int .u64 z,.int .u64 u])).run Tryz.prog w=_:=zu5 9998 a b c d x y z u w;simp[binOp,h]
theorem za4:Tryz.prog.eqGuardType Tryz.prog.depth 49=false:=by kernel_rfl
theorem zmo {o:Oper}{a:Act}{w:World}(op:BinOp)(t u:TypeId)(x y:Operand)(ho:o.op=.binOp op t x y u)(xs ys:Array Value)(hx:a.eval x=.agg xs)(hy:a.eval y=.agg ys)
  (hm:Tryz.prog.eqGuardType Tryz.prog.depth t=false) (v:Value) (hv:(binOp op t (.agg xs) (.agg ys)).run Tryz.prog w=.ok v w):(execOp a.eval o).run Tryz.prog w=.ok (.value v) w:=by
 have hg:=run_eqGuard_agg w op t x y xs ys hm;unfold execOp;rw[ho];show((eqGuard op t x y (a.eval x) (a.eval y) >>= fun _=>binOp op t (a.eval x) (a.eval y)) >>= fun s=>pure (Next.value s)).run Tryz.prog w=_;rw[hx,hy,Sem.run_bind,Sem.run_bind,hg,Result.andThen_ok,hv,Result.andThen_ok];rfl
theorem zah {ops:Array Oper}{rest:List Oper}{o:Oper}{a:Act}{w:World}{Q:Exit->Act->World->Prop}(op:BinOp)(t u:TypeId)(x y:Operand)(ho:o.op=.binOp op t x y u)
  (hw:Region.wanted o (yielded ops a.tmps)=true) (xs ys:Array Value) (hx:a.eval x=.agg xs) (hy:a.eval y=.agg ys)
  (hm:Tryz.prog.eqGuardType Tryz.prog.depth t=false) (v:Value) (hv:(binOp op t (.agg xs) (.agg ys)).run Tryz.prog w=.ok v w) (h:wpList Tryz.prog ops Q rest (a.put o.dst v) w):wpList Tryz.prog ops Q (o::rest) a w:=
 wpList_step fun K hK=>by
  rw[if_pos hw];show o.upon Tryz.prog a K Q ((execOp a.eval o).run Tryz.prog w);rw[zmo op t u x y ho xs ys hx hy hm v hv];exact hK _ _ h
theorem zc4 {ops:Array Oper}{C:World->Prop}{Q:Act->Prop}{rest:List Oper}{o:Oper}{a:Act}(op:BinOp)(t u:TypeId)(x y:Operand)(ho:o.op=.binOp op t x y u)
  (hw:Region.wanted o (yielded ops a.tmps)=true) (xs ys:Array Value) (hx:a.eval x=.agg xs) (hy:a.eval y=.agg ys)
  (hm:Tryz.prog.eqGuardType Tryz.prog.depth t=false) (v:Value) (hv:∀w,(binOp op t (.agg xs) (.agg ys)).run Tryz.prog w=.ok v w) (h:wpQuiet Tryz.prog ops C Q rest (a.put o.dst v)):wpQuiet Tryz.prog ops C Q (o::rest) a:=
 wpQuiet_step fun K hK=>by
  rw[if_pos hw];refine⟨v,fun w _=>?_,hK _ h⟩;show Oper.quietUpon Tryz.prog C w v ((execOp a.eval o).run Tryz.prog w);rw[zmo op t u x y ho xs ys hx hy hm v (hv w)];exact⟨rfl,rfl⟩
def intsV (l:List Int):List Value:=l.map fun k=>Value.int .i64 k
def IntsAt (w:World)(v:Value)(l:List Int):Prop:=∃a cap,v=.slice a l.length cap/\(l=[]∨∃b off,a=some ⟨b,off,none⟩/\∀i x,l[i]?=some x->w.cell? ⟨b,off+i,none⟩=some (.int .i64 x))
theorem decN {p:Prop}[Decidable p](h:¬p):Hid (decide p=false):=Lib.hid (decide_eq_false h)
theorem decY {p:Prop}[Decidable p](h:p):Hid (decide p=true):=Lib.hid (decide_eq_true h)
theorem zjc (u v:Value)(l m:List Int)(w:World)(hl:l.length<=maxLen)(hu:IntsAt w u l)(hv:IntsAt w v m) :
  Calls Tryz.prog 10 #[u,v] w fun e w'=>e=.returned (.bool (decide (l=m)))/\∃q,w'=w.drewN q:=by
 unfold maxLen at hl;obtain⟨a,ca,rfl,ha⟩:=hu;obtain⟨b,cb,rfl,hb⟩:=hv;by_cases hlen:l.length=m.length
 ·have q1:((l.length:Int) != (m.length:Int))=false:=by rw[hlen];simp
  go_enter Tryz.func10,Tryz.ntmps10;go_wp2
  go_loopw [13] (fun c wr=>∃(k q:Nat),k<=l.length/\c=.int .i64 k/\wr=w.drewN q/\l.take k=m.take k) (fun c _=>l.length-(intOf c).toNat)
  case atStart=>exact⟨0,0,Nat.zero_le _,rfl,rfl,rfl⟩
  case round=>
   obtain⟨k,q,hk,rfl,rfl,hq⟩:=hrel;have HQ:=Lib.hid hq;clear hq;by_cases hlt:k<l.length
   ·obtain⟨x,hx⟩:∃x,l[k]?=some x:=⟨_,List.getElem?_eq_getElem hlt⟩
    obtain⟨y,hy⟩:∃y,m[k]?=some y:=⟨_,List.getElem?_eq_getElem (by omega)⟩;rcases ha with h0|⟨ab,ao,rfl,hca⟩
    ·rw[h0] at hlt;exact absurd hlt (Nat.not_lt_zero _)
    rcases hb with h0|⟨bb,bo,rfl,hcb⟩
    ·rw[hlen,h0] at hlt;exact absurd hlt (Nat.not_lt_zero _)
    have c1:=hca k x hx;have c2:=hcb k y hy;have hlm:k<m.length:=by omega
    have k1:(k:Int)<(l.length:Int):=by omega
    have k2:(k:Int)<(m.length:Int):=by omega
    have HX:=Lib.hid hx;have HY:=Lib.hid hy;have HL:=Lib.hid hlen;clear hca hcb hx hy hlen;by_cases hxy:x=y
    ·subst hxy
     have q2:(x != x)=false:=by simp
     go_wp2;go_quiet (fail);go_wp2;go_roundw
     case rel=>exact⟨k+1,_,by omega,by go_num,rfl,by rw[zap l k x HX.out,zap m k x HY.out,HQ.out]⟩
     case measure=>simp[intOf];omega
    ·have q2:(x != y)=true:=zbx hxy
     have HN:Hid (decide (l=m)=false):=decN fun e=>by
      have h1:=HX.out;rw[e,HY.out] at h1;exact hxy (Option.some.inj h1).symm
     go_wp2;go_quiet (fail);go_wp2;go_ret;exact⟨zaf HN.out.symm,_,World.drewN_drewN _ _ _⟩
   ·have HN:Hid (decide (l=m)=true):=decY (by
     have hk':k=l.length:=by omega
     have h1:=HQ.out;rw[List.take_of_length_le (by omega),List.take_of_length_le (by omega)] at h1;exact h1)
    have k1:¬(k:Int)<(l.length:Int):=by omega
    go_wp2;go_ret;exact⟨zaf HN.out.symm,_,rfl⟩
 ·have q1:((l.length:Int) != (m.length:Int))=true:=zbx (by omega)
  have HN:Hid (decide (l=m)=false):=decN fun e=>hlen (by rw[e])
  go_enter Tryz.func10,Tryz.ntmps10;go_wp2;go_ret;exact⟨zaf HN.out.symm,0,rfl⟩
theorem IntsAt.kept {n:Nat}{w w':World}{v:Value}{l:List Int}(h:IntsAt w v l)(hb:Below n w w')(hn:w.heap.size<=n):IntsAt w' v l:=by
 obtain⟨a,cap,rfl,h⟩:=h;rcases h with h|⟨b,off,rfl,hc⟩
 ·exact⟨a,cap,rfl,.inl h⟩
 ·exact⟨_,cap,rfl,.inr ⟨b,off,rfl,fun i c hi=>by have:=zac (hc i c hi);rw[(bcell hb).1 _ _ (by omega)];exact hc i c hi⟩⟩
def NodeAt (w:World)(b o:Nat)(n:PN):Prop:=∃kv,w.cell? ⟨b,o,none⟩=some (.int .i64 n.op)/\w.cell? ⟨b,o+1,none⟩=some kv/\w.cell? ⟨b,o+2,none⟩=some (.int .i64 n.rule)/\w.cell? ⟨b,o+3,none⟩=some (.int .u64 n.s0)/\w.cell? ⟨b,o+4,none⟩=some (.int .u64 n.s1)/\w.cell? ⟨b,o+5,none⟩=some (.int .u64 n.s2)/\w.cell? ⟨b,o+6,none⟩=some (.int .u64 n.s3)/\IntsAt w kv n.kids/\n.kids.length<=maxLen
def RuleAt (w:World)(b o:Nat)(r:PR):Prop:=w.cell? ⟨b,o,none⟩=some (.string r.name)/\w.cell? ⟨b,o+1,none⟩=some (.int .i64 r.root)
def NodesAt (w:World)(v:Value)(ns:List PN):Prop:=ns.length<=maxLen/\∃a cap,v=.slice a ns.length cap/\(ns=[]∨∃b off,a=some ⟨b,off,none⟩/\∀i n,ns[i]?=some n->NodeAt w b (off+i*7) n)
def RulesIn (w:World)(v:Value)(rs:List PR):Prop:=rs.length<=maxLen/\∃a cap,v=.slice a rs.length cap/\(rs=[]∨∃b off,a=some ⟨b,off,none⟩/\∀i r,rs[i]?=some r->RuleAt w b (off+i*2) r)
theorem NodeAt.kept {k:Nat}{w w':World}{b o:Nat}{n:PN}(h:NodeAt w b o n)(hb:Below k w w')(hk:w.heap.size<=k):NodeAt w' b o n:=by
 obtain⟨kv,h0,h1,h2,h3,h4,h5,h6,h7,h8⟩:=h;have hl:=zac h0;have hc:=fun o=>(bcell hb).1 b o (by omega)
 exact⟨kv,by rw[hc];exact h0,by rw[hc];exact h1,by rw[hc];exact h2,by rw[hc];exact h3,by rw[hc];exact h4,by rw[hc];exact h5,by rw[hc];exact h6,h7.kept hb hk,h8⟩
theorem RuleAt.kept {k:Nat}{w w':World}{b o:Nat}{r:PR}(h:RuleAt w b o r)(hb:Below k w w')(hk:w.heap.size<=k):RuleAt w' b o r:=by
 obtain⟨h0,h1⟩:=h;have hl:=zac h0;have hc:=fun o=>(bcell hb).1 b o (by omega)
 exact⟨by rw[hc];exact h0,by rw[hc];exact h1⟩
theorem NodesAt.kept {k:Nat}{w w':World}{v:Value}{ns:List PN}(h:NodesAt w v ns)(hb:Below k w w')(hk:w.heap.size<=k):NodesAt w' v ns:=by
 obtain⟨hl,a,cap,rfl,h⟩:=h;rcases h with h|⟨b,off,rfl,hc⟩
 ·exact⟨hl,a,cap,rfl,.inl h⟩
 ·exact⟨hl,_,cap,rfl,.inr ⟨b,off,rfl,fun i c hi=>(hc i c hi).kept hb hk⟩⟩
theorem RulesIn.kept {k:Nat}{w w':World}{v:Value}{rs:List PR}(h:RulesIn w v rs)(hb:Below k w w')(hk:w.heap.size<=k):RulesIn w' v rs:=by
 obtain⟨hl,a,cap,rfl,h⟩:=h;rcases h with h|⟨b,off,rfl,hc⟩
 ·exact⟨hl,a,cap,rfl,.inl h⟩
 ·exact⟨hl,_,cap,rfl,.inr ⟨b,off,rfl,fun i c hi=>(hc i c hi).kept hb hk⟩⟩
theorem z4r {s t:ByteArray}:(s.toList == t.toList)=decide (s=t):=by
 by_cases h:s=t
 ·subst h;simp
 ·rw[decide_eq_false h,beq_eq_false_iff_ne]
  intro e;rw[ByteArray.toList_eq,ByteArray.toList_eq] at e;exact h (ByteArray.ext (Array.ext' e))
theorem zab (w:World)(o:Obj):Below w.heap.size w (w.alloc o):=(Below.refl _ _).alloc (Nat.le_refl _) _
theorem za3:(Tryz.prog.info? 3).map (fun i=>(i.zero,i.size,i.bytes))=some (some (.int .i64 0),1,8):=by kernel_rfl
theorem zat (w:World)(o o':Obj):Below w.heap.size w ((w.alloc o).alloc o'):=((Below.refl _ _).alloc (Nat.le_refl _) _).alloc (by simp) _
end Go.Proofs.YthhppmehhdlmnaaGreatDoor
namespace Go.Proofs.YthhppmehhdlmnaaGreatDoor
section
open Go.RowKit
theorem zh3 {P:Program}(w:World)(t ty e:TypeId)(i:TypeInfo)(ht:P.underlying t=some (.slice e))(hi:P.info? e=some i)(c:Nat):(Builtin.append_ #[t,t] ty #[.slice none 0 0,.slice none 0 c]).run P w=.ok (.slice none 0 0) w:=by
 simp[Builtin.append_,run_underlying ht,sizeOf,typeInfo,hi,Builtin.lenOf,Builtin.firstCells]
theorem zh4 {P:Program}(w:World)(t ty e:TypeId)(i:TypeInfo)(ht:P.underlying t=some (.slice e))(hi:P.info? e=some i)(a:Option Addr)(c:Nat):(Builtin.append_ #[t,t] ty #[.slice none 0 0,.slice a 0 c]).run P w=.ok (.slice none 0 0) w:=by
 cases a with
 |none=>exact zh3 w t ty e i ht hi c
 |some a=>
  have h:=run_firstCells_some (P:=P) w i.size 0 a 0 c [] (by simp) (fun j u h=>by simp at h);simp[Builtin.append_,run_underlying ht,sizeOf,typeInfo,hi,Builtin.lenOf,h]
theorem zd6 {P:Program}(w:World)(base:Nat)(t ty e:TypeId)(i:TypeInfo)(z:Value)(size bytes:Nat)(ht:P.underlying t=some (.slice e))(hi:P.info? e=some i)(hz:i.zero=some z)
  (hsize:i.size=size) (hby:i.bytes=bytes) (hzs:z.cells.size=size) (hsz:0<size)
  (a:Option Addr) (m c:Nat) (news:List Value) (hl:news.length=m*size) (ha:m=0∨∃b off,a=some ⟨b,off,none⟩/\∀j u,news[j]?=some u->w.cell? ⟨b,off+j,none⟩=some u) (h1:∀u ∈ news,u.oneCell'=true)
  (h63:m<=maxLen) (hbytes:m*bytes<=140737488355328) (hbase:base<=w.heap.size) :
  ∃v' w',(Builtin.append_ #[t,t] ty #[.slice none 0 0,.slice a m c]).run P w=.ok v' w'/\w'.ownsRow base e size v' m news/\w.grownBy w' none/\∀b o,w.heap.size<=b->w'.heap[b]?=some o->∃cs,o=.cells cs e (0,0):=by
 rcases Nat.eq_zero_or_pos m with h0|h0
 ·subst h0
  obtain rfl:news=[]:=List.length_eq_zero_iff.1 (by rw[hl,Nat.zero_mul]);exact⟨_,_,zh4 w t ty e i ht hi a c,World.ownsRow_nil _ _ _ _,⟨rfl,rfl,rfl,Nat.le_refl _,fun _ _ _=>rfl⟩,fun b o hb ho=>by rw[Array.getElem?_eq_none hb] at ho;cases ho⟩
 ·rcases ha with h|⟨b,off,rfl,hc⟩
  ·omega
  have hn:∀j u,news[j]?=some u->w.cell? ((⟨b,off,none⟩:Addr).add j)=some u:=fun j u h=>by rw[Addr.add_lit];exact hc j u h
  obtain⟨v',w',hr,h2,h3,-,-⟩:=run_append_own_at (P:=P) w base t ty e i z size bytes ht hi hz hsize hby hzs hsz (.slice none 0 0) 0 [] (World.ownsRow_nil _ _ _ _) ⟨b,off,none⟩ m c news hl hn h1 (by rw[Nat.zero_add];exact h63) (by rw[Nat.zero_add];exact hbytes) hbase;rw[Nat.zero_add,List.nil_append] at h2;refine⟨v',w',hr,h2,h3,fun k o hk ho=>?_⟩;have hS:Src P i.size t (.slice (some ⟨b,off,none⟩) m c) m news w:=Src.ofSlice w ht ⟨b,off,none⟩ m c news (by rw[hsize];exact hl) hn h1;have hg:=run_append_grow_src (P:=P) w t t ty e i z ht hi hz none 0 0 [] (run_firstCells_none w.drew i.size 0 0 0) _ m news hS (by omega) (by unfold maxLen at h63;omega) (by
   have:Builtin.nextslicecap (0+m) 0=m:=by
    unfold Builtin.nextslicecap;simp;omega
   rw[this,hby];omega)
  rw[hr] at hg;injection hg with _ hw;rw[hw] at ho;have hkl:k=w.heap.size:=by
   rcases Nat.lt_or_ge k (w.drew.alloc (.cells (([]++news).toArray++Builtin.zeroCells z.cells (grownCap w (0+m) 0 e-(0+m))) e)).heap.size with h|h
   ·rw[World.size_alloc] at h
    have:w.drew.heap.size=w.heap.size:=rfl;omega
   ·rw[Array.getElem?_eq_none h] at ho;cases ho
  subst hkl;have hnew:=heap_alloc_new w.drew (.cells (([]++news).toArray++Builtin.zeroCells z.cells (grownCap w (0+m) 0 e-(0+m))) e);have hsz2:w.drew.heap.size=w.heap.size:=rfl;rw[hsz2] at hnew;rw[hnew] at ho;exact⟨_,(Option.some.inj ho).symm⟩
theorem zcx {α:Type}(f:α->List Value)(k:Nat)(hk:∀x,(f x).length=k):∀(l:List α) (i:Nat) (x:α) (j:Nat),l[i]?=some x->j<k->(l.flatMap f)[i*k+j]?=(f x)[j]?
 | [],i,x,j,h,_=>by simp at h
 |y::r,0,x,j,h,hj=>by
  obtain rfl:y=x:=by simpa using h
  rw[List.flatMap_cons,Nat.zero_mul,Nat.zero_add,List.getElem?_append_left (by rw[hk];exact hj)]
 |y::r,i+1,x,j,h,hj=>by
  have ih:=zcx f k hk r i x j (by simpa using h) hj;rw[List.flatMap_cons,List.getElem?_append_right (by rw[hk,Nat.succ_mul];omega),hk,show(i+1)*k+j-k=i*k+j by rw[Nat.succ_mul];omega];exact ih
theorem zfh {α:Type}(f:α->List Value)(k:Nat)(hk:∀x,(f x).length=k):∀(l:List α),(l.flatMap f).length=l.length*k
 | []=>by simp
 |y::r=>by rw[List.flatMap_cons,List.length_append,hk,zfh f k hk r,List.length_cons,Nat.succ_mul];omega
theorem zqp {α:Type}(f:α->List Value)(k:Nat)(hk:∀x,(f x).length=k)(h0:0<k)(l:List α)(m:Nat)(u:Value)(h:(l.flatMap f)[m]?=some u):∃i j x,m=i*k+j/\j<k/\l[i]?=some x/\(f x)[j]?=some u:=by
 have hm:=(List.getElem?_eq_some_iff.1 h).1;rw[zfh f k hk] at hm;have hi:m/k<l.length:=(Nat.div_lt_iff_lt_mul h0).2 hm;have hj:m%k<k:=Nat.mod_lt _ h0;have e:m=m/k*k+m%k:=by rw[Nat.mul_comm];exact(Nat.div_add_mod m k).symm
 refine⟨m/k,m%k,l[m/k],e,hj,List.getElem?_eq_getElem hi,?_⟩;rw[<-zcx f k hk l (m/k) _ (m%k) (List.getElem?_eq_getElem hi) hj,<-e];exact h
def ruleC (r:PR):List Value:=[.string r.name,.int .i64 r.root]
def zb7 (rs:List PR):List Value:=rs.flatMap ruleC
def nodeC (p:PN × Value):List Value:=[.int .i64 p.1.op,p.2,.int .i64 p.1.rule,.int .u64 p.1.s0,.int .u64 p.1.s1,.int .u64 p.1.s2,.int .u64 p.1.s3]
def zci (ps:List (PN × Value)):List Value:=ps.flatMap nodeC
theorem zh5 {rs:List PR}{i j:Nat}{r:PR}(h:rs[i]?=some r)(hj:j<2):(zb7 rs)[i*2+j]?=(ruleC r)[j]?:=zcx ruleC 2 (fun _=>rfl) rs i r j h hj
theorem zcj {ps:List (PN × Value)}{i j:Nat}{p:PN × Value}(h:ps[i]?=some p)(hj:j<7):(zci ps)[i*7+j]?=(nodeC p)[j]?:=zcx nodeC 7 (fun _=>rfl) ps i p j h hj
theorem RulesIn.cells {w:World}{v:Value}{rs:List PR}(h:RulesIn w v rs):∃a cap,v=.slice a rs.length cap/\(rs.length=0∨∃b off,a=some ⟨b,off,none⟩/\∀j u,(zb7 rs)[j]?=some u->w.cell? ⟨b,off+j,none⟩=some u):=by
 obtain⟨-,a,cap,rfl,h⟩:=h;refine⟨a,cap,rfl,?_⟩;rcases h with h|⟨b,off,rfl,hc⟩
 ·left;rw[h];rfl
 ·right
  refine⟨b,off,rfl,fun m u hu=>?_⟩;obtain⟨i,j,x,rfl,hj,hx,hxu⟩:=zqp ruleC 2 (fun _=>rfl) (by decide) rs m u hu;obtain⟨c0,c1⟩:=hc i x hx
  match j,hj,hxu with
  |0,_,hxu=>
          obtain rfl:_=u:=by simpa [ruleC] using hxu
          exact c0
  |1,_,hxu=>
          obtain rfl:_=u:=by simpa [ruleC] using hxu
          exact c1
theorem RulesIn.of_own {w:World}{base:Nat}{v:Value}{rs:List PR}(h:w.ownsRow base 53 2 v rs.length (zb7 rs))(hl:rs.length<=maxLen):RulesIn w v rs:=by
 refine⟨hl,?_⟩;have h':=h;rcases h.2 with⟨rfl,h0⟩|⟨g,cap,cur,rfl,-⟩
 ·exact⟨none,0,by rw[h0],.inl (List.length_eq_zero_iff.1 h0)⟩
 ·refine⟨_,cap,rfl,.inr ⟨g,0,rfl,fun i r hr=>?_⟩⟩
  have hc:∀j u,(zb7 rs)[j]?=some u->w.cell? ⟨g,0+j,none⟩=some u:=fun j u hu=>by
   have:=h'.cells rfl j u hu;rw[Addr.add_lit] at this;exact this
  exact⟨by have:=hc (i*2+0) _ (zh5 hr (by decide));exact this,by have:=hc (i*2+1) _ (zh5 hr (by decide));exact this⟩
theorem z3l {ns:List PN}{qs:List Value}{i:Nat}{n:PN}{q:Value}(h1:ns[i]?=some n)(h2:qs[i]?=some q):(ns.zip qs)[i]?=some (n,q):=by
 rw[List.getElem?_zip_eq_some];exact⟨h1,h2⟩
theorem z4s {ns:List PN}{qs:List Value}{i:Nat}{p:PN × Value}(h:(ns.zip qs)[i]?=some p):ns[i]?=some p.1/\qs[i]?=some p.2:=by
 have:=List.getElem?_zip_eq_some.1 h;exact this
theorem NodesAt.cells {w:World}{v:Value}{ns:List PN}(h:NodesAt w v ns):∃(qs:List Value) (a:Option Addr) (cap:Nat),qs.length=ns.length/\v=.slice a ns.length cap/\(ns.length=0∨∃b off,a=some ⟨b,off,none⟩/\∀j u,(zci (ns.zip qs))[j]?=some u->w.cell? ⟨b,off+j,none⟩=some u) /\
  ∀(i:Nat) (n:PN) (q:Value),ns[i]?=some n->qs[i]?=some q->IntsAt w q n.kids/\n.kids.length<=maxLen:=by
 obtain⟨-,a,cap,rfl,h⟩:=h;rcases h with h|⟨b,off,rfl,hc⟩
 ·exact⟨[],a,cap,by rw[h];rfl,rfl,.inl (by rw[h];rfl),fun i n q h1 h2=>by rw[h] at h1;simp at h1⟩
 ·have hx:∀i,∃kv,∀n,ns[i]?=some n->(w.cell? ⟨b,off+i*7,none⟩=some (.int .i64 n.op)/\w.cell? ⟨b,off+i*7+1,none⟩=some kv/\w.cell? ⟨b,off+i*7+2,none⟩=some (.int .i64 n.rule)/\w.cell? ⟨b,off+i*7+3,none⟩=some (.int .u64 n.s0)/\w.cell? ⟨b,off+i*7+4,none⟩=some (.int .u64 n.s1)/\w.cell? ⟨b,off+i*7+5,none⟩=some (.int .u64 n.s2)/\w.cell? ⟨b,off+i*7+6,none⟩=some (.int .u64 n.s3)/\IntsAt w kv n.kids/\n.kids.length<=maxLen):=fun i=>by
   cases hn:ns[i]? with
   |none=>exact⟨.nilIface,fun n h=>by cases h⟩
   |some n=>
    obtain⟨kv,hh⟩:=hc i n hn;exact⟨kv,fun m hm=>by cases hm;exact hh⟩
  refine⟨(List.range ns.length).map fun i=>Classical.choose (hx i),some ⟨b,off,none⟩,cap,by simp,rfl,.inr ⟨b,off,rfl,fun m u hu=>?_⟩,fun i n q h1 h2=>?_⟩
  ·obtain⟨i,j,p,rfl,hj,hp,hpu⟩:=zqp nodeC 7 (fun _=>rfl) (by decide) _ m u hu
   obtain⟨h1,h2⟩:=z4s hp;have hq:p.2=Classical.choose (hx i):=by
    rw[List.getElem?_map] at h2;have hl:=(List.getElem?_eq_some_iff.1 h1).1;rw[List.getElem?_range hl] at h2;exact(Option.some.inj h2).symm
   obtain⟨c0,c1,c2,c3,c4,c5,c6,-⟩:=Classical.choose_spec (hx i) p.1 h1;rw[<-hq] at c1
   match j,hj,hpu with
   |0,_,hpu=>
           obtain rfl:_=u:=by simpa [nodeC] using hpu
           exact c0
   |1,_,hpu=>
           obtain rfl:_=u:=by simpa [nodeC] using hpu
           exact c1
   |2,_,hpu=>
           obtain rfl:_=u:=by simpa [nodeC] using hpu
           exact c2
   |3,_,hpu=>
           obtain rfl:_=u:=by simpa [nodeC] using hpu
           exact c3
   |4,_,hpu=>
           obtain rfl:_=u:=by simpa [nodeC] using hpu
           exact c4
   |5,_,hpu=>
           obtain rfl:_=u:=by simpa [nodeC] using hpu
           exact c5
   |6,_,hpu=>
           obtain rfl:_=u:=by simpa [nodeC] using hpu
           exact c6
  ·rw[List.getElem?_map] at h2
   have hl:=(List.getElem?_eq_some_iff.1 h1).1;rw[List.getElem?_range hl] at h2;obtain rfl:=Option.some.inj h2;have:=Classical.choose_spec (hx i) n h1;exact⟨this.2.2.2.2.2.2.2.1,this.2.2.2.2.2.2.2.2⟩
theorem NodesAt.of_own {w:World}{base:Nat}{v:Value}{ns:List PN}{qs:List Value}(h:w.ownsRow base 51 7 v ns.length (zci (ns.zip qs)))(hq:qs.length=ns.length)(hl:ns.length<=maxLen)
  (hk:∀(i:Nat) (n:PN) (q:Value),ns[i]?=some n->qs[i]?=some q->IntsAt w q n.kids/\n.kids.length<=maxLen):NodesAt w v ns:=by
 refine⟨hl,?_⟩;have h':=h;rcases h.2 with⟨rfl,h0⟩|⟨g,cap,cur,rfl,-⟩
 ·exact⟨none,0,by rw[h0],.inl (List.length_eq_zero_iff.1 h0)⟩
 ·refine⟨_,cap,rfl,.inr ⟨g,0,rfl,fun i n hn=>?_⟩⟩
  have hil:=(List.getElem?_eq_some_iff.1 hn).1;obtain⟨q,hqq⟩:∃q,qs[i]?=some q:=⟨_,List.getElem?_eq_getElem (by omega)⟩;have hz:=z3l hn hqq;have hc:∀j u,(zci (ns.zip qs))[j]?=some u->w.cell? ⟨g,0+j,none⟩=some u:=fun j u hu=>by
   have:=h'.cells rfl j u hu;rw[Addr.add_lit] at this;exact this
  obtain⟨k1,k2⟩:=hk i n q hn hqq;exact⟨q,hc (i*7+0) _ (zcj hz (by decide)),hc (i*7+1) _ (zcj hz (by decide)),hc (i*7+2) _ (zcj hz (by decide)),hc (i*7+3) _ (zcj hz (by decide)),hc (i*7+4) _ (zcj hz (by decide)),hc (i*7+5) _ (zcj hz (by decide)),hc (i*7+6) _ (zcj hz (by decide)),k1,k2⟩
theorem IntsAt.of_own {w:World}{base:Nat}{v:Value}{l:List Int}(h:w.ownsRow base 3 1 v l.length (intsV l)):IntsAt w v l:=by
 have h':=h;rcases h.2 with⟨rfl,h0⟩|⟨g,cap,cur,rfl,-⟩
 ·exact⟨none,0,by rw[h0],.inl (List.length_eq_zero_iff.1 h0)⟩
 ·refine⟨_,cap,rfl,.inr ⟨g,0,rfl,fun i x hx=>?_⟩⟩
  have:=h'.cells rfl i (.int .i64 x) (by unfold intsV;rw[List.getElem?_map,hx];rfl);rw[Addr.add_lit] at this;exact this
end
section
open Go.RowKit
def za1 (W:World)(g:Nat)(x y:Value):Prop:=W.heap[g]?=some (.cells #[x,y] 25 (0,0))
def KeepG (w w':World):Prop:=w.heap.size<=w'.heap.size/\∀b,b<w.heap.size->w'.heap[b]?=w.heap[b]?∨((∃x y,za1 w b x y)/\∃x y,za1 w' b x y)
theorem KeepG.refl (w:World):KeepG w w:=⟨Nat.le_refl _,fun _ _=>.inl rfl⟩
theorem KeepG.of_grown {w w':World}(h:w.grownBy w' none):KeepG w w':=⟨h.size,fun b hb=>.inl (h.block b hb (by simp))⟩
theorem KeepG.own {w w':World}(h:KeepG w w'){base:Nat}{e:TypeId}{size:Nat}{v:Value}{n:Nat}{xs:List Value}(hv:w.ownsRow base e size v n xs)(he:e≠25):w'.ownsRow base e size v n xs:=by
 obtain⟨h1,h2⟩:=hv;refine⟨h1,?_⟩;rcases h2 with h2|⟨g,cap,cur,hv,hg,hh,r⟩
 ·exact .inl h2
 ·refine .inr ⟨g,cap,cur,hv,hg,?_,r⟩
  have hl:g<w.heap.size:=(Array.getElem?_eq_some_iff.1 hh).1;rcases h.2 g hl with h3|⟨⟨x,y,h3⟩,-⟩
  ·rw[h3];exact hh
  ·unfold za1 at h3
   rw[h3] at hh;injection hh with hh;injection hh with _ hh;exact absurd hh.symm he
section
variable (n0 B0:Nat) (ru nu:Value) (rn nn:Nat) (rc nc:List Value)
structure CLS (w0:World) (L:Nat->Bool) (W:World):Prop where
 below:Below n0 w0 W
 size:n0<=W.heap.size
 free:L 7=false->∀g x y,n0<=g->¬za1 W g x y
 one:∀g g' x y x' y',n0<=g->n0<=g'->za1 W g x y->za1 W g' x' y'->g=g'
 last:L 8=true->∀g x y,n0<=g->za1 W g x y->W.ownsRow n0 53 2 x rn rc/\W.ownsRow n0 51 7 y nn nc
variable {n0 B0 ru nu rn nn rc nc}
theorem zhg {W W':World}(hg:W.grownBy W' Option.none){t:TypeId}(ht:t≠25)(hn:∀b o,W.heap.size<=b->W'.heap[b]?=some o->∃cs,o=.cells cs t (0,0)){g:Nat}{x y:Value}(h:za1 W' g x y):za1 W g x y:=by
 rcases Nat.lt_or_ge g W.heap.size with hl|hl
 ·unfold za1 at *;rw[<-hg.block g hl (by simp)];exact h
 ·obtain⟨cs,hc⟩:=hn g _ hl h
  injection hc with _ hc;exact absurd hc.symm ht
theorem CLS.grown {w0:World}{L:Nat->Bool}{W W':World}(h:CLS n0 rn nn rc nc w0 L W)(k:Nat)(hk:k≠7)(hk8:k≠8)(hg:W.grownBy W' Option.none){t:TypeId}(ht:t≠25)(hn:∀b o,W.heap.size<=b->W'.heap[b]?=some o->∃cs,o=.cells cs t (0,0)):CLS n0 rn nn rc nc w0 (fun j=>if j=k then true else L j) W':=
 ⟨h.below.grown hg h.size (fun k e=>by cases e),Nat.le_trans h.size hg.size,
  fun h7 g x y hn0 hx=>h.free (by rw[if_neg (fun e=>hk e.symm)] at h7;exact h7) g x y hn0 (zhg hg ht hn hx),
  fun g g' x y x' y' h1 h2 h3 h4=>h.one g g' x y x' y' h1 h2 (zhg hg ht hn h3) (zhg hg ht hn h4),
  fun h8 g x y h1 h2=>by
   have:=h.last (by rw[if_neg (fun e=>hk8 e.symm)] at h8;exact h8) g x y h1 (zhg hg ht hn h2);exact⟨(KeepG.of_grown hg).own this.1 (by decide),(KeepG.of_grown hg).own this.2 (by decide)⟩⟩
theorem CLS.alloc {w0:World}{L:Nat->Bool}{W:World}(h:CLS n0 rn nn rc nc w0 L W)(h7:L 7=false)(h8:L 8=false)(x y:Value):CLS n0 rn nn rc nc w0 (fun j=>if j=7 then true else L j) (W.alloc (.cells #[x,y] 25)):=by
 have old:∀g x' y',n0<=g->za1 (W.alloc (.cells #[x,y] 25)) g x' y'->g=W.heap.size:=fun g x' y' hn hx=>by
  rcases Nat.lt_trichotomy g W.heap.size with hl|hl|hl
  ·have:za1 W g x' y':=by unfold za1 at *;rw[<-Below.heap_alloc W (.cells #[x,y] 25) g hl];exact hx
   exact absurd this (h.free h7 g x' y' hn)
  ·exact hl
  ·unfold za1 at hx
   rw[Array.getElem?_eq_none (by rw[World.size_alloc];omega)] at hx;cases hx
 exact⟨h.below.alloc h.size _,by rw[World.size_alloc];exact Nat.le_succ_of_le h.size,fun e=>by simp at e,fun g g' x y x' y' h1 h2 h3 h4=>by rw[old g _ _ h1 h3,old g' _ _ h2 h4],fun e=>by rw[if_neg (by decide)] at e;rw[h8] at e;cases e⟩
end
theorem zz0:(Tryz.prog.info? 53).map (fun i=>(i.zero,i.size,i.bytes))=some (some (.agg #[.string ⟨#[]⟩,.int .i64 0]),2,24):=by kernel_rfl
theorem zqq:(Tryz.prog.info? 51).map (fun i=>(i.zero,i.size,i.bytes))=some (some (.agg #[.int .i64 0,.slice none 0 0,.int .i64 0,.int .u64 0,.int .u64 0,.int .u64 0,.int .u64 0]),7,72):=by kernel_rfl
theorem z9w {o:Oper}{a:Act}{w:World}{T:Nat->Value->World->Prop}{i:Nat}{R:World->World->Prop}{S:World->Prop}{Q:Exit->Act->World->Prop}(s x:Operand)(t:TypeId)
  (ho:o.op=.call { callee:=.builtin .append,args:=#[s,x],argTypes:=#[t,t] }) {sv xv:Value} (hs:a.eval s=sv) (hx:a.eval x=xv) {v:Value} {w':World} (hr:(Builtin.append_ #[t,t] o.type #[sv,xv]).run Tryz.prog w=.ok v w') (hT:T i v w') (hR:R w w') (hS:S w') :
  o.wp Tryz.prog a w (fun a' w'=>∃v,a'=a.put o.dst v/\T i v w'/\R w w'/\S w') Q:=by
 unfold Oper.wp execOp;simp only[ho,resolve,invoke,builtin,Sem.run_bind,Sem.run_pure,Result.andThen_ok,List.map_toArray,List.map_cons,List.map_nil,hs,hx,hr];exact⟨v,rfl,hT,hR,hS⟩
theorem z9x {P:Program}{o:Oper}{a:Act}{w w':World}{T:Nat->Value->World->Prop}{i:Nat}{R:World->World->Prop}{S:World->Prop}{Q:Exit->Act->World->Prop}(v:Value)(hv:(execOp a.eval o).run P w=.ok (.value v) w')(hT:T i v w')(hR:R w w')(hS:S w') :
  o.wp P a w (fun a' w'=>∃v,a'=a.put o.dst v/\T i v w'/\R w w'/\S w') Q:=by
 unfold Oper.wp;rw[hv];exact⟨v,rfl,hT,hR,hS⟩
def CloneAt (n0 C:Nat)(rv nv:Value)(rs:List PR)(ns:List PN)(qs:List Value)(w0 W:World):Prop:=
 n0<=C/\za1 W C rv nv/\W.ownsRow n0 53 2 rv rs.length (zb7 rs)/\W.ownsRow n0 51 7 nv ns.length (zci (ns.zip qs))/\Below n0 w0 W
section
variable {n0 C:Nat} {rv nv:Value} {rs:List PR} {ns:List PN} {qs:List Value} {w0 W W':World}
theorem CloneAt.kept (h:CloneAt n0 C rv nv rs ns qs w0 W)(hb:Below W.heap.size W W'):CloneAt n0 C rv nv rs ns qs w0 W':=by
 obtain⟨h1,h2,h3,h4,h5⟩:=h;have hl:C<W.heap.size:=(Array.getElem?_eq_some_iff.1 h2).1;have hn:n0<=W.heap.size:=by omega
 exact⟨h1,by unfold za1;rw[hb.block C hl];exact h2,zaa h3 hb,zaa h4 hb,h5.trans (hb.mono hn)⟩
theorem CloneAt.cell1 (h:CloneAt n0 C rv nv rs ns qs w0 W):W.cell? ⟨C,1,none⟩=some nv:=by have:=h.2.1;unfold za1 at this;simp[World.cell?,this]
theorem CloneAt.lt (h:CloneAt n0 C rv nv rs ns qs w0 W):C<W.heap.size:=(Array.getElem?_eq_some_iff.1 h.2.1).1
theorem za9 {base:Nat}{e e':TypeId}{size:Nat}{v:Value}{n:Nat}{xs:List Value}{g:Nat}(h:W.ownsRow base e size v n xs)(hg:∃c fz,W.heap[g]?=some (.cells c e' fz))(he:e≠e'):v.ownBlock≠some g:=fun hb=>by
 obtain⟨c,fz,h1⟩:=Lib.ownsRow_kind h g hb;obtain⟨c',fz',h2⟩:=hg;rw[h1] at h2;injection h2 with h2;injection h2 with _ h2;exact he h2
theorem zz1 {l:List Value}{j:Nat}{u:Value}(h:l[j]?=some u):l.set j u=l:=by
 obtain⟨hj,rfl⟩:=List.getElem?_eq_some_iff.1 h;exact List.set_getElem_self hj
theorem CloneAt.rule {g cap i:Nat}{r:PR}(h:CloneAt n0 C (.slice (some ⟨g,0,none⟩) rs.length cap) nv rs ns qs w0 W)(hr:rs[i]?=some r):CloneAt n0 C (.slice (some ⟨g,0,none⟩) rs.length cap) nv rs ns qs w0 (W.setCell ⟨g,i*2,none⟩ (.string r.name)):=by
 obtain⟨h1,h2,h3,h4,h5⟩:=h;have hk:=Lib.ownsRow_kind h3 g rfl;have hg:=(h3.lt g rfl).1;have hcg:C≠g:=fun e=>by
  subst e;obtain⟨c,fz,h6⟩:=hk;unfold za1 at h2;rw[h2] at h6;injection h6 with h6;injection h6 with _ h6;exact absurd h6 (by decide)
 refine⟨h1,by unfold za1;rw[heap_setCell_other _ _ _ _ hcg];exact h2,?_,ownsRow_setCell_other h4 (za9 h4 hk (by decide)) _,h5.setCell (p:=⟨g,i*2,none⟩) hg _⟩;have:=(h3.stored (i*2+0) (.string r.name)).1;rw[zz1 (zh5 (j:=0) hr (by decide))] at this;exact this
end
def KMix (n0:Nat)(ns:List PN)(qs:List Value)(i:Nat)(w W:World):Prop:=∀(j:Nat) (n:PN) (q:Value),ns[j]?=some n->qs[j]?=some q->(j<i->W.ownsRow n0 3 1 q n.kids.length (intsV n.kids))/\(i<=j->IntsAt w q n.kids)
theorem zdc {w w':World}(h:w.grownBy w' none):Below w.heap.size w w':=⟨h.os,h.tape,h.output,h.size,fun k hk=>h.block k hk (by simp)⟩
theorem IntsAt.src {w:World}{a:Option Addr}{c:Nat}{l:List Int}(h:IntsAt w (.slice a l.length c) l):l.length=0∨∃b off,a=some ⟨b,off,none⟩/\∀j u,(intsV l)[j]?=some u->w.cell? ⟨b,off+j,none⟩=some u:=by
 obtain⟨a',c',e,h⟩:=h;injection e with e1 _ e3;subst e1 e3;rcases h with h|⟨b,off,rfl,hc⟩
 ·left;rw[h];rfl
 ·right
  refine⟨b,off,rfl,fun j u hu=>?_⟩;unfold intsV at hu;rw[List.getElem?_map] at hu;cases hj:l[j]? with
  |none=>rw[hj] at hu;cases hu
  |some x=>rw[hj] at hu;cases hu;exact hc j x hj
theorem zjd:∀(ns:List PN) (qs:List Value) (i:Nat) (v:Value),qs.length=ns.length->i<ns.length->(zci (ns.zip qs)).set (i*7+1) v=zci (ns.zip (qs.set i v))
 | [],_,i,v,_,h=>absurd h (Nat.not_lt_zero _)
 |n::ns,[],i,v,h,_=>by simp at h
 |n::ns,q::qs,0,v,_,_=>rfl
 |n::ns,q::qs,i+1,v,h,hi=>by
  have ih:=zjd ns qs i v (by simpa using h) (by simpa using hi);show(nodeC (n,q)++zci (ns.zip qs)).set ((i+1)*7+1) v=nodeC (n,q)++zci (ns.zip (qs.set i v));rw[List.set_append_right (h:=by show 7<=_;omega),<-ih];congr 2;show(i+1)*7+1-7=_;omega
theorem CloneAt.node {n0 C g cap i:Nat}{rv v:Value}{rs:List PR}{ns:List PN}{qs:List Value}{w0 W:World}(h:CloneAt n0 C rv (.slice (some ⟨g,0,none⟩) ns.length cap) rs ns qs w0 W)(hq:qs.length=ns.length)(hi:i<ns.length):CloneAt n0 C rv (.slice (some ⟨g,0,none⟩) ns.length cap) rs ns (qs.set i v) w0 (W.setCell ⟨g,i*7+1,none⟩ v):=by
 obtain⟨h1,h2,h3,h4,h5⟩:=h;have hk:=Lib.ownsRow_kind h4 g rfl;have hg:=(h4.lt g rfl).1;have hcg:C≠g:=fun e=>by
  subst e;obtain⟨c,fz,h6⟩:=hk;unfold za1 at h2;rw[h2] at h6;injection h6 with h6;injection h6 with _ h6;exact absurd h6 (by decide)
 refine⟨h1,by unfold za1;rw[heap_setCell_other _ _ _ _ hcg];exact h2,ownsRow_setCell_other h3 (za9 h3 hk (by decide)) _,?_,h5.setCell (p:=⟨g,i*7+1,none⟩) hg _⟩;have:=(h4.stored (i*7+1) v).1;rw[zjd ns qs i v hq hi] at this;exact this
theorem KMix.step {n0:Nat}{ns:List PN}{qs:List Value}{i:Nat}{w W W2:World}{n:PN}{v:Value}{g base cap k:Nat}{xs:List Value}(h:KMix n0 ns qs i w W)(hb:Below W.heap.size W W2)(hn:ns[i]?=some n)(hv:W2.ownsRow n0 3 1 v n.kids.length (intsV n.kids))(hr:W2.ownsRow base 51 7 (.slice (some ⟨g,0,none⟩) k cap) k xs)(o:Nat)(u:Value) :
  KMix n0 ns (qs.set i v) (i+1) w (W2.setCell ⟨g,o,none⟩ u):=fun j m q h1 h2=>by
 have hk:=Lib.ownsRow_kind hr g rfl;rw[List.getElem?_set] at h2;by_cases e:i=j
 ·subst e
  rw[if_pos rfl] at h2;split at h2
  ·cases h2
   rw[hn] at h1;obtain rfl:=Option.some.inj h1;exact⟨fun _=>ownsRow_setCell_other hv (za9 hv hk (by decide)) _,fun h=>absurd h (by omega)⟩
  ·cases h2
 ·rw[if_neg e] at h2
  obtain⟨a1,a2⟩:=h j m q h1 h2;refine⟨fun hj=>?_,fun hj=>a2 (by omega)⟩;have:=zaa (a1 (by omega)) hb;exact ownsRow_setCell_other this (za9 this hk (by decide)) _
def CloneIs (rs:List PR)(ns:List PN)(w:World)(e:Ending)(w':World):Prop:=
 ∃(rv nv:Value) (qs:List Value),e=.returned (.agg #[rv,nv])/\qs.length=ns.length/\w'.ownsRow w.heap.size 53 2 rv rs.length (zb7 rs)/\w'.ownsRow w.heap.size 51 7 nv ns.length (zci (ns.zip qs)) /\
  (∀(j:Nat) (n:PN) (q:Value),ns[j]?=some n->qs[j]?=some q->w'.ownsRow w.heap.size 3 1 q n.kids.length (intsV n.kids))/\Below w.heap.size w w'
theorem zau {W:World}{base:Nat}{e:TypeId}{size n g:Nat}{v:Value}{xs:List Value}(h:W.ownsRow base e size v n xs)(hg:g<base)(u:Value)(o:Nat):(W.setCell ⟨g,o,none⟩ u).ownsRow base e size v n xs:=ownsRow_setCell_below h (a:=⟨g,o,none⟩) hg u
theorem zax {W:World}{base base':Nat}{e:TypeId}{size n:Nat}{v:Value}{xs:List Value}(h:W.ownsRow base e size v n xs)(hb:base'<=base):W.ownsRow base' e size v n xs:=
 ⟨h.1,h.2.elim Or.inl (fun⟨g,cap,cur,hv,hg,r⟩=>Or.inr ⟨g,cap,cur,hv,Nat.le_trans hb hg,r⟩)⟩
theorem CloneIs.mk {C:Nat}{rv nv x y:Value}{rs:List PR}{ns:List PN}{qs:List Value}{w w0 wr:World}(h:CloneAt w0.heap.size C rv nv rs ns qs w0 wr)(hm:KMix w0.heap.size ns qs ns.length w wr)(hq:qs.length=ns.length)(hz:w.heap.size+2<=w0.heap.size)(hb:Below w.heap.size w wr) :
  CloneIs rs ns w (.returned (.agg #[rv,nv])) ((wr.setCell ⟨w.heap.size+1,0,none⟩ x).setCell ⟨w.heap.size+1,1,none⟩ y):=by
 obtain⟨h1,h2,h3,h4,h5⟩:=h;refine⟨rv,nv,qs,rfl,hq,zax (zau (zau h3 (by omega) _ _) (by omega) _ _) (by omega),zax (zau (zau h4 (by omega) _ _) (by omega) _ _) (by omega),fun j n q a1 a2=>?_,(hb.setCell (p:=⟨w.heap.size+1,0,none⟩) (Nat.le_succ _) _).setCell (p:=⟨w.heap.size+1,1,none⟩) (Nat.le_succ _) _⟩;have:=(hm j n q a1 a2).1 (List.getElem?_eq_some_iff.1 a1).1;exact zax (zau (zau this (by omega) _ _) (by omega) _ _) (by omega)
end
section
open Go.RowKit
theorem zqr {W:World}{g o:Nat}{cs:Array Value}{t:TypeId}{u:Value}(h:W.heap[g]?=some (.cells cs t (0,0)))(ho:cs[o]?=some u):W.cell? ⟨g,o,none⟩=some u:=by
 unfold World.cell?;dsimp only;rw[h];exact ho
theorem zz2 {W:World}{g:Nat}{cs:Array Value}{t:TypeId}(h:W.heap[g]?=some (.cells cs t (0,0)))(o:Nat):W.frozen? ⟨g,o,none⟩=false:=by simp[World.frozen?,h]
theorem zg2 (w:World)(l:List Value)(t:TypeId):∀j u,l[j]?=some u->(w.alloc (.cells l.toArray t)).cell? ((⟨w.heap.size,0,none⟩:Addr).add j)=some u:=fun j u h=>by
 have:=heap_alloc_new w (.cells l.toArray t);rw[Addr.add_lit,Nat.zero_add];exact zqr this (by simpa using h)
theorem zfu {W W':World}{g:Nat}{x y:Value}(h:za1 W g x y)(hb:Below W.heap.size W W'):za1 W' g x y:=by
 unfold za1;rw[hb.block g (Array.getElem?_eq_some_iff.1 h).1];exact h
theorem zad {w:World}{base:Nat}{e:TypeId}{size n:Nat}{v:Value}{xs:List Value}(h:w.ownsRow base e size v n xs):∃a c,v=.slice a n c:=by
 rcases h.2 with⟨e,e0⟩|⟨g,cap,cur,e,-⟩
 ·exact⟨none,0,by rw[e,e0]⟩
 ·exact⟨_,_,e⟩
def CopyAt (w:World)(O:Nat)(rs:List PR)(ns:List PN)(rv x src v:Value)(qs:List Value)(k:Nat)(wr:World):Prop:=
 Below w.heap.size w wr/\w.heap.size+1<O/\za1 wr O rv v/\za1 wr w.heap.size x src/\za1 wr (w.heap.size+1) (.slice none 0 0) (.slice none 0 0)/\wr.ownsRow w.heap.size 53 2 rv rs.length (zb7 rs) /\
 wr.ownsRow w.heap.size 51 7 v k (zci ((ns.take k).zip qs))/\qs.length=k/\∀(j:Nat) (n:PN) (q:Value),ns[j]?=some n->qs[j]?=some q->wr.ownsRow w.heap.size 3 1 q n.kids.length (intsV n.kids)
section
variable {w:World} {O:Nat} {rs:List PR} {ns:List PN} {rv x src v:Value} {qs:List Value} {k:Nat} {wr W:World}
theorem CopyAt.kept (h:CopyAt w O rs ns rv x src v qs k wr)(hb:Below wr.heap.size wr W):CopyAt w O rs ns rv x src v qs k W:=by
 obtain⟨h1,h2,h3,h4,h5,h6,h7,h8,h9⟩:=h;exact⟨h1.trans (hb.mono h1.size),h2,zfu h3 hb,zfu h4 hb,zfu h5 hb,zaa h6 hb,zaa h7 hb,h8,fun j n q a b=>zaa (h9 j n q a b) hb⟩
theorem zbi {w w':World}{base n:Nat}{e e':TypeId}{size:Nat}{v:Value}{xs:List Value}{r:Option Nat}(h:w.ownsRow base e size v n xs)(hg:w.grownBy w' r)(hr:∀g,r=some g->∃c fz,w.heap[g]?=some (.cells c e' fz))(he:e≠e'):w'.ownsRow base e size v n xs:=by
 refine h.kept hg ?_;cases r with
 |none=>cases hv:v.ownBlock with
  |none=>exact .inl rfl
  |some b=>exact .inr (by simp)
 |some g=>exact .inr (za9 h (hr g rfl) he)
theorem zh6 {w w':World}{G:Nat}{x y:Value}{e':TypeId}{r:Option Nat}(h:za1 w G x y)(hg:w.grownBy w' r)(hr:∀g,r=some g->∃c fz,w.heap[g]?=some (.cells c e' fz))(he:25≠e'):za1 w' G x y:=by
 have hl:G<w.heap.size:=(Array.getElem?_eq_some_iff.1 h).1;unfold za1;rw[hg.block G hl (fun e=>by
  obtain⟨c,fz,hc⟩:=hr G e.symm;unfold za1 at h;rw[h] at hc;injection hc with hc;injection hc with _ hc;exact he hc)]
 exact h
theorem CopyAt.step (h:CopyAt w O rs ns rv x src v qs k wr){n:PN}(hn:ns[k]?=some n){kv v':Value}(hkv:wr.ownsRow w.heap.size 3 1 kv n.kids.length (intsV n.kids)){o2:Obj}{w':World}
  (hown:w'.ownsRow w.heap.size 51 7 v' (k+1) (zci ((ns.take k).zip qs)++nodeC (n,kv))) (hg:(wr.alloc o2).grownBy w' v.ownBlock) :
  CopyAt w O rs ns rv x src v' (qs++[kv]) (k+1) (w'.setCell ⟨O,1,none⟩ v'):=by
 have hb:=zab wr o2;obtain⟨h1,h2,h3,h4,h5,h6,h7,h8,h9⟩:=h.kept hb;have kind:∀g,v.ownBlock=some g->∃c fz,(wr.alloc o2).heap[g]?=some (.cells c 51 fz):=fun g hv=>Lib.ownsRow_kind h7 g hv
 have hgr:=zh6 h3 hg kind (by decide);have hgk:∃c fz,w'.heap[O]?=some (.cells c 25 fz):=⟨_,_,hgr⟩;have hlt:k<ns.length:=(List.getElem?_eq_some_iff.1 hn).1;refine⟨(h1.grown hg h1.size (fun g hv=>(h7.lt g hv).1)).setCell (p:=⟨O,1,none⟩) (by show w.heap.size<=O;omega) _,h2,?_,?_,?_,?_,?_,by rw[List.length_append,h8];rfl,fun j m q hj hq=>?_⟩
 ·unfold za1
  rw[heap_setCell_same _ _ _ _ _ _ hgr];rfl
 ·unfold za1
  rw[heap_setCell_other _ _ _ _ (by show w.heap.size≠O;omega)];exact zh6 h4 hg kind (by decide)
 ·unfold za1
  rw[heap_setCell_other _ _ _ _ (by show w.heap.size+1≠O;omega)];exact zh6 h5 hg kind (by decide)
 ·have:=zbi h6 hg kind (by decide)
  exact ownsRow_setCell_other this (za9 this hgk (by decide)) _
 ·have:=ownsRow_setCell_other hown (a:=⟨O,1,none⟩) (za9 hown hgk (by decide)) v'
  rw[zap ns k n hn,List.zip_append (by rw[List.length_take,h8];omega)];unfold zci at this ⊢;rw[List.flatMap_append];simpa using this
 ·rw[List.getElem?_append] at hq
  split at hq
  ·have a2:=zbi (h9 j m q hj hq) hg kind (by decide)
   exact ownsRow_setCell_other a2 (za9 a2 hgk (by decide)) _
  ·have hjk:j=k:=by
    have:=(List.getElem?_eq_some_iff.1 hq).1;simp at this;omega
   subst hjk;rw[h8,Nat.sub_self] at hq;obtain rfl:=Option.some.inj hq;obtain rfl:=Option.some.inj (hn.symm.trans hj);have a2:=zbi (zaa hkv hb) hg kind (by decide);exact ownsRow_setCell_other a2 (za9 a2 hgk (by decide)) _
theorem CopyAt.done (h:CopyAt w O rs ns rv x src v qs ns.length wr)(y z:Value):CloneIs rs ns w (.returned (.agg #[rv,v])) ((wr.setCell ⟨w.heap.size+1,0,none⟩ y).setCell ⟨w.heap.size+1,1,none⟩ z):=by
 obtain⟨h1,h2,h3,h4,h5,h6,h7,h8,h9⟩:=h;rw[List.take_of_length_le (Nat.le_refl _)] at h7;have hgk:∃c fz,wr.heap[w.heap.size+1]?=some (.cells c 25 fz):=⟨_,_,h5⟩;have hgk2:∃c fz,(wr.setCell ⟨w.heap.size+1,0,none⟩ y).heap[w.heap.size+1]?=some (.cells c 25 fz):=⟨_,_,heap_setCell_same _ _ _ _ _ _ h5⟩;have two:∀ {e:TypeId} {size n:Nat} {u:Value} {xs:List Value},wr.ownsRow w.heap.size e size u n xs->e≠25->((wr.setCell ⟨w.heap.size+1,0,none⟩ y).setCell ⟨w.heap.size+1,1,none⟩ z).ownsRow w.heap.size e size u n xs:=fun hu he=>by
  have a1:=ownsRow_setCell_other hu (a:=⟨w.heap.size+1,0,none⟩) (za9 hu hgk he) y;exact ownsRow_setCell_other a1 (za9 a1 hgk2 he) _
 exact⟨rv,v,qs,rfl,h8,two h6 (by decide),two h7 (by decide),fun j n q a b=>two (h9 j n q a b) (by decide),(h1.setCell (p:=⟨w.heap.size+1,0,none⟩) (Nat.le_succ _) _).setCell (p:=⟨w.heap.size+1,1,none⟩) (Nat.le_succ _) _⟩
end
theorem CopyAt.start {w w1:World}{rs:List PR}{ns:List PN}{rv src y:Value}(hown:w1.ownsRow w.heap.size 53 2 rv rs.length (zb7 rs))
  (hg:(((w.alloc (.cells #[y,src] 25)).alloc (.cells #[.slice none 0 0,.slice none 0 0] 25)).alloc (.cells #[] 53)).grownBy w1 (some (w.heap.size+1+1))) :
  CopyAt w w1.heap.size rs ns rv y src (.slice none 0 0) [] 0 (w1.alloc (.cells #[rv,.slice none 0 0] 25)):=by
 have hb:=((zat w (.cells #[y,src] 25) (.cells #[.slice none 0 0,.slice none 0 0] 25)).alloc (by simp;omega) (.cells #[] 53));have hb1:=hb.grown hg hb.size (fun g e=>by have:=Option.some.inj e;omega);have hsz:=hg.size;simp at hsz;have hk0:za1 w1 w.heap.size y src:=by
  unfold za1;rw[hg.block _ (by simp;omega) (by simp;omega),Below.heap_alloc _ _ _ (by simp;omega),Below.heap_alloc _ _ _ (by simp)];exact heap_alloc_new w _
 have hk1:za1 w1 (w.heap.size+1) (.slice none 0 0) (.slice none 0 0):=by
  unfold za1;rw[hg.block _ (by simp) (by simp),Below.heap_alloc _ _ _ (by simp)];have:=heap_alloc_new (w.alloc (.cells #[y,src] 25)) (.cells #[.slice none 0 0,.slice none 0 0] 25);rw[World.size_alloc] at this;exact this
 have hn:=zab w1 (.cells #[rv,.slice none 0 0] 25);exact⟨hb1.trans (hn.mono hb1.size),by omega,heap_alloc_new w1 _,zfu hk0 hn,zfu hk1 hn,zaa hown hn,World.ownsRow_nil _ _ _ _,rfl,fun j n q _ h=>by simp at h⟩
end
section
open Go.RowKit
def CellsAt (w:World)(v:Value)(n:Nat)(cs:List Value):Prop:=∃a cap,v=.slice a n cap/\n<=cap/\(n=0∨∃b off,a=some ⟨b,off,none⟩/\∀j u,cs[j]?=some u->w.cell? ⟨b,off+j,none⟩=some u)
theorem CellsAt.kept {k:Nat}{w w':World}{v:Value}{n:Nat}{cs:List Value}(h:CellsAt w v n cs)(hb:Below k w w')(hk:w.heap.size<=k):CellsAt w' v n cs:=by
 obtain⟨a,cap,rfl,hcap,h⟩:=h;rcases h with h|⟨b,off,rfl,hc⟩
 ·exact⟨a,cap,rfl,hcap,.inl h⟩
 ·exact⟨_,cap,rfl,hcap,.inr ⟨b,off,rfl,fun i c hi=>by have:=zac (hc i c hi);rw[(bcell hb).1 _ _ (by omega)];exact hc i c hi⟩⟩
theorem CellsAt.of_own {w:World}{base:Nat}{e:TypeId}{size:Nat}{v:Value}{n:Nat}{cs:List Value}(h:w.ownsRow base e size v n cs):CellsAt w v n cs:=by
 have h':=h;rcases h.2 with⟨rfl,h0⟩|⟨g,cap,cur,rfl,-,-,hcap,-⟩
 ·exact⟨none,0,by rw[h0],by omega,.inl h0⟩
 ·refine⟨_,cap,rfl,hcap,.inr ⟨g,0,rfl,fun i r hr=>?_⟩⟩
  have:=h'.cells rfl i r hr;rw[Addr.add_lit] at this;exact this
theorem CellsAt.src {w:World}{a:Option Addr}{n c:Nat}{cs:List Value}(h:CellsAt w (.slice a n c) n cs):n=0∨∃b off,a=some ⟨b,off,none⟩/\∀j u,cs[j]?=some u->w.cell? ⟨b,off+j,none⟩=some u:=by
 obtain⟨a',c',e,-,h⟩:=h;injection e with e1 e2 e3;subst e1;exact h
theorem CellsAt.cap {w:World}{a:Option Addr}{n m c:Nat}{cs:List Value}(h:CellsAt w (.slice a m c) n cs):n<=c:=by
 obtain⟨a',c',e,h,-⟩:=h;injection e with e1 e2 e3;omega
def itemC (x:PI):List Value:=[.int .i64 x.op,.int .i64 x.kids,.int .i64 x.rule,.int .u64 x.s0,.int .u64 x.s1,.int .u64 x.s2,.int .u64 x.s3]
def ze7 (l:List PI):List Value:=l.flatMap itemC
theorem zfv (l:List PI):(ze7 l).length=l.length*7:=zfh itemC 7 (fun _=>rfl) l
theorem zu6 {l:List PI}{i j:Nat}{x:PI}(h:l[i]?=some x)(hj:j<7):(ze7 l)[i*7+j]?=(itemC x)[j]?:=zcx itemC 7 (fun _=>rfl) l i x j h hj
theorem zk2 (l m:List PI):ze7 (l++m)=ze7 l++ze7 m:=by unfold ze7;rw[List.flatMap_append]
def ItemsAt (w:World)(v:Value)(l:List PI):Prop:=l.length<=maxLen/\CellsAt w v l.length (ze7 l)
theorem ItemsAt.kept {k:Nat}{w w':World}{v:Value}{l:List PI}(h:ItemsAt w v l)(hb:Below k w w')(hk:w.heap.size<=k):ItemsAt w' v l:=⟨h.1,h.2.kept hb hk⟩
def ItemAt (w:World)(b o:Nat)(x:PI):Prop:=w.cell? ⟨b,o,none⟩=some (.int .i64 x.op)/\w.cell? ⟨b,o+1,none⟩=some (.int .i64 x.kids)/\w.cell? ⟨b,o+2,none⟩=some (.int .i64 x.rule)/\w.cell? ⟨b,o+3,none⟩=some (.int .u64 x.s0)/\w.cell? ⟨b,o+4,none⟩=some (.int .u64 x.s1)/\w.cell? ⟨b,o+5,none⟩=some (.int .u64 x.s2)/\w.cell? ⟨b,o+6,none⟩=some (.int .u64 x.s3)
theorem ItemsAt.at {w:World}{a:Option Addr}{n c:Nat}{l:List PI}{i:Nat}{x:PI}(h:ItemsAt w (.slice a n c) l)(hx:l[i]?=some x):∃b off,a=some ⟨b,off,none⟩/\ItemAt w b (off+i*7) x:=by
 obtain⟨-,a',c',e,-,h⟩:=h;injection e with e1 e2 e3;subst e1;rcases h with h|⟨b,off,rfl,hc⟩
 ·have:=(List.getElem?_eq_some_iff.1 hx).1;omega
 ·refine⟨b,off,rfl,?_⟩
  have hh:∀j u,j<7->(itemC x)[j]?=some u->w.cell? ⟨b,off+i*7+j,none⟩=some u:=fun j u hj hu=>by
   rw[Nat.add_assoc];exact hc _ _ (by rw[zu6 hx hj];exact hu)
  exact⟨hh 0 _ (by decide) rfl,hh 1 _ (by decide) rfl,hh 2 _ (by decide) rfl,hh 3 _ (by decide) rfl,hh 4 _ (by decide) rfl,hh 5 _ (by decide) rfl,hh 6 _ (by decide) rfl⟩
theorem ItemsAt.slice {w:World}{v:Value}{l:List PI}(h:ItemsAt w v l):∃a c,v=.slice a l.length c:=by
 obtain⟨-,a,c,e,-⟩:=h;exact⟨a,c,e⟩
theorem ItemsAt.cap {w:World}{a:Option Addr}{n c:Nat}{l:List PI}(h:ItemsAt w (.slice a n c) l):l.length<=c:=h.2.cap
theorem ItemAt.kept {k:Nat}{w w':World}{b o:Nat}{x:PI}(h:ItemAt w b o x)(hb:Below k w w')(hk:w.heap.size<=k):ItemAt w' b o x:=by
 obtain⟨h0,h1,h2,h3,h4,h5,h6⟩:=h;have hl:=zac h0;have hc:=fun o=>(bcell hb).1 b o (by omega)
 exact⟨by rw[hc];exact h0,by rw[hc];exact h1,by rw[hc];exact h2,by rw[hc];exact h3,by rw[hc];exact h4,by rw[hc];exact h5,by rw[hc];exact h6⟩
theorem ItemsAt.drop {w:World}{b off c:Nat}{n k:Nat}{l:List PI}(h:ItemsAt w (.slice (some ⟨b,off,none⟩) n c) l)(hk:k<=l.length){c':Nat}(hc':l.length-k<=c'):ItemsAt w (.slice (some ⟨b,off+k*7,none⟩) (l.length-k) c') (l.drop k):=by
 obtain⟨hm,a',c1,e,-,h⟩:=h;injection e with e1 e2 e3;subst e1;refine⟨by rw[List.length_drop];omega,_,c',by rw[List.length_drop],by rw[List.length_drop];exact hc',?_⟩;rcases h with h|⟨b',off',e,hc⟩
 ·left;rw[List.length_drop];omega
 ·injection e with e
  injection e with e1 e2;subst e1 e2;right;refine⟨b,off+k*7,rfl,fun j u hu=>?_⟩;rw[Nat.add_assoc];refine hc _ _ ?_;have:ze7 l=ze7 (l.take k)++ze7 (l.drop k):=by rw[<-zk2,List.take_append_drop]
  rw[this,List.getElem?_append_right (by
                       rw[zfv,List.length_take];have:min k l.length=k:=by omega
                       rw[this];omega),zfv,List.length_take,show min k l.length=k by omega,Nat.add_sub_cancel_left]
  exact hu
def ruleQ (p:PQ × Value):List Value:=[.string p.1.name,p.2]
def z3m (ps:List (PQ × Value)):List Value:=ps.flatMap ruleQ
theorem zmp {ps:List (PQ × Value)}{i j:Nat}{p:PQ × Value}(h:ps[i]?=some p)(hj:j<2):(z3m ps)[i*2+j]?=(ruleQ p)[j]?:=zcx ruleQ 2 (fun _=>rfl) ps i p j h hj
def QsAt (w:World)(v:Value)(l:List PQ):Prop:=l.length<=maxLen/\∃vs:List Value,vs.length=l.length/\CellsAt w v l.length (z3m (l.zip vs))/\∀(j:Nat) (q:PQ) (u:Value),l[j]?=some q->vs[j]?=some u->ItemsAt w u q.items
theorem QsAt.kept {k:Nat}{w w':World}{v:Value}{l:List PQ}(h:QsAt w v l)(hb:Below k w w')(hk:w.heap.size<=k):QsAt w' v l:=by
 obtain⟨h1,vs,h2,h3,h4⟩:=h;exact⟨h1,vs,h2,h3.kept hb hk,fun j q u a b=>(h4 j q u a b).kept hb hk⟩
theorem QsAt.slice {w:World}{v:Value}{l:List PQ}(h:QsAt w v l):∃a c,v=.slice a l.length c:=by
 obtain⟨-,vs,-,⟨a,c,e,-⟩,-⟩:=h;exact⟨a,c,e⟩
theorem QsAt.at {w:World}{a:Option Addr}{n c:Nat}{l:List PQ}{i:Nat}{q:PQ}(h:QsAt w (.slice a n c) l)(hx:l[i]?=some q):∃b off ia ic,a=some ⟨b,off,none⟩/\w.cell? ⟨b,off+i*2,none⟩=some (.string q.name)/\w.cell? ⟨b,off+i*2+1,none⟩=some (.slice ia q.items.length ic)/\ItemsAt w (.slice ia q.items.length ic) q.items:=by
 obtain⟨-,vs,h2,⟨a',c',e,-,h⟩,h4⟩:=h;injection e with e1 e2 e3;subst e1;have hil:=(List.getElem?_eq_some_iff.1 hx).1;obtain⟨u,hu⟩:∃u,vs[i]?=some u:=⟨_,List.getElem?_eq_getElem (by omega)⟩;have hz:(l.zip vs)[i]?=some (q,u):=by rw[List.getElem?_zip_eq_some];exact⟨hx,hu⟩
 have hi:=h4 i q u hx hu;obtain⟨ia,ic,rfl⟩:=hi.slice;rcases h with h|⟨b,off,rfl,hc⟩
 ·omega
 ·refine⟨b,off,ia,ic,rfl,?_,?_,hi⟩
  ·have:=hc (i*2+0) _ (zmp hz (by decide));exact this
  ·rw[Nat.add_assoc];exact hc (i*2+1) _ (zmp hz (by decide))
def Bl (w:World)(b:Nat)(t:TypeId)(cs:Array Value):Prop:=w.heap[b]?=some (.cells cs t (0,0))
theorem Bl.lt {w:World}{b:Nat}{t:TypeId}{cs:Array Value}(h:Bl w b t cs):b<w.heap.size:=(Array.getElem?_eq_some_iff.1 h).1
theorem Bl.cell {w:World}{b:Nat}{t:TypeId}{cs:Array Value}(h:Bl w b t cs){o:Nat}{u:Value}(ho:cs[o]?=some u):w.cell? ⟨b,o,none⟩=some u:=zqr h ho
theorem Bl.free {w:World}{b:Nat}{t:TypeId}{cs:Array Value}(h:Bl w b t cs)(o:Nat):w.frozen? ⟨b,o,none⟩=false:=zz2 h o
theorem Bl.below {w w':World}{b:Nat}{t:TypeId}{cs:Array Value}(h:Bl w b t cs)(hb:Below w.heap.size w w'):Bl w' b t cs:=by
 unfold Bl;rw[hb.block b h.lt];exact h
theorem Bl.new (w:World)(t:TypeId)(cs:Array Value):Bl (w.alloc (.cells cs t)) w.heap.size t cs:=heap_alloc_new w _
theorem Bl.set {w:World}{b:Nat}{t:TypeId}{v:Value}(h:Bl w b t #[v])(u:Value):Bl (w.setCell ⟨b,0,none⟩ u) b t #[u]:=heap_setCell_same w b 0 _ _ u h
theorem Bl.other {w:World}{b c o:Nat}{t:TypeId}{cs:Array Value}(h:Bl w b t cs)(hc:b≠c)(u:Value):Bl (w.setCell ⟨c,o,none⟩ u) b t cs:=by
 unfold Bl;rw[heap_setCell_other _ _ _ _ hc];exact h
theorem Bl.grown {w w':World}{b:Nat}{t:TypeId}{cs:Array Value}{r:Option Nat}(h:Bl w b t cs)(hg:w.grownBy w' r)(hr:∀g,r=some g->∃c t' fz,w.heap[g]?=some (.cells c t' fz)/\t≠t'):Bl w' b t cs:=by
 unfold Bl;rw[hg.block b h.lt (fun e=>by
  obtain⟨c,t',fz,h1,h2⟩:=hr b e.symm;unfold Bl at h;rw[h] at h1;injection h1 with h1;injection h1 with _ h1;exact h2 h1)]
 exact h
structure Kp (base xb yb:Nat) (t1:TypeId) (w w':World):Prop where
 os:w'.os=w.os
 tape:w'.tape=w.tape
 output:w'.output=w.output
 size:w.heap.size<=w'.heap.size
 block:∀k,k<w.heap.size->k≠xb->k≠yb->(k<base∨∀c t fz,w.heap[k]?=some (.cells c t fz)->t≠t1)->w'.heap[k]?=w.heap[k]?
section
variable {base xb yb:Nat} {t1:TypeId} {w w1 w2 w':World}
theorem Kp.refl (w:World):Kp base xb yb t1 w w:=⟨rfl,rfl,rfl,Nat.le_refl _,fun _ _ _ _ _=>rfl⟩
theorem Kp.trans (h:Kp base xb yb t1 w w1)(k:Kp base xb yb t1 w1 w2):Kp base xb yb t1 w w2:=
 ⟨k.os.trans h.os,k.tape.trans h.tape,k.output.trans h.output,Nat.le_trans h.size k.size,fun i hi hx hy hc=>by
  have e:=h.block i hi hx hy hc;rw[k.block i (Nat.lt_of_lt_of_le hi h.size) hx hy (by rw[e];exact hc),e]⟩
theorem Kp.of_below (h:Below w.heap.size w w'):Kp base xb yb t1 w w':=⟨h.os,h.tape,h.output,h.size,fun k hk _ _ _=>h.block k hk⟩
theorem Kp.below (h:Kp base xb yb t1 w w')(hx:base<=xb)(hy:base<=yb)(hb:base<=w.heap.size):Below base w w':=
 ⟨h.os,h.tape,h.output,h.size,fun k hk=>h.block k (by omega) (by omega) (by omega) (.inl hk)⟩
theorem Kp.fresh (h:Kp base xb yb t1 w w')(hx:w.heap.size<=xb)(hy:w.heap.size<=yb)(xc yc:Nat):Kp base xc yc t1 w w':=
 ⟨h.os,h.tape,h.output,h.size,fun k hk _ _ hc=>h.block k hk (by omega) (by omega) hc⟩
theorem Kp.set {b o:Nat}{c:Array Value}{t:TypeId}{fz:Nat × Nat}(h:w.heap[b]?=some (.cells c t fz))(hx:b=xb∨b=yb∨(base<=b/\t=t1))(v:Value):Kp base xb yb t1 w (w.setCell ⟨b,o,none⟩ v):=
 ⟨rfl,rfl,rfl,by simp[World.setCell],fun k _ hk hy hc=>heap_setCell_other _ _ _ _ (by
  rintro rfl;rcases hx with e|e|⟨h1,h2⟩
  ·exact hk e
  ·exact hy e
  ·rcases hc with hc|hc
   ·omega
   ·exact hc _ _ _ h h2)⟩
theorem Kp.grown {r:Option Nat}(hg:w.grownBy w' r)(hr:∀g,r=some g->base<=g/\∃c fz,w.heap[g]?=some (.cells c t1 fz)):Kp base xb yb t1 w w':=
 ⟨hg.os,hg.tape,hg.output,hg.size,fun k hk _ _ hc=>hg.block k hk (by
  intro e;obtain⟨h1,c,fz,h2⟩:=hr k e.symm;rcases hc with hc|hc
  ·omega
  ·exact hc _ _ _ h2 rfl)⟩
theorem Kp.own (h:Kp base xb yb t1 w w'){b':Nat}{e:TypeId}{size n:Nat}{v:Value}{xs:List Value}(hv:w.ownsRow b' e size v n xs)(h1:e≠t1)(hx:v.ownBlock≠some xb)(hy:v.ownBlock≠some yb):w'.ownsRow b' e size v n xs:=by
 obtain⟨hl,hv⟩:=hv;refine⟨hl,?_⟩;rcases hv with hv|⟨g,cap,cur,rfl,hb,hh,hr⟩
 ·exact .inl hv
 ·refine .inr ⟨g,cap,cur,rfl,hb,?_,hr⟩
  rw[h.block g (Array.getElem?_eq_some_iff.1 hh).1 (fun e=>hx (by rw[e];rfl)) (fun e=>hy (by rw[e];rfl)) (.inr fun c t fz hc=>by
   rw[hh] at hc;injection hc with hc;injection hc with _ hc _;subst hc;exact h1)]
  exact hh
theorem Kp.bl (h:Kp base xb yb t1 w w'){b:Nat}{t:TypeId}{cs:Array Value}(hv:Bl w b t cs)(hx:b≠xb)(hy:b≠yb)(ht:t≠t1):Bl w' b t cs:=by
 unfold Bl;rw[h.block b hv.lt hx hy (.inr fun c t fz hc=>by
  unfold Bl at hv;rw[hv] at hc;injection hc with hc;injection hc with _ hc _;subst hc;exact ht)]
 exact hv
theorem Kp.late {W W':World}(h:Kp base xb yb t1 w W){r:Option Nat}(hg:W.grownBy W' r)(hr:∀g,r=some g->w.heap.size<=g):Kp base xb yb t1 w W':=
 ⟨hg.os.trans h.os,hg.tape.trans h.tape,hg.output.trans h.output,Nat.le_trans h.size hg.size,fun k hk hx hy hc=>by
  rw[hg.block k (Nat.lt_of_lt_of_le hk h.size) (fun e=>by have:=hr k e.symm;omega)];exact h.block k hk hx hy hc⟩
end
theorem zee {w:World}{base:Nat}{e:TypeId}{size n:Nat}{v:Value}{xs:List Value}(h:w.ownsRow base e size v n xs){b:Nat}(hb:w.heap.size<=b):v.ownBlock≠some b:=fun e=>by
 have:=(h.lt b e).2;omega
def NRow (base:Nat)(v:Value)(ns:List PN)(qs:List Value)(w:World):Prop:=qs.length=ns.length/\w.ownsRow base 51 7 v ns.length (zci (ns.zip qs)) /\
 ∀(j:Nat) (n:PN) (q:Value),ns[j]?=some n->qs[j]?=some q->w.ownsRow base 3 1 q n.kids.length (intsV n.kids)
theorem NRow.nil (base:Nat)(w:World):NRow base (.slice none 0 0) [] [] w:=⟨rfl,World.ownsRow_nil _ _ _ _,fun j n q h _=>by simp at h⟩
theorem NRow.grown {base:Nat}{v:Value}{ns:List PN}{qs:List Value}{w w':World}(h:NRow base v ns qs w)(hb:Below w.heap.size w w'):NRow base v ns qs w':=
 ⟨h.1,zaa h.2.1 hb,fun j n q a b=>zaa (h.2.2 j n q a b) hb⟩
theorem NRow.nodes {base:Nat}{v:Value}{ns:List PN}{qs:List Value}{w:World}(h:NRow base v ns qs w)(hl:ns.length<=maxLen)(hk:∀n,n ∈ ns->n.kids.length<=maxLen):NodesAt w v ns:=
 NodesAt.of_own h.2.1 h.1 hl (fun i n q a b=>⟨IntsAt.of_own (h.2.2 i n q a b),hk n (List.mem_of_getElem? a)⟩)
end
section
open Go.RowKit
theorem Bl.ne {w:World}{b c:Nat}{t t':TypeId}{x y:Array Value}(h:Bl w b t x)(k:Bl w c t' y)(ht:t≠t'):b≠c:=by
 rintro rfl;unfold Bl at h k;rw[h] at k;injection k with k;injection k with _ k;exact ht k
theorem NRow.set {base:Nat}{v:Value}{ns:List PN}{qs:List Value}{w:World}(h:NRow base v ns qs w){b o:Nat}(hb:v.ownBlock≠some b)(hq:∀q,q ∈ qs->q.ownBlock≠some b)(u:Value):NRow base v ns qs (w.setCell ⟨b,o,none⟩ u):=
 ⟨h.1,ownsRow_setCell_other h.2.1 (a:=⟨b,o,none⟩) hb u,fun j n q a c=>ownsRow_setCell_other (h.2.2 j n q a c) (a:=⟨b,o,none⟩) (hq q (List.mem_of_getElem? c)) u⟩
theorem own_ne {w:World}{base:Nat}{e t:TypeId}{size n b:Nat}{v:Value}{xs:List Value}{cs:Array Value}(h:w.ownsRow base e size v n xs)(hb:Bl w b t cs)(he:e≠t):v.ownBlock≠some b:=za9 h ⟨_,_,hb⟩ he
end
section
open Go.RowKit
theorem Bl.new' {w:World}{B:Nat}{t:TypeId}{cs:Array Value}(hB:B=w.heap.size):Bl (w.alloc (.cells cs t)) B t cs:=by subst hB;exact Bl.new w t cs
theorem Bl.drew {w:World}{b:Nat}{t:TypeId}{cs:Array Value}(h:Bl w b t cs):Bl w.drew b t cs:=h
theorem Bl.past {w:World}{b:Nat}{t:TypeId}{cs:Array Value}{o:Obj}(h:Bl w b t cs):Bl (w.alloc o) b t cs:=h.below (zab w o)
theorem zaw {ops:Array Oper}{o:Oper}{a:Act}{w:World}{K:Act->World->Prop}{Q:Exit->Act->World->Prop}{E:Prop}(hgd:o.guard=none)(s x:Operand)(t:TypeId)
  (ho:o.op=.call { callee:=.builtin .append,args:=#[s,x],argTypes:=#[t,t] })
  (base:Nat) (e:TypeId) (i:TypeInfo) (z:Value) (size bytes:Nat) (ht:Tryz.prog.underlying t=some (.slice e)) (hi:Tryz.prog.info? e=some i) (hz:i.zero=some z)
  (hsize:i.size=size) (hby:i.bytes=bytes) (hzs:z.cells.size=size) (hsz:0<size) (v:Value) (n:Nat) (xs:List Value) (hs:a.eval s=v) (hown:w.ownsRow base e size v n xs)
  (ad:Addr) (m c:Nat) (news:List Value) (hx:a.eval x=.slice (some ad) m c) (hl:news.length=m*size) (hnews:∀j u,news[j]?=some u->w.cell? (ad.add j)=some u) (h1:∀u ∈ news,u.oneCell'=true)
  (h63:n+m<=maxLen) (hbytes:(n+m)*bytes<=140737488355328) (hbase:base<=w.heap.size)
  (h:∀a' cap' w',w'.ownsRow base e size (.slice a' (n+m) cap') (n+m) (xs++news)->w.grownBy w' v.ownBlock->((Value.slice a' (n+m) cap').ownBlock=v.ownBlock∨(Value.slice a' (n+m) cap').ownBlock=some w.heap.size)->K (a.put o.dst (.slice a' (n+m) cap')) w') :
  if Region.wanted o (yielded ops a.tmps)=true then Oper.wp Tryz.prog o a w K Q else E:=by
 have hw:Region.wanted o (yielded ops a.tmps)=true:=by simp[Region.wanted,hgd]
 rw[if_pos hw];obtain⟨v',w',hr,h2,h3,-,h5⟩:=run_append_own_at (P:=Tryz.prog) w base t o.type e i z size bytes ht hi hz hsize hby hzs hsz v n xs hown ad m c news hl hnews h1 h63 hbytes hbase;obtain⟨a',cap',rfl⟩:∃a' c',v'=.slice a' (n+m) c':=by
  rcases h2.2 with⟨e,e0⟩|⟨g,cap,cur,e,-⟩
  ·exact⟨none,0,by rw[e,e0]⟩
  ·exact⟨_,_,e⟩
 unfold Oper.wp execOp;simp only[ho,resolve,invoke,builtin,Sem.run_bind,Sem.run_pure,Result.andThen_ok,List.map_toArray,List.map_cons,List.map_nil,hs,hx,hr];exact h a' cap' w' h2 h3 h5
theorem Bl.news {W:World}{b:Nat}{t:TypeId}{cs:List Value}(h:Bl W b t cs.toArray):∀j u,cs[j]?=some u->W.cell? ((⟨b,0,none⟩:Addr).add j)=some u:=fun j u hu=>by
 rw[Addr.add_lit,Nat.zero_add];exact h.cell (by rw[List.getElem?_toArray];exact hu)
theorem zae {n0:Nat}{wr W:World}(h:Below n0 wr W)(hn:n0=wr.heap.size)(o:Obj):Below n0 wr (W.alloc o):=h.alloc (by rw[hn];exact h.size) o
end
open Go.RowKit
end Go.Proofs.YthhppmehhdlmnaaGreatDoor
