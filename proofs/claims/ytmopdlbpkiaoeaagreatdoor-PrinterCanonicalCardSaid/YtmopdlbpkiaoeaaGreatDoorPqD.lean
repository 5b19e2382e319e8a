/- '==' between two sets and between two rules, as operations of a walk. No walk. Grammars in memory; comparison of slices of numbers, of rules, of nodes; gram.Sam -/
import Derived.ChangeKeysEq
import Derived.Laws.StructEq
import Derived.OwnWalkIn
import Derived.TacticsInMore
import Derived.BigQuiet
import Derived.Deep.QuietTactic
import Derived.Maps.AppendAt
import Derived.Laws.AppendOwnNone
import Derived.Lib.OwnKind
import Derived.Deep.AppendSrc
import Derived.Deep.RegionWith
import Derived.Deep.RegionLaw
import Derived.Deep.AppendLies
import Derived.Deep.Cut
import Derived.Test.YtmopdlbpkiaoeaaGreatDoorPqC
set_option maxRecDepth 100000
set_option maxHeartbeats 1000000
open Go.IntKind renaming i64->jd, u64->jg
open Go.Value renaming int->je, slice->jf, string->jh
namespace Go.Proofs.YtmopdlbpkiaoeaaGreatDoor
open _root_.Array renaming getElem?_eq_some_iff->qbd
open Go.Addr renaming add_lit->qce
open Go.Proofs.Tryz renaming prog->qab
open List renaming getElem?_eq_getElem->qae, getElem?_eq_some_iff->qag, getElem?_map->qax, length_eq_zero_iff->qbm
open Nat renaming le_refl->qac, zero_add->qbc
open Option.some renaming inj->qar
open Go.RowKit
variable {cs:Array Value}{l:List Int}{ns:List PN}{rs:List PR}{qs xs:List Value}{b base c g i j k n o size:Nat}{r:PR}{e t:TypeId}{u v:Value}{W w w':World}
theorem zl0 (k:Nat)(a b:Int)(w:World):(Op.equalIn (k+1) 39 (je jg a) (je jg b)).run qab w=.ok (a == b) w:=run_equalIn_int (P:=qab) w k 39 .u64 .u64 a b Tryz.underlying39
theorem gpt0 (x y z u:Value)(w:World):(Go.part 39 #[x,y,z,u] 0).run qab w=.ok x w:=jb
theorem gpt1 (x y z u:Value)(w:World):(Go.part 39 #[x,y,z,u] 1).run qab w=.ok y w:=jb
theorem gpt2 (x y z u:Value)(w:World):(Go.part 39 #[x,y,z,u] 2).run qab w=.ok z w:=jb
theorem gpt3 (x y z u:Value)(w:World):(Go.part 39 #[x,y,z,u] 3).run qab w=.ok u w:=jb
theorem zs7:qab.cellsOf 39=1:=jb
theorem zzw:qab.underlying 41=some (.array 4 39):=jb
theorem zv8:∃i,qab.info? 39=some i:=Option.isSome_iff_exists.1 jb
theorem zv9 (k:Nat)(a b c d x y z u:Int)(w:World) :
  (Op.equalIn (k+2) 41 (.agg #[je jg a,je jg b,je jg c,je jg d]) (.agg #[je jg x,je jg y,je jg z,je jg u])).run qab w=.ok (a == x&&(b == y&&(c == z&&d == u))) w:=by
 obtain⟨i,hi⟩:=zv8;rw[run_equalIn_array w (k+1) _ _ zzw hi,show List.range 4=[0,1,2,3] from rfl];have e1:=zl0 k a x;have e2:=zl0 k b y;have e3:=zl0 k c z;have e4:=zl0 k d u;generalize (a == x)=r1 at *;generalize (b == y)=r2 at *;generalize (c == z)=r3 at *;generalize (d == u)=r4 at *;cases r1<;>cases r2<;>cases r3<;>cases r4<;>simp[Op.eqItems,zs7,gpt0,gpt1,gpt2,gpt3,e1,e2,e3,e4]
theorem zzx (a b c d x y z u:Int)(w:World) :
  (binOp .eql 41 (.agg #[je jg a,je jg b,je jg c,je jg d]) (.agg #[je jg x,je jg y,je jg z,je jg u])).run qab w=.ok (.bool (a == x&&(b == y&&(c == z&&d == u)))) w:=by
 have h:(Op.equal 41 (.agg #[je jg a,je jg b,je jg c,je jg d]) (.agg #[je jg x,je jg y,je jg z,je jg u])).run qab w=_:=zv9 9998 a b c d x y z u w;simp[binOp,h]
theorem zl1 (a b c d x y z u:Int)(w:World) :
  (binOp .neq 41 (.agg #[je jg a,je jg b,je jg c,je jg d]) (.agg #[je jg x,je jg y,je jg z,je jg u])).run qab w=.ok (.bool (!(a == x&&(b == y&&(c == z&&d == u))))) w:=by
 have h:(Op.equal 41 (.agg #[je jg a,je jg b,je jg c,je jg d]) (.agg #[je jg x,je jg y,je jg z,je jg u])).run qab w=_:=zv9 9998 a b c d x y z u w;simp[binOp,h]
theorem zal:qab.eqGuardType qab.depth 41=false:=jb
theorem zwa {o:Oper}{a:Act}(op:BinOp)(t u:TypeId)(x y:Operand)(ho:o.op=.binOp op t x y u)(xs ys:Array Value)(hx:a.eval x=.agg xs)(hy:a.eval y=.agg ys)
  (hm:qab.eqGuardType qab.depth t=false) (v:Value) (hv:(binOp op t (.agg xs) (.agg ys)).run qab w=.ok v w):(execOp a.eval o).run qab w=.ok (.value v) w:=by
 have hg:=run_eqGuard_agg w op t x y xs ys hm;unfold execOp;rw[ho];show((eqGuard op t x y (a.eval x) (a.eval y) >>= fun _=>binOp op t (a.eval x) (a.eval y)) >>= fun s=>pure (Next.value s)).run qab w=_;rw[hx,hy,Sem.run_bind,Sem.run_bind,hg,Result.andThen_ok,hv,Result.andThen_ok];rfl
theorem zaf {ops:Array Oper}{rest:List Oper}{o:Oper}{a:Act}{Q:Exit->Act->World->Prop}(op:BinOp)(t u:TypeId)(x y:Operand)(ho:o.op=.binOp op t x y u)
  (hw:Region.wanted o (yielded ops a.tmps)=true) (xs ys:Array Value) (hx:a.eval x=.agg xs) (hy:a.eval y=.agg ys)
  (hm:qab.eqGuardType qab.depth t=false) (v:Value) (hv:(binOp op t (.agg xs) (.agg ys)).run qab w=.ok v w) (h:wpList qab ops Q rest (a.put o.dst v) w):wpList qab ops Q (o::rest) a w:=
 wpList_step fun K hK=>by
  rw[if_pos hw];show o.upon qab a K Q ((execOp a.eval o).run qab w);rw[zwa op t u x y ho xs ys hx hy hm v hv];exact hK _ _ h
def intsV (l:List Int):List Value:=l.map fun k=>Value.int .i64 k
def IntsAt (w:World)(v:Value)(l:List Int):Prop:=∃a cap,v=jf a l.length cap/\(l=[]∨∃b off,a=some ⟨b,off,none⟩/\∀i x,l[i]?=some x->w.cell? ⟨b,off+i,none⟩=some (je jd x))
theorem decN {p:Prop}[Decidable p](h:¬p):Hid (decide p=false):=Lib.hid (decide_eq_false h)
theorem decY {p:Prop}[Decidable p](h:p):Hid (decide p=true):=Lib.hid (decide_eq_true h)
theorem zta (u v:Value)(l m:List Int)(w:World)(hl:l.length<=maxLen)(hu:IntsAt w u l)(hv:IntsAt w v m) :
  Calls qab 93 #[u,v] w fun e w'=>e=.returned (.bool (decide (l=m)))/\∃q,w'=w.drewN q:=by
 unfold maxLen at hl;obtain⟨a,ca,rfl,ha⟩:=hu;obtain⟨b,cb,rfl,hb⟩:=hv;by_cases hlen:l.length=m.length
 ·have q1:((l.length:Int) != (m.length:Int))=false:=by rw[hlen];simp
  go_enter Tryz.func93,Tryz.ntmps93;go_wp2
  go_loopw [13] (fun c wr=>∃(k q:Nat),k<=l.length/\c=je jd k/\wr=w.drewN q/\l.take k=m.take k) (fun c _=>l.length-(intOf c).toNat)
  case atStart=>exact⟨0,0,Nat.zero_le _,rfl,rfl,rfl⟩
  case round=>
   obtain⟨k,q,hk,rfl,rfl,hq⟩:=hrel;have HQ:=Lib.hid hq;clear hq;by_cases hlt:k<l.length
   ·obtain⟨x,hx⟩:∃x,l[k]?=some x:=⟨_,qae hlt⟩
    obtain⟨y,hy⟩:∃y,m[k]?=some y:=⟨_,qae U⟩;rcases ha with h0|⟨ab,ao,rfl,hca⟩
    ·rw[h0] at hlt;exact absurd hlt (Nat.not_lt_zero _)
    rcases hb with h0|⟨bb,bo,rfl,hcb⟩
    ·rw[hlen,h0] at hlt;exact absurd hlt (Nat.not_lt_zero _)
    have c1:=hca k x hx;have c2:=hcb k y hy;have hlm:k<m.length:=U
    have k1:(k:Int)<(l.length:Int):=U
    have k2:(k:Int)<(m.length:Int):=U
    have HX:=Lib.hid hx;have HY:=Lib.hid hy;have HL:=Lib.hid hlen;clear hca hcb hx hy hlen;by_cases hxy:x=y
    ·subst hxy
     have q2:(x != x)=false:=jc
     go_wp2;go_quiet (fail);go_wp2;go_roundw
     case rel=>exact⟨k+1,_,U,by go_num,rfl,by rw[za3 l k x HX.out,za3 m k x HY.out,HQ.out]⟩
     case measure=>simp[intOf];omega
    ·have q2:(x != y)=true:=zah hxy
     have HN:Hid (decide (l=m)=false):=decN fun e=>by
      have h1:=HX.out;rw[e,HY.out] at h1;exact hxy (qar h1).symm
     go_wp2;go_quiet (fail);go_wp2;go_ret;exact⟨zap HN.out.symm,_,World.drewN_drewN _ _ _⟩
   ·have HN:Hid (decide (l=m)=true):=decY (by
     have hk':k=l.length:=U
     have h1:=HQ.out;rw[List.take_of_length_le U,List.take_of_length_le U] at h1;exact h1)
    have k1:¬(k:Int)<(l.length:Int):=U
    go_wp2;go_ret;exact⟨zap HN.out.symm,_,rfl⟩
 ·have q1:((l.length:Int) != (m.length:Int))=true:=zah U
  have HN:Hid (decide (l=m)=false):=decN fun e=>hlen (by rw[e])
  go_enter Tryz.func93,Tryz.ntmps93;go_wp2;go_ret;exact⟨zap HN.out.symm,0,rfl⟩
theorem IntsAt.kept (h:IntsAt w v l)(hb:Below n w w')(hn:w.heap.size<=n):IntsAt w' v l:=by
 obtain⟨a,cap,rfl,h⟩:=h;rcases h with h|⟨b,off,rfl,hc⟩
 ·exact⟨a,cap,rfl,.inl h⟩
 ·exact⟨_,cap,rfl,.inr ⟨b,off,rfl,fun i c hi=>by have:=zai (hc i c hi);rw[(bcell hb).1 _ _ U];exact hc i c hi⟩⟩
def NodeAt (w:World)(b o:Nat)(n:PN):Prop:=∃kv,w.cell? ⟨b,o,none⟩=some (je jd n.op)/\w.cell? ⟨b,o+1,none⟩=some kv/\w.cell? ⟨b,o+2,none⟩=some (je jd n.rule)/\w.cell? ⟨b,o+3,none⟩=some (je jg n.s0)/\w.cell? ⟨b,o+4,none⟩=some (je jg n.s1)/\w.cell? ⟨b,o+5,none⟩=some (je jg n.s2)/\w.cell? ⟨b,o+6,none⟩=some (je jg n.s3)/\IntsAt w kv n.kids/\n.kids.length<=maxLen
def RuleAt (w:World)(b o:Nat)(r:PR):Prop:=w.cell? ⟨b,o,none⟩=some (jh r.name)/\w.cell? ⟨b,o+1,none⟩=some (je jd r.root)
def NodesAt (w:World)(v:Value)(ns:List PN):Prop:=ns.length<=maxLen/\∃a cap,v=jf a ns.length cap/\(ns=[]∨∃b off,a=some ⟨b,off,none⟩/\∀i n,ns[i]?=some n->NodeAt w b (off+i*7) n)
def RulesIn (w:World)(v:Value)(rs:List PR):Prop:=rs.length<=maxLen/\∃a cap,v=jf a rs.length cap/\(rs=[]∨∃b off,a=some ⟨b,off,none⟩/\∀i r,rs[i]?=some r->RuleAt w b (off+i*2) r)
theorem NodeAt.kept {n:PN}(h:NodeAt w b o n)(hb:Below k w w')(hk:w.heap.size<=k):NodeAt w' b o n:=by
 obtain⟨kv,h0,h1,h2,h3,h4,h5,h6,h7,h8⟩:=h;have hl:=zai h0;have hc:=fun o=>(bcell hb).1 b o U
 exact⟨kv,by rw[hc];exact h0,by rw[hc];exact h1,by rw[hc];exact h2,by rw[hc];exact h3,by rw[hc];exact h4,by rw[hc];exact h5,by rw[hc];exact h6,h7.kept hb hk,h8⟩
theorem RuleAt.kept (h:RuleAt w b o r)(hb:Below k w w')(hk:w.heap.size<=k):RuleAt w' b o r:=by
 obtain⟨h0,h1⟩:=h;have hl:=zai h0;have hc:=fun o=>(bcell hb).1 b o U
 exact⟨by rw[hc];exact h0,by rw[hc];exact h1⟩
theorem NodesAt.kept (h:NodesAt w v ns)(hb:Below k w w')(hk:w.heap.size<=k):NodesAt w' v ns:=by
 obtain⟨hl,a,cap,rfl,h⟩:=h;rcases h with h|⟨b,off,rfl,hc⟩
 ·exact⟨hl,a,cap,rfl,.inl h⟩
 ·exact⟨hl,_,cap,rfl,.inr ⟨b,off,rfl,fun i c hi=>(hc i c hi).kept hb hk⟩⟩
theorem RulesIn.kept (h:RulesIn w v rs)(hb:Below k w w')(hk:w.heap.size<=k):RulesIn w' v rs:=by
 obtain⟨hl,a,cap,rfl,h⟩:=h;rcases h with h|⟨b,off,rfl,hc⟩
 ·exact⟨hl,a,cap,rfl,.inl h⟩
 ·exact⟨hl,_,cap,rfl,.inr ⟨b,off,rfl,fun i c hi=>(hc i c hi).kept hb hk⟩⟩
theorem zeq {s t:ByteArray}:(s.toList == t.toList)=decide (s=t):=by
 by_cases h:s=t
 ·subst h;simp
 ·rw[decide_eq_false h,beq_eq_false_iff_ne]
  intro e;rw[ByteArray.toList_eq,ByteArray.toList_eq] at e;exact h (ByteArray.ext (Array.ext' e))
theorem zaa (w:World)(o:Obj):Below w.heap.size w (w.alloc o):=(Below.refl _ _).alloc (qac _) _
theorem zd1:(qab.info? 3).map (fun i=>(i.zero,i.size,i.bytes))=some (some (je jd 0),1,8):=jb
theorem zbo (w:World)(o o':Obj):Below w.heap.size w ((w.alloc o).alloc o'):=((Below.refl _ _).alloc (qac _) _).alloc jc _
end Go.Proofs.YtmopdlbpkiaoeaaGreatDoor
namespace Go.Proofs.YtmopdlbpkiaoeaaGreatDoor
open _root_.Array renaming getElem?_eq_some_iff->qbd
open Go.Addr renaming add_lit->qce
open Go.Proofs.Tryz renaming prog->qab
open List renaming getElem?_eq_getElem->qae, getElem?_eq_some_iff->qag, getElem?_map->qax, length_eq_zero_iff->qbm
open Nat renaming le_refl->qac, zero_add->qbc
open Option.some renaming inj->qar
variable {cs:Array Value}{l:List Int}{ns:List PN}{rs:List PR}{qs xs:List Value}{b base c g i j k n o size:Nat}{r:PR}{e t:TypeId}{u v:Value}{W w w':World}
section
open Go.RowKit
theorem zja {P:Program}(w:World)(t ty e:TypeId)(i:TypeInfo)(ht:P.underlying t=some (.slice e))(hi:P.info? e=some i)(c:Nat):(Builtin.append_ #[t,t] ty #[jf none 0 0,jf none 0 c]).run P w=.ok (jf none 0 0) w:=by
 simp[Builtin.append_,run_underlying ht,sizeOf,typeInfo,hi,Builtin.lenOf,Builtin.firstCells]
theorem zjb {P:Program}(w:World)(t ty e:TypeId)(i:TypeInfo)(ht:P.underlying t=some (.slice e))(hi:P.info? e=some i)(a:Option Addr)(c:Nat):(Builtin.append_ #[t,t] ty #[jf none 0 0,jf a 0 c]).run P w=.ok (jf none 0 0) w:=by
 cases a with
 |none=>exact zja w t ty e i ht hi c
 |some a=>
  have h:=run_firstCells_some (P:=P) w i.size 0 a 0 c [] jc (fun j u h=>by simp at h);simp[Builtin.append_,run_underlying ht,sizeOf,typeInfo,hi,Builtin.lenOf,h]
theorem zh3 {P:Program}(w:World)(base:Nat)(t ty e:TypeId)(i:TypeInfo)(z:Value)(size bytes:Nat)(ht:P.underlying t=some (.slice e))(hi:P.info? e=some i)(hz:i.zero=some z)
  (hsize:i.size=size) (hby:i.bytes=bytes) (hzs:z.cells.size=size) (hsz:0<size)
  (a:Option Addr) (m c:Nat) (news:List Value) (hl:news.length=m*size) (ha:m=0∨∃b off,a=some ⟨b,off,none⟩/\∀j u,news[j]?=some u->w.cell? ⟨b,off+j,none⟩=some u) (h1:∀u ∈ news,u.oneCell'=true)
  (h63:m<=maxLen) (hbytes:m*bytes<=140737488355328) (hbase:base<=w.heap.size) :
  ∃v' w',(Builtin.append_ #[t,t] ty #[jf none 0 0,jf a m c]).run P w=.ok v' w'/\w'.ownsRow base e size v' m news/\w.grownBy w' none/\∀b o,w.heap.size<=b->w'.heap[b]?=some o->∃cs,o=.cells cs e (0,0):=by
 rcases Nat.eq_zero_or_pos m with h0|h0
 ·subst h0
  obtain rfl:news=[]:=qbm.1 (by rw[hl,Nat.zero_mul]);exact⟨_,_,zjb w t ty e i ht hi a c,World.ownsRow_nil _ _ _ _,⟨rfl,rfl,rfl,qac _,fun _ _ _=>rfl⟩,fun b o hb ho=>by rw[Array.getElem?_eq_none hb] at ho;cases ho⟩
 ·rcases ha with h|⟨b,off,rfl,hc⟩
  ·omega
  have hn:∀j u,news[j]?=some u->w.cell? ((⟨b,off,none⟩:Addr).add j)=some u:=fun j u h=>by rw[qce];exact hc j u h
  obtain⟨v',w',hr,h2,h3,-,-⟩:=run_append_own_at (P:=P) w base t ty e i z size bytes ht hi hz hsize hby hzs hsz (jf none 0 0) 0 [] (World.ownsRow_nil _ _ _ _) ⟨b,off,none⟩ m c news hl hn h1 (by rw[qbc];exact h63) (by rw[qbc];exact hbytes) hbase;rw[qbc,List.nil_append] at h2;refine⟨v',w',hr,h2,h3,fun k o hk ho=>?_⟩;have hS:Src P i.size t (jf (some ⟨b,off,none⟩) m c) m news w:=Src.ofSlice w ht ⟨b,off,none⟩ m c news (by rw[hsize];exact hl) hn h1;have hg:=run_append_grow_src (P:=P) w t t ty e i z ht hi hz none 0 0 [] (run_firstCells_none w.drew i.size 0 0 0) _ m news hS U (by unfold maxLen at h63;omega) (by
   have:Builtin.nextslicecap (0+m) 0=m:=by
    unfold Builtin.nextslicecap;simp;omega
   rw[this,hby];omega)
  rw[hr] at hg;injection hg with _ hw;rw[hw] at ho;have hkl:k=w.heap.size:=by
   rcases Nat.lt_or_ge k (w.drew.alloc (.cells (([]++news).toArray++Builtin.zeroCells z.cells (grownCap w (0+m) 0 e-(0+m))) e)).heap.size with h|h
   ·rw[World.size_alloc] at h
    have:w.drew.heap.size=w.heap.size:=rfl;omega
   ·rw[Array.getElem?_eq_none h] at ho;cases ho
  subst hkl;have hnew:=heap_alloc_new w.drew (.cells (([]++news).toArray++Builtin.zeroCells z.cells (grownCap w (0+m) 0 e-(0+m))) e);have hsz2:w.drew.heap.size=w.heap.size:=rfl;rw[hsz2] at hnew;rw[hnew] at ho;exact⟨_,(qar ho).symm⟩
theorem zd2 {α:Type}(f:α->List Value)(k:Nat)(hk:∀x,(f x).length=k):∀(l:List α) (i:Nat) (x:α) (j:Nat),l[i]?=some x->j<k->(l.flatMap f)[i*k+j]?=(f x)[j]?
 | [],i,x,j,h,_=>by simp at h
 |y::r,0,x,j,h,hj=>by
  obtain rfl:y=x:=by simpa using h
  rw[List.flatMap_cons,Nat.zero_mul,qbc,List.getElem?_append_left (by rw[hk];exact hj)]
 |y::r,i+1,x,j,h,hj=>by
  have ih:=zd2 f k hk r i x j (by simpa using h) hj;rw[List.flatMap_cons,List.getElem?_append_right (by rw[hk,Nat.succ_mul];omega),hk,show(i+1)*k+j-k=i*k+j by rw[Nat.succ_mul];omega];exact ih
theorem zf1 {α:Type}(f:α->List Value)(k:Nat)(hk:∀x,(f x).length=k):∀(l:List α),(l.flatMap f).length=l.length*k
 | []=>jc
 |y::r=>by rw[List.flatMap_cons,List.length_append,hk,zf1 f k hk r,List.length_cons,Nat.succ_mul];omega
theorem zrk {α:Type}(f:α->List Value)(k:Nat)(hk:∀x,(f x).length=k)(h0:0<k)(l:List α)(m:Nat)(u:Value)(h:(l.flatMap f)[m]?=some u):∃i j x,m=i*k+j/\j<k/\l[i]?=some x/\(f x)[j]?=some u:=by
 have hm:=(qag.1 h).1;rw[zf1 f k hk] at hm;have hi:m/k<l.length:=(Nat.div_lt_iff_lt_mul h0).2 hm;have hj:m%k<k:=Nat.mod_lt _ h0;have e:m=m/k*k+m%k:=by rw[Nat.mul_comm];exact(Nat.div_add_mod m k).symm
 refine⟨m/k,m%k,l[m/k],e,hj,qae hi,?_⟩;rw[<-zd2 f k hk l (m/k) _ (m%k) (qae hi) hj,<-e];exact h
def ruleC (r:PR):List Value:=[jh r.name,je jd r.root]
def zb5 (rs:List PR):List Value:=rs.flatMap ruleC
def nodeC (p:PN × Value):List Value:=[je jd p.1.op,p.2,je jd p.1.rule,je jg p.1.s0,je jg p.1.s1,je jg p.1.s2,je jg p.1.s3]
def zbs (ps:List (PN × Value)):List Value:=ps.flatMap nodeC
theorem zjc (h:rs[i]?=some r)(hj:j<2):(zb5 rs)[i*2+j]?=(ruleC r)[j]?:=zd2 ruleC 2 (fun _=>rfl) rs i r j h hj
theorem zds {ps:List (PN × Value)}{p:PN × Value}(h:ps[i]?=some p)(hj:j<7):(zbs ps)[i*7+j]?=(nodeC p)[j]?:=zd2 nodeC 7 (fun _=>rfl) ps i p j h hj
theorem RulesIn.cells (h:RulesIn w v rs):∃a cap,v=jf a rs.length cap/\(rs.length=0∨∃b off,a=some ⟨b,off,none⟩/\∀j u,(zb5 rs)[j]?=some u->w.cell? ⟨b,off+j,none⟩=some u):=by
 obtain⟨-,a,cap,rfl,h⟩:=h;refine⟨a,cap,rfl,?_⟩;rcases h with h|⟨b,off,rfl,hc⟩
 ·left;rw[h];rfl
 ·right
  refine⟨b,off,rfl,fun m u hu=>?_⟩;obtain⟨i,j,x,rfl,hj,hx,hxu⟩:=zrk ruleC 2 (fun _=>rfl) ja rs m u hu;obtain⟨c0,c1⟩:=hc i x hx
  match j,hj,hxu with
  |0,_,hxu=>
          obtain rfl:_=u:=by simpa [ruleC] using hxu
          exact c0
  |1,_,hxu=>
          obtain rfl:_=u:=by simpa [ruleC] using hxu
          exact c1
theorem RulesIn.of_own (h:w.ownsRow base 32 2 v rs.length (zb5 rs))(hl:rs.length<=maxLen):RulesIn w v rs:=by
 refine⟨hl,?_⟩;have h':=h;rcases h.2 with⟨rfl,h0⟩|⟨g,cap,cur,rfl,-⟩
 ·exact⟨none,0,by rw[h0],.inl (qbm.1 h0)⟩
 ·refine⟨_,cap,rfl,.inr ⟨g,0,rfl,fun i r hr=>?_⟩⟩
  have hc:∀j u,(zb5 rs)[j]?=some u->w.cell? ⟨g,0+j,none⟩=some u:=fun j u hu=>by
   have:=h'.cells rfl j u hu;rw[qce] at this;exact this
  exact⟨by have:=hc (i*2+0) _ (zjc hr ja);exact this,by have:=hc (i*2+1) _ (zjc hr ja);exact this⟩
theorem z6l {n:PN}{q:Value}(h1:ns[i]?=some n)(h2:qs[i]?=some q):(ns.zip qs)[i]?=some (n,q):=by
 rw[List.getElem?_zip_eq_some];exact⟨h1,h2⟩
theorem zwb {p:PN × Value}(h:(ns.zip qs)[i]?=some p):ns[i]?=some p.1/\qs[i]?=some p.2:=by
 have:=List.getElem?_zip_eq_some.1 h;exact this
theorem NodesAt.cells (h:NodesAt w v ns):∃(qs:List Value) (a:Option Addr) (cap:Nat),qs.length=ns.length/\v=jf a ns.length cap/\(ns.length=0∨∃b off,a=some ⟨b,off,none⟩/\∀j u,(zbs (ns.zip qs))[j]?=some u->w.cell? ⟨b,off+j,none⟩=some u) /\
  ∀(i:Nat) (n:PN) (q:Value),ns[i]?=some n->qs[i]?=some q->IntsAt w q n.kids/\n.kids.length<=maxLen:=by
 obtain⟨-,a,cap,rfl,h⟩:=h;rcases h with h|⟨b,off,rfl,hc⟩
 ·exact⟨[],a,cap,by rw[h];rfl,rfl,.inl (by rw[h];rfl),fun i n q h1 h2=>by rw[h] at h1;simp at h1⟩
 ·have hx:∀i,∃kv,∀n,ns[i]?=some n->(w.cell? ⟨b,off+i*7,none⟩=some (je jd n.op)/\w.cell? ⟨b,off+i*7+1,none⟩=some kv/\w.cell? ⟨b,off+i*7+2,none⟩=some (je jd n.rule)/\w.cell? ⟨b,off+i*7+3,none⟩=some (je jg n.s0)/\w.cell? ⟨b,off+i*7+4,none⟩=some (je jg n.s1)/\w.cell? ⟨b,off+i*7+5,none⟩=some (je jg n.s2)/\w.cell? ⟨b,off+i*7+6,none⟩=some (je jg n.s3)/\IntsAt w kv n.kids/\n.kids.length<=maxLen):=fun i=>by
   cases hn:ns[i]? with
   |none=>exact⟨.nilIface,fun n h=>by cases h⟩
   |some n=>
    obtain⟨kv,hh⟩:=hc i n hn;exact⟨kv,fun m hm=>by cases hm;exact hh⟩
  refine⟨(List.range ns.length).map fun i=>Classical.choose (hx i),some ⟨b,off,none⟩,cap,jc,rfl,.inr ⟨b,off,rfl,fun m u hu=>?_⟩,fun i n q h1 h2=>?_⟩
  ·obtain⟨i,j,p,rfl,hj,hp,hpu⟩:=zrk nodeC 7 (fun _=>rfl) ja _ m u hu
   obtain⟨h1,h2⟩:=zwb hp;have hq:p.2=Classical.choose (hx i):=by
    rw[qax] at h2;have hl:=(qag.1 h1).1;rw[List.getElem?_range hl] at h2;exact(qar h2).symm
   obtain⟨c0,c1,c2,c3,c4,c5,c6,-⟩:=Classical.choose_spec (hx i) p.1 h1;rw[<-hq] at c1
   match j,hj,hpu with
   |0,_,hpu=>
           obtain rfl:_=u:=by simpa [nodeC] using hpu
           exact c0
   |1,_,hpu=>
           obtain rfl:_=u:=by simpa [nodeC] using hpu
           exact c1
   |2,_,hpu=>
           obtain rfl:_=u:=by simpa [nodeC] using hpu
           exact c2
   |3,_,hpu=>
           obtain rfl:_=u:=by simpa [nodeC] using hpu
           exact c3
   |4,_,hpu=>
           obtain rfl:_=u:=by simpa [nodeC] using hpu
           exact c4
   |5,_,hpu=>
           obtain rfl:_=u:=by simpa [nodeC] using hpu
           exact c5
   |6,_,hpu=>
           obtain rfl:_=u:=by simpa [nodeC] using hpu
           exact c6
  ·rw[qax] at h2
   have hl:=(qag.1 h1).1;rw[List.getElem?_range hl] at h2;obtain rfl:=qar h2;have:=Classical.choose_spec (hx i) n h1;exact⟨this.2.2.2.2.2.2.2.1,this.2.2.2.2.2.2.2.2⟩
theorem ztb {ns:List PN}{qs:List Value}(h:∀(i:Nat) (n:PN) (q:Value),ns[i]?=some n->qs[i]?=some q->∃a n c,q=jf a n c):∀u ∈ zbs (ns.zip qs),u.oneCell'=true:=by
 intro u hu;unfold zbs at hu;obtain⟨p,hp,hr⟩:=List.mem_flatMap.1 hu;obtain⟨i,hi⟩:=List.getElem?_of_mem hp;obtain⟨h1,h2⟩:=zwb hi;obtain⟨a,n,c,hq⟩:=h i _ _ h1 h2;simp[nodeC,hq] at hr;rcases hr with rfl|rfl|rfl|rfl|rfl|rfl|rfl<;>rfl
theorem NodesAt.of_own (h:w.ownsRow base 54 7 v ns.length (zbs (ns.zip qs)))(hq:qs.length=ns.length)(hl:ns.length<=maxLen)
  (hk:∀(i:Nat) (n:PN) (q:Value),ns[i]?=some n->qs[i]?=some q->IntsAt w q n.kids/\n.kids.length<=maxLen):NodesAt w v ns:=by
 refine⟨hl,?_⟩;have h':=h;rcases h.2 with⟨rfl,h0⟩|⟨g,cap,cur,rfl,-⟩
 ·exact⟨none,0,by rw[h0],.inl (qbm.1 h0)⟩
 ·refine⟨_,cap,rfl,.inr ⟨g,0,rfl,fun i n hn=>?_⟩⟩
  have hil:=(qag.1 hn).1;obtain⟨q,hqq⟩:∃q,qs[i]?=some q:=⟨_,qae U⟩;have hz:=z6l hn hqq;have hc:∀j u,(zbs (ns.zip qs))[j]?=some u->w.cell? ⟨g,0+j,none⟩=some u:=fun j u hu=>by
   have:=h'.cells rfl j u hu;rw[qce] at this;exact this
  obtain⟨k1,k2⟩:=hk i n q hn hqq;exact⟨q,hc (i*7+0) _ (zds hz ja),hc (i*7+1) _ (zds hz ja),hc (i*7+2) _ (zds hz ja),hc (i*7+3) _ (zds hz ja),hc (i*7+4) _ (zds hz ja),hc (i*7+5) _ (zds hz ja),hc (i*7+6) _ (zds hz ja),k1,k2⟩
theorem IntsAt.of_own (h:w.ownsRow base 3 1 v l.length (intsV l)):IntsAt w v l:=by
 have h':=h;rcases h.2 with⟨rfl,h0⟩|⟨g,cap,cur,rfl,-⟩
 ·exact⟨none,0,by rw[h0],.inl (qbm.1 h0)⟩
 ·refine⟨_,cap,rfl,.inr ⟨g,0,rfl,fun i x hx=>?_⟩⟩
  have:=h'.cells rfl i (je jd x) (by unfold intsV;rw[qax,hx];rfl);rw[qce] at this;exact this
end
section
open Go.RowKit
def zbk (W:World)(g:Nat)(x y:Value):Prop:=W.heap[g]?=some (.cells #[x,y] 25 (0,0))
section
variable (n0 B0:Nat) (ru nu:Value) (rn nn:Nat) (rc nc:List Value)
variable {n0 B0 ru nu rn nn rc nc}
end
theorem zrl:(qab.info? 32).map (fun i=>(i.zero,i.size,i.bytes))=some (some (.agg #[jh ⟨#[]⟩,je jd 0]),2,24):=jb
theorem zik:(qab.info? 54).map (fun i=>(i.zero,i.size,i.bytes))=some (some (.agg #[je jd 0,jf none 0 0,je jd 0,je jg 0,je jg 0,je jg 0,je jg 0]),7,72):=jb
theorem zeb {o:Oper}{a:Act}{T:Nat->Value->World->Prop}{R:World->World->Prop}{S:World->Prop}{Q:Exit->Act->World->Prop}(s x:Operand)(t:TypeId)
  (ho:o.op=.call { callee:=.builtin .append,args:=#[s,x],argTypes:=#[t,t] }) {sv xv:Value} (hs:a.eval s=sv) (hx:a.eval x=xv) {v:Value} {w':World} (hr:(Builtin.append_ #[t,t] o.type #[sv,xv]).run qab w=.ok v w') (hT:T i v w') (hR:R w w') (hS:S w') :
  o.wp qab a w (fun a' w'=>∃v,a'=a.put o.dst v/\T i v w'/\R w w'/\S w') Q:=by
 unfold Oper.wp execOp;simp only[ho,resolve,invoke,builtin,Sem.run_bind,Sem.run_pure,Result.andThen_ok,List.map_toArray,List.map_cons,List.map_nil,hs,hx,hr];exact⟨v,rfl,hT,hR,hS⟩
theorem zec {P:Program}{o:Oper}{a:Act}{w':World}{T:Nat->Value->World->Prop}{R:World->World->Prop}{S:World->Prop}{Q:Exit->Act->World->Prop}(v:Value)(hv:(execOp a.eval o).run P w=.ok (.value v) w')(hT:T i v w')(hR:R w w')(hS:S w') :
  o.wp P a w (fun a' w'=>∃v,a'=a.put o.dst v/\T i v w'/\R w w'/\S w') Q:=by
 unfold Oper.wp;rw[hv];exact⟨v,rfl,hT,hR,hS⟩
def CloneAt (n0 C:Nat)(rv nv:Value)(rs:List PR)(ns:List PN)(qs:List Value)(w0 W:World):Prop:=
 n0<=C/\zbk W C rv nv/\W.ownsRow n0 32 2 rv rs.length (zb5 rs)/\W.ownsRow n0 54 7 nv ns.length (zbs (ns.zip qs))/\Below n0 w0 W
section
variable {n0 C:Nat} {rv nv:Value} {rs:List PR} {ns:List PN} {qs:List Value} {w0 W W':World}
theorem CloneAt.lt (h:CloneAt n0 C rv nv rs ns qs w0 W):C<W.heap.size:=(qbd.1 h.2.1).1
theorem zev {e':TypeId}(h:W.ownsRow base e size v n xs)(hg:∃c fz,W.heap[g]?=some (.cells c e' fz))(he:e≠e'):v.ownBlock≠some g:=fun hb=>by
 obtain⟨c,fz,h1⟩:=Lib.ownsRow_kind h g hb;obtain⟨c',fz',h2⟩:=hg;rw[h1] at h2;injection h2 with h2;injection h2 with _ h2;exact he h2
theorem zzz {l:List Value}(h:l[j]?=some u):l.set j u=l:=by
 obtain⟨hj,rfl⟩:=qag.1 h;exact List.set_getElem_self hj
theorem zpw (w:World):Below w.heap.size w w.drew:=(Below.refl _ _).drew
theorem CloneAt.rule {cap:Nat}(h:CloneAt n0 C (jf (some ⟨g,0,none⟩) rs.length cap) nv rs ns qs w0 W)(hr:rs[i]?=some r):CloneAt n0 C (jf (some ⟨g,0,none⟩) rs.length cap) nv rs ns qs w0 (W.setCell ⟨g,i*2,none⟩ (jh r.name)):=by
 obtain⟨h1,h2,h3,h4,h5⟩:=h;have hk:=Lib.ownsRow_kind h3 g rfl;have hg:=(h3.lt g rfl).1;have hcg:C≠g:=fun e=>by
  subst e;obtain⟨c,fz,h6⟩:=hk;unfold zbk at h2;rw[h2] at h6;injection h6 with h6;injection h6 with _ h6;exact absurd h6 ja
 refine⟨h1,by unfold zbk;rw[heap_setCell_other _ _ _ _ hcg];exact h2,?_,ownsRow_setCell_other h4 (zev h4 hk ja) _,h5.setCell (p:=⟨g,i*2,none⟩) hg _⟩;have:=(h3.stored (i*2+0) (jh r.name)).1;rw[zzz (zjc (j:=0) hr ja)] at this;exact this
end
theorem zb1 (h:w.grownBy w' none):Below w.heap.size w w':=⟨h.os,h.tape,h.output,h.size,fun k hk=>h.block k hk jc⟩
theorem IntsAt.src {a:Option Addr}(h:IntsAt w (jf a l.length c) l):l.length=0∨∃b off,a=some ⟨b,off,none⟩/\∀j u,(intsV l)[j]?=some u->w.cell? ⟨b,off+j,none⟩=some u:=by
 obtain⟨a',c',e,h⟩:=h;injection e with e1 _ e3;subst e1 e3;rcases h with h|⟨b,off,rfl,hc⟩
 ·left;rw[h];rfl
 ·right
  refine⟨b,off,rfl,fun j u hu=>?_⟩;unfold intsV at hu;rw[qax] at hu;cases hj:l[j]? with
  |none=>rw[hj] at hu;cases hu
  |some x=>rw[hj] at hu;cases hu;exact hc j x hj
theorem zaw (h:W.ownsRow base e size v n xs)(hg:g<base)(u:Value)(o:Nat):(W.setCell ⟨g,o,none⟩ u).ownsRow base e size v n xs:=ownsRow_setCell_below h (a:=⟨g,o,none⟩) hg u
theorem za2 {base':Nat}(h:W.ownsRow base e size v n xs)(hb:base'<=base):W.ownsRow base' e size v n xs:=
 ⟨h.1,h.2.elim Or.inl (fun⟨g,cap,cur,hv,hg,r⟩=>Or.inr ⟨g,cap,cur,hv,Nat.le_trans hb hg,r⟩)⟩
end
section
open Go.RowKit
theorem zhe {P:Program}(w:World)(t ty e:TypeId)(i:TypeInfo)(ht:P.underlying t=some (.slice e))(hi:P.info? e=some i)(B:Nat)(a:Option Addr)(c:Nat) :
  (Builtin.append_ #[t,t] ty #[jf (some ⟨B,0,none⟩) 0 0,jf a 0 c]).run P w=.ok (jf (some ⟨B,0,none⟩) 0 0) w:=by
 cases a with
 |none=>simp[Builtin.append_,run_underlying ht,sizeOf,typeInfo,hi,Builtin.lenOf,Builtin.firstCells,storeCells]
 |some a=>
  have h:=run_firstCells_some (P:=P) w i.size 0 a 0 c [] jc (fun j u h=>by simp at h);simp[Builtin.append_,run_underlying ht,sizeOf,typeInfo,hi,Builtin.lenOf,h,storeCells]
theorem zrm (h:W.heap[g]?=some (.cells cs t (0,0)))(ho:cs[o]?=some u):W.cell? ⟨g,o,none⟩=some u:=by
 unfold World.cell?;dsimp only;rw[h];exact ho
theorem zz0 (h:W.heap[g]?=some (.cells cs t (0,0)))(o:Nat):W.frozen? ⟨g,o,none⟩=false:=by simp[World.frozen?,h]
theorem zc7 (w:World)(l:List Value)(t:TypeId):∀j u,l[j]?=some u->(w.alloc (.cells l.toArray t)).cell? ((⟨w.heap.size,0,none⟩:Addr).add j)=some u:=fun j u h=>by
 have:=heap_alloc_new w (.cells l.toArray t);rw[qce,qbc];exact zrm this (by simpa using h)
theorem zag (h:w.ownsRow base e size v n xs):∃a c,v=jf a n c:=by
 rcases h.2 with⟨e,e0⟩|⟨g,cap,cur,e,-⟩
 ·exact⟨none,0,by rw[e,e0]⟩
 ·exact⟨_,_,e⟩
section
variable {w:World} {O:Nat} {rs:List PR} {ns:List PN} {rv x src v:Value} {qs:List Value} {k:Nat} {wr W:World}
theorem zbl {w:World}{e':TypeId}{v:Value}{r:Option Nat}(h:w.ownsRow base e size v n xs)(hg:w.grownBy w' r)(hr:∀g,r=some g->∃c fz,w.heap[g]?=some (.cells c e' fz))(he:e≠e'):w'.ownsRow base e size v n xs:=by
 refine h.kept hg ?_;cases r with
 |none=>cases hv:v.ownBlock with
  |none=>exact .inl rfl
  |some b=>exact .inr jc
 |some g=>exact .inr (zev h (hr g rfl) he)
end
end
section
open Go.RowKit
def CellsAt (w:World)(v:Value)(n:Nat)(cs:List Value):Prop:=∃a cap,v=jf a n cap/\n<=cap/\(n=0∨∃b off,a=some ⟨b,off,none⟩/\∀j u,cs[j]?=some u->w.cell? ⟨b,off+j,none⟩=some u)
theorem CellsAt.kept {cs:List Value}(h:CellsAt w v n cs)(hb:Below k w w')(hk:w.heap.size<=k):CellsAt w' v n cs:=by
 obtain⟨a,cap,rfl,hcap,h⟩:=h;rcases h with h|⟨b,off,rfl,hc⟩
 ·exact⟨a,cap,rfl,hcap,.inl h⟩
 ·exact⟨_,cap,rfl,hcap,.inr ⟨b,off,rfl,fun i c hi=>by have:=zai (hc i c hi);rw[(bcell hb).1 _ _ U];exact hc i c hi⟩⟩
theorem CellsAt.of_own {cs:List Value}(h:w.ownsRow base e size v n cs):CellsAt w v n cs:=by
 have h':=h;rcases h.2 with⟨rfl,h0⟩|⟨g,cap,cur,rfl,-,-,hcap,-⟩
 ·exact⟨none,0,by rw[h0],U,.inl h0⟩
 ·refine⟨_,cap,rfl,hcap,.inr ⟨g,0,rfl,fun i r hr=>?_⟩⟩
  have:=h'.cells rfl i r hr;rw[qce] at this;exact this
theorem CellsAt.src {a:Option Addr}{cs:List Value}(h:CellsAt w (jf a n c) n cs):n=0∨∃b off,a=some ⟨b,off,none⟩/\∀j u,cs[j]?=some u->w.cell? ⟨b,off+j,none⟩=some u:=by
 obtain⟨a',c',e,-,h⟩:=h;injection e with e1 e2 e3;subst e1;exact h
def itemC (x:PI):List Value:=[je jd x.op,je jd x.kids,je jd x.rule,je jg x.s0,je jg x.s1,je jg x.s2,je jg x.s3]
def zfr (l:List PI):List Value:=l.flatMap itemC
def ItemsAt (w:World)(v:Value)(l:List PI):Prop:=l.length<=maxLen/\CellsAt w v l.length (zfr l)
theorem ItemsAt.slice {l:List PI}(h:ItemsAt w v l):∃a c,v=jf a l.length c:=by
 obtain⟨-,a,c,e,-⟩:=h;exact⟨a,c,e⟩
def ruleQ (p:PQ × Value):List Value:=[jh p.1.name,p.2]
def z2i (ps:List (PQ × Value)):List Value:=ps.flatMap ruleQ
def QsAt (w:World)(v:Value)(l:List PQ):Prop:=l.length<=maxLen/\∃vs:List Value,vs.length=l.length/\CellsAt w v l.length (z2i (l.zip vs))/\∀(j:Nat) (q:PQ) (u:Value),l[j]?=some q->vs[j]?=some u->ItemsAt w u q.items
theorem QsAt.slice {l:List PQ}(h:QsAt w v l):∃a c,v=jf a l.length c:=by
 obtain⟨-,vs,-,⟨a,c,e,-⟩,-⟩:=h;exact⟨a,c,e⟩
def Bl (w:World)(b:Nat)(t:TypeId)(cs:Array Value):Prop:=w.heap[b]?=some (.cells cs t (0,0))
theorem Bl.lt (h:Bl w b t cs):b<w.heap.size:=(qbd.1 h).1
theorem Bl.cell (h:Bl w b t cs)(ho:cs[o]?=some u):w.cell? ⟨b,o,none⟩=some u:=zrm h ho
theorem Bl.free (h:Bl w b t cs)(o:Nat):w.frozen? ⟨b,o,none⟩=false:=zz0 h o
theorem Bl.below (h:Bl w b t cs)(hb:Below w.heap.size w w'):Bl w' b t cs:=by
 unfold Bl;rw[hb.block b h.lt];exact h
theorem Bl.new (w:World)(t:TypeId)(cs:Array Value):Bl (w.alloc (.cells cs t)) w.heap.size t cs:=heap_alloc_new w _
theorem Bl.set (h:Bl w b t #[v])(u:Value):Bl (w.setCell ⟨b,0,none⟩ u) b t #[u]:=heap_setCell_same w b 0 _ _ u h
theorem Bl.other (h:Bl w b t cs)(hc:b≠c)(u:Value):Bl (w.setCell ⟨c,o,none⟩ u) b t cs:=by
 unfold Bl;rw[heap_setCell_other _ _ _ _ hc];exact h
theorem Bl.grown {r:Option Nat}(h:Bl w b t cs)(hg:w.grownBy w' r)(hr:∀g,r=some g->∃c t' fz,w.heap[g]?=some (.cells c t' fz)/\t≠t'):Bl w' b t cs:=by
 unfold Bl;rw[hg.block b h.lt (fun e=>by
  obtain⟨c,t',fz,h1,h2⟩:=hr b e.symm;unfold Bl at h;rw[h] at h1;injection h1 with h1;injection h1 with _ h1;exact h2 h1)]
 exact h
structure Kp (base xb yb:Nat) (t1:TypeId) (w w':World):Prop where
 os:w'.os=w.os
 tape:w'.tape=w.tape
 output:w'.output=w.output
 size:w.heap.size<=w'.heap.size
 block:∀k,k<w.heap.size->k≠xb->k≠yb->(k<base∨∀c t fz,w.heap[k]?=some (.cells c t fz)->t≠t1)->w'.heap[k]?=w.heap[k]?
section
variable {base xb yb:Nat} {t1:TypeId} {w w1 w2 w':World}
theorem Kp.refl (w:World):Kp base xb yb t1 w w:=⟨rfl,rfl,rfl,qac _,fun _ _ _ _ _=>rfl⟩
theorem Kp.trans (h:Kp base xb yb t1 w w1)(k:Kp base xb yb t1 w1 w2):Kp base xb yb t1 w w2:=
 ⟨k.os.trans h.os,k.tape.trans h.tape,k.output.trans h.output,Nat.le_trans h.size k.size,fun i hi hx hy hc=>by
  have e:=h.block i hi hx hy hc;rw[k.block i (Nat.lt_of_lt_of_le hi h.size) hx hy (by rw[e];exact hc),e]⟩
theorem Kp.of_below (h:Below w.heap.size w w'):Kp base xb yb t1 w w':=⟨h.os,h.tape,h.output,h.size,fun k hk _ _ _=>h.block k hk⟩
theorem Kp.below (h:Kp base xb yb t1 w w')(hx:base<=xb)(hy:base<=yb)(hb:base<=w.heap.size):Below base w w':=
 ⟨h.os,h.tape,h.output,h.size,fun k hk=>h.block k U U U (.inl hk)⟩
theorem Kp.set {c:Array Value}{fz:Nat × Nat}(h:w.heap[b]?=some (.cells c t fz))(hx:b=xb∨b=yb∨(base<=b/\t=t1))(v:Value):Kp base xb yb t1 w (w.setCell ⟨b,o,none⟩ v):=
 ⟨rfl,rfl,rfl,by simp[World.setCell],fun k _ hk hy hc=>heap_setCell_other _ _ _ _ (by
  rintro rfl;rcases hx with e|e|⟨h1,h2⟩
  ·exact hk e
  ·exact hy e
  ·rcases hc with hc|hc
   ·omega
   ·exact hc _ _ _ h h2)⟩
theorem Kp.grown {r:Option Nat}(hg:w.grownBy w' r)(hr:∀g,r=some g->base<=g/\∃c fz,w.heap[g]?=some (.cells c t1 fz)):Kp base xb yb t1 w w':=
 ⟨hg.os,hg.tape,hg.output,hg.size,fun k hk _ _ hc=>hg.block k hk (by
  intro e;obtain⟨h1,c,fz,h2⟩:=hr k e.symm;rcases hc with hc|hc
  ·omega
  ·exact hc _ _ _ h2 rfl)⟩
theorem Kp.own (h:Kp base xb yb t1 w w'){b':Nat}(hv:w.ownsRow b' e size v n xs)(h1:e≠t1)(hx:v.ownBlock≠some xb)(hy:v.ownBlock≠some yb):w'.ownsRow b' e size v n xs:=by
 obtain⟨hl,hv⟩:=hv;refine⟨hl,?_⟩;rcases hv with hv|⟨g,cap,cur,rfl,hb,hh,hr⟩
 ·exact .inl hv
 ·refine .inr ⟨g,cap,cur,rfl,hb,?_,hr⟩
  rw[h.block g (qbd.1 hh).1 (fun e=>hx (by rw[e];rfl)) (fun e=>hy (by rw[e];rfl)) (.inr fun c t fz hc=>by
   rw[hh] at hc;injection hc with hc;injection hc with _ hc _;subst hc;exact h1)]
  exact hh
theorem Kp.bl (h:Kp base xb yb t1 w w')(hv:Bl w b t cs)(hx:b≠xb)(hy:b≠yb)(ht:t≠t1):Bl w' b t cs:=by
 unfold Bl;rw[h.block b hv.lt hx hy (.inr fun c t fz hc=>by
  unfold Bl at hv;rw[hv] at hc;injection hc with hc;injection hc with _ hc _;subst hc;exact ht)]
 exact hv
end
theorem ze8 (h:w.ownsRow base e size v n xs)(hb:w.heap.size<=b):v.ownBlock≠some b:=fun e=>by
 have:=(h.lt b e).2;omega
def NRow (base:Nat)(v:Value)(ns:List PN)(qs:List Value)(w:World):Prop:=qs.length=ns.length/\w.ownsRow base 54 7 v ns.length (zbs (ns.zip qs)) /\
 ∀(j:Nat) (n:PN) (q:Value),ns[j]?=some n->qs[j]?=some q->w.ownsRow base 3 1 q n.kids.length (intsV n.kids)
theorem NRow.nil (base:Nat)(w:World):NRow base (jf none 0 0) [] [] w:=⟨rfl,World.ownsRow_nil _ _ _ _,fun j n q h _=>by simp at h⟩
theorem NRow.grown (h:NRow base v ns qs w)(hb:Below w.heap.size w w'):NRow base v ns qs w':=
 ⟨h.1,zab h.2.1 hb,fun j n q a b=>zab (h.2.2 j n q a b) hb⟩
theorem NRow.nodes (h:NRow base v ns qs w)(hl:ns.length<=maxLen)(hk:∀n,n ∈ ns->n.kids.length<=maxLen):NodesAt w v ns:=
 NodesAt.of_own h.2.1 h.1 hl (fun i n q a b=>⟨IntsAt.of_own (h.2.2 i n q a b),hk n (List.mem_of_getElem? a)⟩)
end
section
open Go.RowKit
theorem NRow.set (h:NRow base v ns qs w)(hb:v.ownBlock≠some b)(hq:∀q,q ∈ qs->q.ownBlock≠some b)(u:Value):NRow base v ns qs (w.setCell ⟨b,o,none⟩ u):=
 ⟨h.1,ownsRow_setCell_other h.2.1 (a:=⟨b,o,none⟩) hb u,fun j n q a c=>ownsRow_setCell_other (h.2.2 j n q a c) (a:=⟨b,o,none⟩) (hq q (List.mem_of_getElem? c)) u⟩
theorem zaq (h:w.ownsRow base e size v n xs)(hb:Bl w b t cs)(he:e≠t):v.ownBlock≠some b:=zev h ⟨_,_,hb⟩ he
end
section
open Go.RowKit
def nameC (c:List Nat × Nat):List Value:=[jh (strOf c.1),je jd (c.2:Int)]
def zcw (l:List (List Nat × Nat)):List Value:=l.flatMap nameC
def defC (r:List Nat × Nat × Int):List Value:=[jh (strOf r.1),je jd (r.2.1:Int),je jd r.2.2]
def defsC (l:List (List Nat × Nat × Int)):List Value:=l.flatMap defC
def FileIn (W:World)(rv nv cv:Value)(rs:List (List Nat × Nat × Int))(f:MF):Prop:=(rs.length<=maxLen/\f.calls.length<=maxLen)/\CellsAt W rv rs.length (defsC rs)/\NodesAt W nv f.nodes/\CellsAt W cv f.calls.length (zcw f.calls)
theorem FileIn.below {W':World}{rv nv cv:Value}{rs:List (List Nat × Nat × Int)}{f:MF}(h:FileIn W rv nv cv rs f)(hb:Below W.heap.size W W'):FileIn W' rv nv cv rs f:=⟨h.1,h.2.1.kept hb (qac _),h.2.2.1.kept hb (qac _),h.2.2.2.kept hb (qac _)⟩
theorem zdt {wr:World}{off:Nat}{rs:List (List Nat × Nat × Int)}{x:List Nat × Nat × Int}(h:∀j u,(defsC rs)[j]?=some u->w.cell? ⟨b,off+j,none⟩=some u)(hx:rs[k]?=some x)(hb:Below w.heap.size w wr) :
  wr.cell? ⟨b,off+k*3,none⟩=some (jh (strOf x.1))/\wr.cell? ⟨b,off+k*3+1,none⟩=some (je jd (x.2.1:Int))/\wr.cell? ⟨b,off+k*3+2,none⟩=some (je jd x.2.2)/\b<wr.heap.size:=by
 have c:∀j,j<3->∀u,(defC x)[j]?=some u->wr.cell? ⟨b,off+k*3+j,none⟩=some u:=fun j hj u hu=>by
  have e:=zd2 defC 3 (fun _=>rfl) rs k x j hx hj;rw[hu] at e;have:=h _ u e;rw[(bcell hb).1 _ _ (zai this),Nat.add_assoc];exact this
 exact⟨c 0 ja _ rfl,c 1 ja _ rfl,c 2 ja _ rfl,zai (c 0 ja _ rfl)⟩
theorem zcy {wr:World}{off:Nat}{l:List (List Nat × Nat)}{x:List Nat × Nat}(h:∀j u,(zcw l)[j]?=some u->w.cell? ⟨b,off+j,none⟩=some u)(hx:l[k]?=some x)(hb:Below w.heap.size w wr) :
  wr.cell? ⟨b,off+k*2,none⟩=some (jh (strOf x.1))/\wr.cell? ⟨b,off+k*2+1,none⟩=some (je jd (x.2:Int))/\b<wr.heap.size:=by
 have c:∀j,j<2->∀u,(nameC x)[j]?=some u->wr.cell? ⟨b,off+k*2+j,none⟩=some u:=fun j hj u hu=>by
  have e:=zd2 nameC 2 (fun _=>rfl) l k x j hx hj;rw[hu] at e;have:=h _ u e;rw[(bcell hb).1 _ _ (zai this),Nat.add_assoc];exact this
 exact⟨c 0 ja _ rfl,c 1 ja _ rfl,zai (c 0 ja _ rfl)⟩
end
open Go.RowKit
