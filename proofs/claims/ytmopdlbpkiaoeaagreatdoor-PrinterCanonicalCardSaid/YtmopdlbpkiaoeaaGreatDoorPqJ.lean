/- What an error of this program may be, as a tree; the value that stands for it; and that it lies in memory as it did as long as old memory stays as it was. No wa -/
import Derived.Test.YtmopdlbpkiaoeaaGreatDoorProg
import Derived.WalkKit
import Derived.ProofKit
import Derived.LaidEql
import Derived.Stop.Asserts
import Derived.RowKitTokens
import Derived.Lib.Hide
import Derived.Laws.Cells
import Derived.Deep.LoopGhost
import Derived.Outline
import Derived.Handy
import Derived.Defers
import Derived.Recover
import Derived.Tactics
import Derived.Tactics2
import Derived.Test.YtmopdlbpkiaoeaaGreatDoorPqB
set_option maxRecDepth 100000
set_option maxHeartbeats 2000000
open Go.IntKind renaming i64->jd, u64->jg
open Go.Value renaming int->je, bool->ji, pointer->jj, tuple->jk
namespace Go.Proofs.YtmopdlbpkiaoeaaGreatDoor
open Go.Lib renaming hid->qaa
open Go.Proofs.Tryz renaming prog->qab
open Nat renaming le_refl->qac
open Go.RowKit
inductive Err where
 |code (c:Int)
 |fault (c p:Int)
 |within (b:Nat) (r:ByteArray) (e:Err)
def Err.val:Err->Value
 |.code c=>.iface 60 (je jd c)
 |.fault c p=>.iface 160 (.agg #[je jd c,je jd p])
 |.within b _ _=>.iface 149 (jj (some ⟨b,0,none⟩))
def Err.deep:Err->Nat
 |.code _=>0
 |.fault _ _=>1
 |.within _ _ e=>e.deep+1
def Err.In (_w:World):Err->Prop
 |.code _=>True
 |.fault _ _=>True
 |.within b r e=>_w.cell? ⟨b,0,none⟩=some (.string r)/\_w.cell? ⟨b,1,none⟩=some e.val/\e.In _w
def Err.codeOf:Err->Option Int
 |.code c=>some c
 |.fault c _=>some c
 |.within _ _ e=>e.codeOf
theorem Err.In.kept {e:Err}{n:Nat}{w w1:World}(h:e.In w)(_hb:Below n w w1)(_hn:w.heap.size<=n):e.In w1:=by
 induction e with
 |code c=>trivial
 |fault c p=>trivial
 |within b r e ih=>
  obtain⟨h0,h1,h2⟩:=h;have hl:=zai h0;exact⟨by rw[(bcell _hb).1 _ _ U];exact h0,by rw[(bcell _hb).1 _ _ U];exact h1,ih h2⟩
theorem Err.val_ne (e:Err):∃t v,e.val=.iface t v:=by
 cases e<;>exact⟨_,_,rfl⟩
open Go.RowKit Go.Extern.Stop Go.Stop Go.Extern
abbrev hnd (t:Nat):Value:=jj (some ⟨4,t,none⟩)
abbrev rt (t:Nat):Value:=.iface 208 (.agg #[hnd t])
abbrev vOf (t:Nat)(a:Addr)(n:Int):Value:=.agg #[hnd t,jj (some a),je jg n]
theorem zu2 (h:Value)(w:World):(Go.method 248 208 (.agg #[h]) "Kind").run qab w=.ok (183,h) w:=jb
theorem zu3 (h:Value)(w:World):(Go.method 248 208 (.agg #[h]) "Elem").run qab w=.ok (198,.agg #[h]) w:=jb
theorem ze2 (h:Value)(w:World):(Go.method 248 208 (.agg #[h]) "Implements").run qab w=.ok (199,.agg #[h]) w:=jb
theorem ze3 (h:Value)(w:World):(Go.method 248 208 (.agg #[h]) "AssignableTo").run qab w=.ok (196,.agg #[h]) w:=jb
theorem rlm (z:Sem Value)(f:TypeId->Addr->Nat->Nat->Sem Value)(v:Value) :
  ReflectliteValue.method z f #[v]=(do match <- ReflectliteValue.parts v with|none=>z|some (t,a,fl)=>f t a fl (fl%32)):=rfl
theorem rls (v x:Value):ReflectliteValue.set #[v,x]=(do
  let (some (dst,a,fl),some (src,b,_)):=(<- ReflectliteValue.parts v,<-ReflectliteValue.parts x)
   |unsupported (.noEntry "extern/(internal/reflectlite.Value).Set.zeroValue")
  if fl/ReflectliteValue.flagAddr%2 == 0 then unsupported (.noEntry "extern/(internal/reflectlite.Value).Set.unaddressable")
  let val <- loadVar src b
  if <- Rtype.directlyAssignable dst src then storeVar dst a val
  else if <- Rtype.implements dst src then
   if (<- Rtype.kind src) == 20 then
    match val with
    |.nilIface=>unsupported (.noEntry "extern/reflectlite: a nil value of one interface type handed on as a value of another")
    |_=>storeVar dst a val
   else storeVar dst a (.iface src val)
  else panicString ("reflectlite.Set: value of type " ++ (<- Rtype.spelt src) ++ " is not assignable to type " ++ (<- Rtype.spelt dst))
  pure (jk #[])):=rfl
theorem zg9 (v:Value)(w:World):(ReflectliteType.typeOf #[.iface 60 v]).run qab w=.ok (rt 60) w:=jb
theorem zfx (v:Value)(w:World):(ReflectliteType.typeOf #[.iface 160 v]).run qab w=.ok (rt 160) w:=jb
theorem zm3 (v:Value)(xT:TypeId)(w:World):(Instr.typeAssert (.iface 160 v) xT 213 true).run qab w=.ok (jk #[.nilIface,ji false]) w:=run_typeAssert_lacksB Tryz.underlying213 jb jb v xT w
theorem zfp (v:Value)(xT:TypeId)(w:World):(Instr.typeAssert (.iface 160 v) xT 216 true).run qab w=.ok (jk #[.iface 160 v,ji true]) w:=run_typeAssert_hasB Tryz.underlying216 jb v xT w
theorem ze4 (v:Value)(w:World):(ReflectliteType.typeOf #[.iface 149 v]).run qab w=.ok (rt 149) w:=jb
theorem zkg (v:Value)(xT:TypeId)(w:World):(Instr.typeAssert (.iface 149 v) xT 213 true).run qab w=.ok (jk #[.nilIface,ji false]) w:=run_typeAssert_lacksB Tryz.underlying213 jb jb v xT w
theorem ze5 (v:Value)(xT:TypeId)(w:World):(Instr.typeAssert (.iface 149 v) xT 216 true).run qab w=.ok (jk #[.iface 149 v,ji true]) w:=run_typeAssert_hasB Tryz.underlying216 jb v xT w
theorem zm4 (t:Addr)(w:World):(ReflectliteValue.unpack (.iface 140 (jj (some t)))).run qab w
  = .ok (vOf 140 ⟨w.heap.size,0,none⟩ 150) (w.alloc (.cells #[jj (some t)] 140)):=jb
theorem zu4 (a:Addr)(w:World):(ReflectliteValue.methodAny (ReflectliteValue.valueError "reflectlite.Value.Type" 0) (fun t _ _ _=>ReflectliteType.toType t) #[vOf 140 a 150]).run qab w
  = .ok (rt 140) w:=jb
theorem zu5 (w:World):((ReflectliteType.abiMethod fun t=>(fun a:Nat=>Value.int IntKind.u8 (a:Int)) <$> Rtype.kind t) #[hnd 140]).run qab w=.ok (je .u8 22) w:=jb
theorem zzg (w:World):((ReflectliteType.abiMethod fun t=>(fun a:Nat=>Value.int IntKind.u8 (a:Int)) <$> Rtype.kind t) #[hnd 60]).run qab w=.ok (je .u8 2) w:=jb
theorem zkh (a:Addr)(w:World):(ReflectliteValue.parts (vOf 140 a 150)).run qab w=.ok (some (140,a,150)) w:=jb
theorem zsp (a p:Addr)(W:World)(ha:W.cell? a=some (.pointer (some p))) :
  (ReflectliteValue.method (ReflectliteValue.valueError "reflectlite.Value.IsNil" 0) ReflectliteValue.isNil #[vOf 140 a 150]).run qab W=.ok (ji false) W:=by
 rw[rlm];simp only[Sem.run_bind,zkh,Result.andThen];simp[ReflectliteValue.isNil,loadVar,isAgg,underlying,Tryz.underlying140,ha,Result.andThen]
theorem zu6 (w:World):(ReflectliteType.method ReflectliteType.elem #[.agg #[hnd 140]]).run qab w=.ok (rt 60) w:=jb
theorem zjy (w:World):(ReflectliteType.relation "Implements" ReflectliteType.implements_ #[.agg #[hnd 60],rt 35]).run qab w=.ok (ji true) w:=jb
theorem zo8 (c:Int)(w:World):(ReflectliteValue.unpack (.iface 60 (je jd c))).run qab w
  = .ok (vOf 60 ⟨w.heap.size,0,none⟩ 130) (w.alloc (.cells #[je jd c] 60)):=jb
theorem zsq (w:World):(Rtype.elem? 140).run qab w=.ok (some 60) w:=jb
theorem z6g (p:Addr)(w:World):(ReflectliteValue.mk 60 p ReflectliteValue.flagAddr).run qab w=.ok (vOf 60 p 386) w:=jb
theorem zu7 (a p:Addr)(W:World)(ha:W.cell? a=some (.pointer (some p))) :
  (ReflectliteValue.method (ReflectliteValue.valueError "reflectlite.Value.Elem" 0) ReflectliteValue.elem #[vOf 140 a 150]).run qab W
   = .ok (vOf 60 p 386) W:=by
 rw[rlm];simp only[Sem.run_bind,zkh,Result.andThen];simp[ReflectliteValue.elem,loadVar,isAgg,underlying,Tryz.underlying140,ha,Result.andThen,zsq,z6g]
theorem zsr (a:Addr)(w:World):(ReflectliteValue.parts (vOf 60 a 386)).run qab w=.ok (some (60,a,386)) w:=jb
theorem zu8 (a:Addr)(w:World):(ReflectliteValue.parts (vOf 60 a 130)).run qab w=.ok (some (60,a,130)) w:=jb
theorem zss (w:World):(Rtype.directlyAssignable 60 60).run qab w=.ok true w:=jb
theorem zhz (w:World):(ReflectliteType.relation "AssignableTo" ReflectliteType.assignableTo #[.agg #[hnd 60],rt 60]).run qab w=.ok (ji true) w:=jb
theorem zha (w:World):(ReflectliteType.relation "AssignableTo" ReflectliteType.assignableTo #[.agg #[hnd 160],rt 60]).run qab w=.ok (ji false) w:=jb
theorem zge (w:World):(ReflectliteType.relation "AssignableTo" ReflectliteType.assignableTo #[.agg #[hnd 149],rt 60]).run qab w=.ok (ji false) w:=jb
theorem z3x (ta b:Addr)(c:Int)(old:Value)(W:World)(hb:W.cell? b=some (je jd c))(ht:W.cell? ta=some old)(hf:W.frozen? ta=false) :
  (ReflectliteValue.set #[vOf 60 ta 386,vOf 60 b 130]).run qab W=.ok (jk #[]) (W.setCell ta (je jd c)):=by
 rw[rls];simp only[Sem.run_bind,zsr,zu8,Result.andThen];simp[ReflectliteValue.flagAddr,loadVar,isAgg,underlying,Tryz.underlying60,hb,Result.andThen,zss,storeVar,Value.cells,storeCells,Addr.add];rw[run_store qab W ta _ _ (by rfl)];simp[ht,hf]
theorem zgg (b:Nat)(e:Err)(w:World)(h:w.cell? ⟨b,1,none⟩=some e.val) :
  Calls qab 189 #[jj (some ⟨b,0,none⟩)] w fun ev w'=>ev=.returned e.val/\w'=w:=by
 go_enter Tryz.func189,Tryz.ntmps189;go_wp2;go_ret;exact⟨rfl,rfl⟩
theorem zht (c p:Int)(w:World) :
  Calls qab 191 #[.agg #[je jd c,je jd p]] w fun ev w'=>ev=.returned (.iface 60 (je jd c))/\Below w.heap.size w w':=by
 go_enter Tryz.func191,Tryz.ntmps191;go_wp2;go_ret;exact⟨rfl,by go_grown⟩
theorem zi2 (d:Err)(x y:Operand)(w:World):(eqGuard .eql 35 x y d.val .nilIface).run qab w=.ok () w:=by
 cases d<;>rfl
theorem zi3 (d:Err)(w:World):(binOp .eql 35 d.val .nilIface).run qab w=.ok (ji false) w:=by
 cases d<;>kernel_rfl
def AsRel {α:Type}(f:Err->α)(w:World)(r:α)(k:Nat)(err:Value)(wr:World):Prop:=
 ∃d:Err,d.deep=k/\err=d.val/\d.In wr/\f d=r/\Below w.heap.size w wr
def CodePost (w:World)(tb:Nat)(r:Option Int)(ev:Ending)(w':World):Prop:=
 match r with
 |none=>ev=.returned (ji false)/\Below w.heap.size w w'
 |some c=>ev=.returned (ji true)/\∃w1,Below w.heap.size w w1/\w'=w1.setCell ⟨tb,0,none⟩ (je jd c)
theorem z3y (e:Err)(a tb:Nat)(t x:Value)(w:World)(he:e.In w)(ha:w.cell? ⟨a,0,none⟩=some (.pointer (some ⟨tb,0,none⟩)))(ht:w.cell? ⟨tb,0,none⟩=some x)(hf:w.frozen? ⟨tb,0,none⟩=false) :
  Calls qab 113 #[e.val,t,vOf 140 ⟨a,0,none⟩ 150,rt 60] w fun ev w'=>CodePost w tb (Err.codeOf e) ev w':=by
 have h33:=@run_callFunc_extern qab 135 _ ReflectliteType.typeOf Tryz.func135 jb jb jb jb;have h81:=@run_callFunc_extern qab 196 _ (ReflectliteType.relation "AssignableTo" ReflectliteType.assignableTo) Tryz.func196 jb jb jb jb;have h38:=@run_callFunc_extern qab 136 _ (ReflectliteValue.method (ReflectliteValue.valueError "reflectlite.Value.Elem" 0) ReflectliteValue.elem) Tryz.func136 jb jb jb jb;have h39:=@run_callFunc_extern qab 137 _ ReflectliteValue.set Tryz.func137 jb jb jb jb;have h29:=@run_callFunc_extern qab 110 _ (fun args=>ReflectliteValue.unpack (args.getD 0 (jk #[]))) Tryz.func110 jb jb jb jb;have mA:=ze3;have hla:=zai ha;have hlt:=zai ht;have HA:=qaa ha;have HT:=qaa ht;have HF:=qaa hf;have HE:=qaa he;clear he ha ht hf;go_enter Tryz.func113,Tryz.ntmps113;go_wp2
 go_loopg [0] e.deep (fun k err wr=>AsRel Err.codeOf (w.alloc (.cells #[hnd 140,jj (some ⟨a,0,none⟩),je jg 150] 179)) (Err.codeOf e) k err wr)
 case atStart=>exact⟨e,rfl,rfl,HE.out.kept ((Below.refl _ _).alloc (qac _) _) (qac _),rfl,Below.refl _ _⟩
 case round=>
  obtain⟨d,hk,rfl,hd,hr,hb⟩:=hrel;have hb0:Below w.heap.size w wr:=((Below.refl w.heap.size w).alloc (qac _) _).trans (hb.mono jc);cases d with
  |code c=>
   have tC:=zg9;have aC:=zhz;have hbc:=bcell hb;have bx0:wr.cell? ⟨w.heap.size,0,none⟩=some (hnd 140):=by rw[hbc.1 _ _ jc];simp
   have bx1:wr.cell? ⟨w.heap.size,1,none⟩=some (.pointer (some ⟨a,0,none⟩)):=by rw[hbc.1 _ _ jc];simp
   have bx2:wr.cell? ⟨w.heap.size,2,none⟩=some (je jg 150):=by rw[hbc.1 _ _ jc];simp
   have hz:w.heap.size<wr.heap.size:=by have:=hb.size;simp at this;omega
   have vC:=zo8;have el:=zu7 ⟨a,0,none⟩ ⟨tb,0,none⟩ wr (by rw[hbc.1 _ _ (by simp;omega),World.cell?_alloc_lt _ _ ⟨a,0,none⟩ hla];exact HA.out);have st:=z3x ⟨tb,0,none⟩ ⟨wr.heap.size,0,none⟩ c x (wr.alloc (.cells #[je jd c] 60)) jc
    (by rw[World.cell?_alloc_lt _ _ ⟨tb,0,none⟩ (by simp;omega),hbc.1 _ _ (by simp;omega),World.cell?_alloc_lt _ _ ⟨tb,0,none⟩ hlt];exact HT.out)
    (by rw[World.frozen?_alloc_old _ _ ⟨tb,0,none⟩ (by simp;omega),hbc.2 _ _ (by simp;omega),World.frozen?_alloc_old _ _ ⟨tb,0,none⟩ (by simp;omega)];exact HF.out)
   have HB:=qaa hb0;have HR:=qaa hr;clear hb hb0 hr hk hd hbc;simp only[Err.val];go_wp2;go_ret;rw[<-HR.out];exact⟨rfl,_,HB.out.alloc (Nat.le_of_lt hz) _,rfl⟩
  |fault c p=>
   have tC:=zfx;have aC:=zha;have nC:=zm3;have uC:=zfp;have HB:=qaa hb;have HR:=qaa hr;have HK:=qaa hk;clear hb hb0 hr hk hd;simp only[Err.val];have e1:=zi2 (.code c);have e2:=zi3 (.code c);simp only[Err.val] at e1 e2
   go_wp2_with (go_at_call 191;refine(zht _ _ _).mono ?_;rintro ev w1 ⟨rfl,hb1⟩;have HB1:=qaa hb1;clear hb1)
   go_roundg 0
   case measure=>rw[<-HK.out];exact Nat.zero_lt_one
   case rel=>exact⟨.code c,rfl,rfl,trivial,HR.out,HB.out.trans (HB1.out.mono HB.out.size)⟩
  |within b r d=>
   have tC:=ze4;have aC:=zge;have nC:=zkg;have uC:=ze5;obtain⟨hd0,hd1,hd2⟩:=hd;have HB:=qaa hb;have HR:=qaa hr;have HK:=qaa hk;have HD:=qaa hd2;clear hb hb0 hr hk hd0 hd2;simp only[Err.val];have e1:=zi2 d;have e2:=zi3 d
   go_wp2_with (go_at_call 189;refine(zgg _ d _ hd1).mono ?_;rintro ev w1 ⟨rfl,rfl⟩)
   go_roundg d.deep
   case measure=>rw[<-HK.out];exact Nat.lt_succ_self _
   case rel=>exact⟨d,rfl,rfl,HD.out,HR.out,HB.out⟩
theorem CodePost.ret {w w':World}{tb:Nat}{r:Option Int}{ev:Ending}(h:CodePost w tb r ev w'):ev=.returned (ji r.isSome):=by
 cases r with
 |none=>exact h.1
 |some c=>exact h.1
theorem CodePost.up {w w1 w':World}{tb:Nat}{r:Option Int}{ev:Ending}(hb:Below w.heap.size w w1)(h:CodePost w1 tb r ev w'):CodePost w tb r ev w':=by
 cases r with
 |none=>exact⟨h.1,hb.trans (h.2.mono hb.size)⟩
 |some c=>
  obtain⟨h1,w2,h2,h3⟩:=h;exact⟨h1,w2,hb.trans (h2.mono hb.size),h3⟩
theorem zva (e:Err)(tb:Nat)(x:Value)(w:World)(he:e.In w)(ht:w.cell? ⟨tb,0,none⟩=some x)(hf:w.frozen? ⟨tb,0,none⟩=false)(t:Value) :
  Calls qab 113 #[e.val,t,vOf 140 ⟨w.heap.size,0,none⟩ 150,rt 60] ((w.alloc (.cells #[jj (some ⟨tb,0,none⟩)] 140)).alloc (.cells #[hnd 140,jj (some ⟨w.heap.size,0,none⟩),je jg 150] 179)) fun ev w'=>CodePost w tb (Err.codeOf e) ev w':=by
 have hb:Below w.heap.size w ((w.alloc (.cells #[jj (some ⟨tb,0,none⟩)] 140)).alloc (.cells #[hnd 140,jj (some ⟨w.heap.size,0,none⟩),je jg 150] 179)):=((Below.refl _ _).alloc (qac _) _).alloc jc _;have hl:=zai ht;have hc:=bcell hb;exact(z3y e w.heap.size tb t x _ (he.kept hb (qac _)) (by rw[World.cell?_alloc_lt _ _ ⟨w.heap.size,0,none⟩ jc];simp) (by rw[hc.1 _ _ hl];exact ht) (by rw[hc.2 _ _ hl];exact hf)).mono fun ev w' h=>h.up hb
theorem z3z (e:Err)(tb:Nat)(x:Value)(w:World)(he:e.In w)(hg:w.cell? ⟨2,0,none⟩=some (rt 35))(ht:w.cell? ⟨tb,0,none⟩=some x)(hf:w.frozen? ⟨tb,0,none⟩=false) :
  Calls qab 80 #[e.val,.iface 140 (jj (some ⟨tb,0,none⟩))] w fun ev w'=>CodePost w tb (Err.codeOf e) ev w':=by
 have h29:=@run_callFunc_extern qab 110 _ (fun args=>ReflectliteValue.unpack (args.getD 0 (jk #[]))) Tryz.func110 jb jb jb jb;have h30:=@run_callFunc_extern qab 111 _ (ReflectliteValue.methodAny (ReflectliteValue.valueError "reflectlite.Value.Type" 0) (fun t _ _ _=>ReflectliteType.toType t)) Tryz.func111 jb jb jb jb;have h31:=@run_callFunc_extern qab 112 _ (ReflectliteValue.method (ReflectliteValue.valueError "reflectlite.Value.IsNil" 0) ReflectliteValue.isNil) Tryz.func112 jb jb jb jb;have h54:=@run_callFunc_extern qab 183 _ (ReflectliteType.abiMethod fun t=>do pure (je .u8 (<- Rtype.kind t))) Tryz.func183 jb jb jb jb;have h83:=@run_callFunc_extern qab 198 _ (ReflectliteType.method ReflectliteType.elem) Tryz.func198 jb jb jb jb;have h84:=@run_callFunc_extern qab 199 _ (ReflectliteType.relation "Implements" ReflectliteType.implements_) Tryz.func199 jb jb jb jb;have v1:=zm4;have v2:=zu4;have v3:=zu5;have v4:=zzg;have v5:=zu6;have v6:=zjy;have mK:=zu2;have mE:=zu3;have mI:=ze2;have e1:=zi2 e;have e2:=zi3 e;have hlt:=zai ht;have hlg:=zai hg;have hb:Below w.heap.size w ((w.alloc (.cells #[jj (some ⟨tb,0,none⟩)] 140)).alloc (.cells #[hnd 140,jj (some ⟨w.heap.size,0,none⟩),je jg 150] 179)):=((Below.refl _ _).alloc (qac _) _).alloc jc _;have hc:=zva e tb x w he ht hf;have n8:=zsp ⟨w.heap.size,0,none⟩ ⟨tb,0,none⟩ ((w.alloc (.cells #[jj (some ⟨tb,0,none⟩)] 140)).alloc (.cells #[hnd 140,jj (some ⟨w.heap.size,0,none⟩),je jg 150] 179)) (by rw[World.cell?_alloc_lt _ _ ⟨w.heap.size,0,none⟩ jc];simp);have hg2:((w.alloc (.cells #[jj (some ⟨tb,0,none⟩)] 140)).alloc (.cells #[hnd 140,jj (some ⟨w.heap.size,0,none⟩),je jg 150] 179)).cell? ⟨2,0,none⟩=some (rt 35):=by
  rw[World.cell?_alloc_lt _ _ ⟨2,0,none⟩ (by simp<;>omega),World.cell?_alloc_lt _ _ ⟨2,0,none⟩ hlg];exact hg
 have HB:=qaa hb;clear hg hb he ht hf;go_enter Tryz.func80,Tryz.ntmps80
 go_wp2_with (go_at_call 113;refine(hc _).mono ?_;intro ev w1 hp;obtain rfl:=hp.ret;have HP:=qaa hp;clear hp)
 go_ret;exact HP.out
end Go.Proofs.YtmopdlbpkiaoeaaGreatDoor
namespace Go.Proofs.YtmopdlbpkiaoeaaGreatDoor
open Go.Lib renaming hid->qaa
open Go.Proofs.Tryz renaming prog->qab
open Nat renaming le_refl->qac
theorem zzk (w:World):CallsD qab 79 #[] .returning w fun e u' w'=>u'=.returning/\e=.returned (jk #[])/\w'=w:=by
 refine callsD_of_wpS Tryz.func79 rfl fun c₀ cs hu=>?_
 apply wpS_region;simp[wpOpsS,go_sem,recoverD,hu,Tryz.ntmps79];cases c₀
 simp_all [bodyPostS,results,Tryz.results79]
open Go.RowKit Go.Extern.Stop Go.Stop Go.Extern
theorem zi4 (e:Err)(c:Int)(w:World)(hc:Err.codeOf e=some c)(he:e.In w)(hg:w.cell? ⟨2,0,none⟩=some (rt 35)) :
  Calls qab 80 #[e.val,.iface 140 (jj (some ⟨w.heap.size,0,none⟩))] (w.alloc (.cells #[je jd 0] 60)) fun ev w'=>ev=.returned (ji true)/\w'.cell? ⟨w.heap.size,0,none⟩=some (je jd c)/\Below w.heap.size w w'/\w.heap.size<w'.heap.size/\∀o,w'.frozen? ⟨w.heap.size,o,none⟩=false:=by
 have hb0:Below w.heap.size w (w.alloc (.cells #[je jd 0] 60)):=(Below.refl _ _).alloc (qac _) _;have hlg:=zai hg;refine(z3z e w.heap.size (je jd 0) (w.alloc (.cells #[je jd 0] 60)) (he.kept hb0 (qac _)) (by rw[World.cell?_alloc_lt _ _ ⟨2,0,none⟩ hlg];exact hg) jc jc).mono ?_;intro ev w' h;rw[hc] at h;obtain⟨h1,w1,h2,rfl⟩:=h;have hz:=h2.size;simp at hz;refine⟨h1,?_,?_,?_,fun o=>?_⟩
 ·exact World.cell?_setCell_same' _ _ _ (by rw[(bcell h2).1 _ _ jc];simp)
 ·exact(hb0.trans (h2.mono jc)).setCell jc _
 ·simp;omega
 ·rw[World.frozen?_setCell,(bcell h2).2 _ _ jc];simp
theorem zjz (e:Err)(c:Int)(w:World)(hc:Err.codeOf e=some c)(he:e.In w)(hg:w.cell? ⟨2,0,none⟩=some (rt 35)) :
  Calls qab 50 #[e.val] w fun ev w'=>ev=.returned (jk #[je jd c,ji true])/\Below w.heap.size w w':=by
 have hA:=zi4 e c w hc he hg;clear hc he hg
 go_enter_defers Tryz.func50,Tryz.ntmps50
 go_wp2_with (go_at_call 80;refine hA.mono ?_;rintro ev w1 ⟨rfl,h1,hb,hz,hf⟩;have HB:=qaa hb;clear hb)
 refine leaves_cons (f:=79) (args:=#[]) jc (by simp[go_sem]) ?_;refine(zzk _).mono ?_;rintro e u' w'' ⟨rfl,rfl,rfl⟩;simp[Leaves,settle,results,Tryz.results50,go_sem,HB.out]
end Go.Proofs.YtmopdlbpkiaoeaaGreatDoor
namespace Go.Proofs.YtmopdlbpkiaoeaaGreatDoor
open Go.Lib renaming hid->qaa
open Go.Proofs.Tryz renaming prog->qab
open Nat renaming le_refl->qac
open Go.RowKit
theorem zm6 (e:Err)(c:Int)(w:World)(hc:e.codeOf=some c)(he:e.In w)(hg:w.cell? ⟨2,0,none⟩=some (rt 35)) :
  Calls qab 23 #[e.val] w fun ev w'=>ev=.returned (jk #[je jd c,ji true])/\Below w.heap.size w w':=by
 have hA:=zjz e c w hc he hg;clear hc he hg;go_enter Tryz.func23,Tryz.ntmps23
 go_wp2_with (go_at_call 50;refine hA.mono ?_;rintro ev w1 ⟨rfl,hb⟩;have HB:=qaa hb;clear hb)
 go_ret2
 exact⟨rfl,HB.out⟩
theorem zvc (c p:Int)(w:World) :
  Calls qab 73 #[je jd c,je jd p] w fun ev w'=>ev=.returned (.iface 160 (.agg #[je jd c,je jd p]))/\w'=w:=by
 go_enter Tryz.func73,Tryz.ntmps73;go_wp2;go_ret;exact⟨rfl,rfl⟩
theorem zki (r:ByteArray)(w:World) :
  Calls qab 58 #[.string r,.nilIface] w fun ev w'=>ev=.returned .nilIface/\w'=w:=by
 go_enter Tryz.func58,Tryz.ntmps58;go_wp2;go_ret;exact⟨rfl,rfl⟩
