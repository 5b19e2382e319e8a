/- What an error of this program may be, as a tree; the value that stands for it; and that it lies in memory as it did as long as old memory stays as it was. No wa -/
import Derived.Test.YtnmflokhnaiiiaaGreatDoorProg
import Derived.WalkKit
import Derived.ProofKit
import Derived.LaidEql
import Derived.Stop.Asserts
import Derived.RowKitTokens
import Derived.Lib.Hide
import Derived.Laws.Cells
import Derived.Deep.LoopGhost
import Derived.Outline
import Derived.Handy
import Derived.Defers
import Derived.Recover
import Derived.Tactics
import Derived.Tactics2
import Derived.Test.YtnmflokhnaiiiaaGreatDoorPkB
set_option maxRecDepth 100000
set_option maxHeartbeats 2000000
namespace Go.Proofs.YtnmflokhnaiiiaaGreatDoor
open Go.RowKit
inductive Err where
 |code (c:Int)
 |fault (c p:Int)
 |within (b:Nat) (r:ByteArray) (e:Err)
def Err.val:Err->Value
 |.code c=>.iface 47 (.int .i64 c)
 |.fault c p=>.iface 106 (.agg #[.int .i64 c,.int .i64 p])
 |.within b _ _=>.iface 109 (.pointer (some ⟨b,0,none⟩))
def Err.ty:Err->Nat
 |.code _=>47
 |.fault _ _=>106
 |.within _ _ _=>109
def Err.deep:Err->Nat
 |.code _=>0
 |.fault _ _=>1
 |.within _ _ e=>e.deep+1
def Err.In (_w:World):Err->Prop
 |.code _=>True
 |.fault _ _=>True
 |.within b r e=>_w.cell? ⟨b,0,none⟩=some (.string r)/\_w.cell? ⟨b,1,none⟩=some e.val/\e.In _w
def Err.codeOf:Err->Option Int
 |.code c=>some c
 |.fault c _=>some c
 |.within _ _ e=>e.codeOf
def Err.faultOf:Err->Option (Int × Int)
 |.code _=>none
 |.fault c p=>some (c,p)
 |.within _ _ e=>e.faultOf
theorem Err.In.kept {e:Err}{n:Nat}{w w1:World}(h:e.In w)(_hb:Below n w w1)(_hn:w.heap.size<=n):e.In w1:=by
 induction e with
 |code c=>trivial
 |fault c p=>trivial
 |within b r e ih=>
  obtain⟨h0,h1,h2⟩:=h;have hl:=zai h0;exact⟨by rw[(bcell _hb).1 _ _ (by omega)];exact h0,by rw[(bcell _hb).1 _ _ (by omega)];exact h1,ih h2⟩
theorem Err.val_ne (e:Err):∃t v,e.val=.iface t v:=by
 cases e<;>exact⟨_,_,rfl⟩
open Go.RowKit Go.Extern.Stop Go.Stop Go.Extern
abbrev hnd (t:Nat):Value:=.pointer (some ⟨6,t,none⟩)
abbrev rt (t:Nat):Value:=.iface 179 (.agg #[hnd t])
abbrev vOf (t:Nat)(a:Addr)(n:Int):Value:=.agg #[hnd t,.pointer (some a),.int .u64 n]
theorem zu2 (h:Value)(w:World):(Go.method 248 179 (.agg #[h]) "Kind").run Tryz.prog w=.ok (157,h) w:=by kernel_rfl
theorem zu3 (h:Value)(w:World):(Go.method 248 179 (.agg #[h]) "Elem").run Tryz.prog w=.ok (185,.agg #[h]) w:=by kernel_rfl
theorem ze2 (h:Value)(w:World):(Go.method 248 179 (.agg #[h]) "Implements").run Tryz.prog w=.ok (186,.agg #[h]) w:=by kernel_rfl
theorem ze3 (h:Value)(w:World):(Go.method 248 179 (.agg #[h]) "AssignableTo").run Tryz.prog w=.ok (183,.agg #[h]) w:=by kernel_rfl
theorem rlm (z:Sem Value)(f:TypeId->Addr->Nat->Nat->Sem Value)(v:Value) :
  ReflectliteValue.method z f #[v]=(do match <- ReflectliteValue.parts v with|none=>z|some (t,a,fl)=>f t a fl (fl%32)):=rfl
theorem rls (v x:Value):ReflectliteValue.set #[v,x]=(do
  let (some (dst,a,fl),some (src,b,_)):=(<- ReflectliteValue.parts v,<-ReflectliteValue.parts x)
   |unsupported (.noEntry "extern/(internal/reflectlite.Value).Set.zeroValue")
  if fl/ReflectliteValue.flagAddr%2 == 0 then unsupported (.noEntry "extern/(internal/reflectlite.Value).Set.unaddressable")
  let val <- loadVar src b
  if <- Rtype.directlyAssignable dst src then storeVar dst a val
  else if <- Rtype.implements dst src then
   if (<- Rtype.kind src) == 20 then
    match val with
    |.nilIface=>unsupported (.noEntry "extern/reflectlite: a nil value of one interface type handed on as a value of another")
    |_=>storeVar dst a val
   else storeVar dst a (.iface src val)
  else panicString ("reflectlite.Set: value of type " ++ (<- Rtype.spelt src) ++ " is not assignable to type " ++ (<- Rtype.spelt dst))
  pure (.tuple #[])):=rfl
theorem zg9 (v:Value)(w:World):(ReflectliteType.typeOf #[.iface 47 v]).run Tryz.prog w=.ok (rt 47) w:=by kernel_rfl
theorem zq3 (v:Value)(xT:TypeId)(w:World):(Instr.typeAssert (.iface 47 v) xT 184 true).run Tryz.prog w=.ok (.tuple #[.nilIface,.bool false]) w:=run_typeAssert_lacksB Tryz.underlying184 (by kernel_rfl) (by kernel_rfl) v xT w
theorem zhs (v:Value)(xT:TypeId)(w:World):(Instr.typeAssert (.iface 47 v) xT 187 true).run Tryz.prog w=.ok (.tuple #[.nilIface,.bool false]) w:=run_typeAssert_lacksB Tryz.underlying187 (by kernel_rfl) (by kernel_rfl) v xT w
theorem zgd (v:Value)(xT:TypeId)(w:World):(Instr.typeAssert (.iface 47 v) xT 189 true).run Tryz.prog w=.ok (.tuple #[.nilIface,.bool false]) w:=run_typeAssert_lacksB Tryz.underlying189 (by kernel_rfl) (by kernel_rfl) v xT w
theorem zfx (v:Value)(w:World):(ReflectliteType.typeOf #[.iface 106 v]).run Tryz.prog w=.ok (rt 106) w:=by kernel_rfl
theorem ze4 (v:Value)(w:World):(ReflectliteType.typeOf #[.iface 109 v]).run Tryz.prog w=.ok (rt 109) w:=by kernel_rfl
theorem zkg (v:Value)(xT:TypeId)(w:World):(Instr.typeAssert (.iface 109 v) xT 184 true).run Tryz.prog w=.ok (.tuple #[.nilIface,.bool false]) w:=run_typeAssert_lacksB Tryz.underlying184 (by kernel_rfl) (by kernel_rfl) v xT w
theorem ze5 (v:Value)(xT:TypeId)(w:World):(Instr.typeAssert (.iface 109 v) xT 187 true).run Tryz.prog w=.ok (.tuple #[.iface 109 v,.bool true]) w:=run_typeAssert_hasB Tryz.underlying187 (by kernel_rfl) v xT w
theorem zlo (t:Addr)(w:World):(ReflectliteValue.unpack (.iface 133 (.pointer (some t)))).run Tryz.prog w
  = .ok (vOf 133 ⟨w.heap.size,0,none⟩ 150) (w.alloc (.cells #[.pointer (some t)] 133)):=by kernel_rfl
theorem zst (a:Addr)(w:World):(ReflectliteValue.methodAny (ReflectliteValue.valueError "reflectlite.Value.Type" 0) (fun t _ _ _=>ReflectliteType.toType t) #[vOf 133 a 150]).run Tryz.prog w
  = .ok (rt 133) w:=by kernel_rfl
theorem zsu (w:World):((ReflectliteType.abiMethod fun t=>(fun a:Nat=>Value.int IntKind.u8 (a:Int)) <$> Rtype.kind t) #[hnd 133]).run Tryz.prog w=.ok (.int .u8 22) w:=by kernel_rfl
theorem zu9 (w:World):((ReflectliteType.abiMethod fun t=>(fun a:Nat=>Value.int IntKind.u8 (a:Int)) <$> Rtype.kind t) #[hnd 106]).run Tryz.prog w=.ok (.int .u8 25) w:=by kernel_rfl
theorem zi0 (a:Addr)(w:World):(ReflectliteValue.parts (vOf 133 a 150)).run Tryz.prog w=.ok (some (133,a,150)) w:=by kernel_rfl
theorem zo9 (a p:Addr)(W:World)(ha:W.cell? a=some (.pointer (some p))) :
  (ReflectliteValue.method (ReflectliteValue.valueError "reflectlite.Value.IsNil" 0) ReflectliteValue.isNil #[vOf 133 a 150]).run Tryz.prog W=.ok (.bool false) W:=by
 rw[rlm];simp only[Sem.run_bind,zi0,Result.andThen];simp[ReflectliteValue.isNil,loadVar,isAgg,underlying,Tryz.underlying133,ha,Result.andThen]
theorem zsv (w:World):(ReflectliteType.method ReflectliteType.elem #[.agg #[hnd 133]]).run Tryz.prog w=.ok (rt 106) w:=by kernel_rfl
theorem zi1 (w:World):(ReflectliteType.relation "Implements" ReflectliteType.implements_ #[.agg #[hnd 106],rt 28]).run Tryz.prog w=.ok (.bool true) w:=by kernel_rfl
theorem zm5 (c p:Int)(w:World):(ReflectliteValue.unpack (.iface 106 (.agg #[.int .i64 c,.int .i64 p]))).run Tryz.prog w
  = .ok (vOf 106 ⟨w.heap.size,0,none⟩ 153) (w.alloc (.cells #[.int .i64 c,.int .i64 p] 106)):=by kernel_rfl
theorem zpa (w:World):(Rtype.elem? 133).run Tryz.prog w=.ok (some 106) w:=by kernel_rfl
theorem z3w (p:Addr)(w:World):(ReflectliteValue.mk 106 p ReflectliteValue.flagAddr).run Tryz.prog w=.ok (vOf 106 p 409) w:=by kernel_rfl
theorem zsw (a p:Addr)(W:World)(ha:W.cell? a=some (.pointer (some p))) :
  (ReflectliteValue.method (ReflectliteValue.valueError "reflectlite.Value.Elem" 0) ReflectliteValue.elem #[vOf 133 a 150]).run Tryz.prog W
   = .ok (vOf 106 p 409) W:=by
 rw[rlm];simp only[Sem.run_bind,zi0,Result.andThen];simp[ReflectliteValue.elem,loadVar,isAgg,underlying,Tryz.underlying133,ha,Result.andThen,zpa,z3w]
theorem zpb (a:Addr)(w:World):(ReflectliteValue.parts (vOf 106 a 409)).run Tryz.prog w=.ok (some (106,a,409)) w:=by kernel_rfl
theorem zsx (a:Addr)(w:World):(ReflectliteValue.parts (vOf 106 a 153)).run Tryz.prog w=.ok (some (106,a,153)) w:=by kernel_rfl
theorem zpc (w:World):(Rtype.directlyAssignable 106 106).run Tryz.prog w=.ok true w:=by kernel_rfl
theorem zhb (w:World):(ReflectliteType.relation "AssignableTo" ReflectliteType.assignableTo #[.agg #[hnd 47],rt 106]).run Tryz.prog w=.ok (.bool false) w:=by kernel_rfl
theorem zgf (w:World):(ReflectliteType.relation "AssignableTo" ReflectliteType.assignableTo #[.agg #[hnd 106],rt 106]).run Tryz.prog w=.ok (.bool true) w:=by kernel_rfl
theorem zfy (w:World):(ReflectliteType.relation "AssignableTo" ReflectliteType.assignableTo #[.agg #[hnd 109],rt 106]).run Tryz.prog w=.ok (.bool false) w:=by kernel_rfl
theorem zzh (t b:Nat)(c p:Int)(x y:Value)(W:World)(hb:W.cell? ⟨b,0,none⟩=some (.int .i64 c))(hb1:W.cell? ⟨b,1,none⟩=some (.int .i64 p))(ht:W.cell? ⟨t,0,none⟩=some x)(ht1:W.cell? ⟨t,1,none⟩=some y)
  (hf:W.frozen? ⟨t,0,none⟩=false) (hf1:W.frozen? ⟨t,1,none⟩=false) :
  (ReflectliteValue.set #[vOf 106 ⟨t,0,none⟩ 409,vOf 106 ⟨b,0,none⟩ 153]).run Tryz.prog W=.ok (.tuple #[]) ((W.setCell ⟨t,0,none⟩ (.int .i64 c)).setCell ⟨t,1,none⟩ (.int .i64 p)):=by
 rw[rls];simp only[Sem.run_bind,zpb,zsx,Result.andThen];have hl:(loadCells ⟨b,0,none⟩ 2).run Tryz.prog W=.ok #[.int .i64 c,.int .i64 p] W:=
  run_loadCells_list W ⟨b,0,none⟩ [.int .i64 c,.int .i64 p] (fun j v h=>by
   rcases j with _|_|j
   ·simp at h;subst h;simpa [Addr.add] using hb
   ·simp at h;subst h;simpa [Addr.add] using hb1
   ·simp at h)
 simp[ReflectliteValue.flagAddr,loadVar,isAgg,underlying,Tryz.underlying106,Result.andThen,zpc,storeVar,Value.cells,storeCells,Addr.add,hl];rw[run_store Tryz.prog W ⟨t,0,none⟩ _ _ (by rfl)];simp only[ht,hf,Bool.false_eq_true,if_false];rw[run_store Tryz.prog _ ⟨t,1,none⟩ _ _ (by rfl)];simp[World.cell?_setCell_other,ht1,hf1]
theorem zgg (b:Nat)(e:Err)(w:World)(h:w.cell? ⟨b,1,none⟩=some e.val) :
  Calls Tryz.prog 178 #[.pointer (some ⟨b,0,none⟩)] w fun ev w'=>ev=.returned e.val/\w'=w:=by
 go_enter Tryz.func178,Tryz.ntmps178;go_wp2;go_ret;exact⟨rfl,rfl⟩
theorem zi2 (d:Err)(x y:Operand)(w:World):(eqGuard .eql 28 x y d.val .nilIface).run Tryz.prog w=.ok () w:=by
 cases d<;>rfl
theorem zi3 (d:Err)(w:World):(binOp .eql 28 d.val .nilIface).run Tryz.prog w=.ok (.bool false) w:=by
 cases d<;>kernel_rfl
def AsRel {α:Type}(f:Err->α)(w:World)(r:α)(k:Nat)(err:Value)(wr:World):Prop:=
 ∃d:Err,d.deep=k/\err=d.val/\d.In wr/\f d=r/\Below w.heap.size w wr
def CodePost (w:World)(tb:Nat)(r:Option Int)(ev:Ending)(w':World):Prop:=
 match r with
 |none=>ev=.returned (.bool false)/\Below w.heap.size w w'
 |some c=>ev=.returned (.bool true)/\∃w1,Below w.heap.size w w1/\w'=w1.setCell ⟨tb,0,none⟩ (.int .i64 c)
def FaultPost (w:World)(tb:Nat)(r:Option (Int × Int))(ev:Ending)(w':World):Prop:=
 match r with
 |none=>ev=.returned (.bool false)/\Below w.heap.size w w'
 |some (c,p)=>ev=.returned (.bool true)/\∃w1,Below w.heap.size w w1/\w'=(w1.setCell ⟨tb,0,none⟩ (.int .i64 c)).setCell ⟨tb,1,none⟩ (.int .i64 p)
def WithinPost (w:World)(tb:Nat)(r:Option Nat)(ev:Ending)(w':World):Prop:=
 match r with
 |none=>ev=.returned (.bool false)/\Below w.heap.size w w'
 |some b=>ev=.returned (.bool true)/\∃w1,Below w.heap.size w w1/\w'=w1.setCell ⟨tb,0,none⟩ (.pointer (some ⟨b,0,none⟩))
theorem zzi (e:Err)(a tb:Nat)(t x y:Value)(w:World)(he:e.In w)(ha:w.cell? ⟨a,0,none⟩=some (.pointer (some ⟨tb,0,none⟩)))(ht:w.cell? ⟨tb,0,none⟩=some x)(ht1:w.cell? ⟨tb,1,none⟩=some y)(hf:w.frozen? ⟨tb,0,none⟩=false)(hf1:w.frozen? ⟨tb,1,none⟩=false) :
  Calls Tryz.prog 86 #[e.val,t,vOf 133 ⟨a,0,none⟩ 150,rt 106] w fun ev w'=>FaultPost w tb (Err.faultOf e) ev w':=by
 have h33:=@run_callFunc_extern Tryz.prog 105 _ ReflectliteType.typeOf Tryz.func105 (by kernel_rfl) (by kernel_rfl) (by kernel_rfl) (by kernel_rfl);have h81:=@run_callFunc_extern Tryz.prog 183 _ (ReflectliteType.relation "AssignableTo" ReflectliteType.assignableTo) Tryz.func183 (by kernel_rfl) (by kernel_rfl) (by kernel_rfl) (by kernel_rfl);have h38:=@run_callFunc_extern Tryz.prog 106 _ (ReflectliteValue.method (ReflectliteValue.valueError "reflectlite.Value.Elem" 0) ReflectliteValue.elem) Tryz.func106 (by kernel_rfl) (by kernel_rfl) (by kernel_rfl) (by kernel_rfl);have h39:=@run_callFunc_extern Tryz.prog 107 _ ReflectliteValue.set Tryz.func107 (by kernel_rfl) (by kernel_rfl) (by kernel_rfl) (by kernel_rfl);have h29:=@run_callFunc_extern Tryz.prog 83 _ (fun args=>ReflectliteValue.unpack (args.getD 0 (.tuple #[]))) Tryz.func83 (by kernel_rfl) (by kernel_rfl) (by kernel_rfl) (by kernel_rfl);have mA:=ze3;have hla:=zai ha;have hlt:=zai ht;have HA:=Lib.hid ha;have HT:=Lib.hid ht;have HF:=Lib.hid hf;have HE:=Lib.hid he;clear he ha ht hf;have HT1:=Lib.hid ht1;have HF1:=Lib.hid hf1;clear ht1 hf1;go_enter Tryz.func86,Tryz.ntmps86;go_wp2
 go_loopg [0] e.deep (fun k err wr=>AsRel Err.faultOf (w.alloc (.cells #[hnd 133,.pointer (some ⟨a,0,none⟩),.int .u64 150] 154)) (Err.faultOf e) k err wr)
 case atStart=>exact⟨e,rfl,rfl,HE.out.kept ((Below.refl _ _).alloc (Nat.le_refl _) _) (Nat.le_refl _),rfl,Below.refl _ _⟩
 case round=>
  obtain⟨d,hk,rfl,hd,hr,hb⟩:=hrel;have hb0:Below w.heap.size w wr:=((Below.refl w.heap.size w).alloc (Nat.le_refl _) _).trans (hb.mono (by simp));cases d with
  |code c=>
   have tC:=zg9;have aC:=zhb;have nC:=zq3;have uC:=zhs;have lC:=zgd;have HB:=Lib.hid hb0;have HR:=Lib.hid hr;clear hb hb0 hr hk hd;simp only[Err.val];go_wp2;go_ret;rw[<-HR.out];exact⟨rfl,HB.out⟩
  |fault c p=>
   have tC:=zfx;have aC:=zgf;have hbc:=bcell hb;have bx0:wr.cell? ⟨w.heap.size,0,none⟩=some (hnd 133):=by rw[hbc.1 _ _ (by simp)];simp
   have bx1:wr.cell? ⟨w.heap.size,1,none⟩=some (.pointer (some ⟨a,0,none⟩)):=by rw[hbc.1 _ _ (by simp)];simp
   have bx2:wr.cell? ⟨w.heap.size,2,none⟩=some (.int .u64 150):=by rw[hbc.1 _ _ (by simp)];simp
   have hz:w.heap.size<wr.heap.size:=by have:=hb.size;simp at this;omega
   have vC:=zm5;have el:=zsw ⟨a,0,none⟩ ⟨tb,0,none⟩ wr (by rw[hbc.1 _ _ (by simp;omega),World.cell?_alloc_lt _ _ ⟨a,0,none⟩ hla];exact HA.out);have st:=zzh tb wr.heap.size c p x y (wr.alloc (.cells #[.int .i64 c,.int .i64 p] 106)) (by simp) (by simp)
    (by rw[World.cell?_alloc_lt _ _ ⟨tb,0,none⟩ (by simp;omega),hbc.1 _ _ (by simp;omega),World.cell?_alloc_lt _ _ ⟨tb,0,none⟩ hlt];exact HT.out)
    (by rw[World.cell?_alloc_lt _ _ ⟨tb,1,none⟩ (by simp;omega),hbc.1 _ _ (by simp;omega),World.cell?_alloc_lt _ _ ⟨tb,1,none⟩ hlt];exact HT1.out)
    (by rw[World.frozen?_alloc_old _ _ ⟨tb,0,none⟩ (by simp;omega),hbc.2 _ _ (by simp;omega),World.frozen?_alloc_old _ _ ⟨tb,0,none⟩ (by simp;omega)];exact HF.out)
    (by rw[World.frozen?_alloc_old _ _ ⟨tb,1,none⟩ (by simp;omega),hbc.2 _ _ (by simp;omega),World.frozen?_alloc_old _ _ ⟨tb,1,none⟩ (by simp;omega)];exact HF1.out)
   have HB:=Lib.hid hb0;have HR:=Lib.hid hr;clear hb hb0 hr hk hd hbc;simp only[Err.val];go_wp2;go_ret;rw[<-HR.out];exact⟨rfl,_,HB.out.alloc (Nat.le_of_lt hz) _,rfl⟩
  |within b r d=>
   have tC:=ze4;have aC:=zfy;have nC:=zkg;have uC:=ze5;obtain⟨hd0,hd1,hd2⟩:=hd;have HB:=Lib.hid hb;have HR:=Lib.hid hr;have HK:=Lib.hid hk;have HD:=Lib.hid hd2;clear hb hb0 hr hk hd0 hd2;simp only[Err.val];have e1:=zi2 d;have e2:=zi3 d
   go_wp2_with (go_at_call 178;refine(zgg _ d _ hd1).mono ?_;rintro ev w1 ⟨rfl,rfl⟩)
   go_roundg d.deep
   case measure=>rw[<-HK.out];exact Nat.lt_succ_self _
   case rel=>exact⟨d,rfl,rfl,HD.out,HR.out,HB.out⟩
theorem CodePost.ret {w w':World}{tb:Nat}{r:Option Int}{ev:Ending}(h:CodePost w tb r ev w'):ev=.returned (.bool r.isSome):=by
 cases r with
 |none=>exact h.1
 |some c=>exact h.1
theorem FaultPost.ret {w w':World}{tb:Nat}{r:Option (Int × Int)}{ev:Ending}(h:FaultPost w tb r ev w'):ev=.returned (.bool r.isSome):=by
 cases r with
 |none=>exact h.1
 |some c=>exact h.1
theorem WithinPost.ret {w w':World}{tb:Nat}{r:Option Nat}{ev:Ending}(h:WithinPost w tb r ev w'):ev=.returned (.bool r.isSome):=by
 cases r with
 |none=>exact h.1
 |some c=>exact h.1
theorem CodePost.up {w w1 w':World}{tb:Nat}{r:Option Int}{ev:Ending}(hb:Below w.heap.size w w1)(h:CodePost w1 tb r ev w'):CodePost w tb r ev w':=by
 cases r with
 |none=>exact⟨h.1,hb.trans (h.2.mono hb.size)⟩
 |some c=>
  obtain⟨h1,w2,h2,h3⟩:=h;exact⟨h1,w2,hb.trans (h2.mono hb.size),h3⟩
theorem FaultPost.up {w w1 w':World}{tb:Nat}{r:Option (Int × Int)}{ev:Ending}(hb:Below w.heap.size w w1)(h:FaultPost w1 tb r ev w'):FaultPost w tb r ev w':=by
 cases r with
 |none=>exact⟨h.1,hb.trans (h.2.mono hb.size)⟩
 |some c=>
  obtain⟨h1,w2,h2,h3⟩:=h;exact⟨h1,w2,hb.trans (h2.mono hb.size),h3⟩
theorem WithinPost.up {w w1 w':World}{tb:Nat}{r:Option Nat}{ev:Ending}(hb:Below w.heap.size w w1)(h:WithinPost w1 tb r ev w'):WithinPost w tb r ev w':=by
 cases r with
 |none=>exact⟨h.1,hb.trans (h.2.mono hb.size)⟩
 |some c=>
  obtain⟨h1,w2,h2,h3⟩:=h;exact⟨h1,w2,hb.trans (h2.mono hb.size),h3⟩
theorem zsy (e:Err)(tb:Nat)(x y:Value)(w:World)(he:e.In w)(ht:w.cell? ⟨tb,0,none⟩=some x)(ht1:w.cell? ⟨tb,1,none⟩=some y)(hf:w.frozen? ⟨tb,0,none⟩=false)(hf1:w.frozen? ⟨tb,1,none⟩=false)(t:Value) :
  Calls Tryz.prog 86 #[e.val,t,vOf 133 ⟨w.heap.size,0,none⟩ 150,rt 106] ((w.alloc (.cells #[.pointer (some ⟨tb,0,none⟩)] 133)).alloc (.cells #[hnd 133,.pointer (some ⟨w.heap.size,0,none⟩),.int .u64 150] 154)) fun ev w'=>FaultPost w tb (Err.faultOf e) ev w':=by
 have hb:Below w.heap.size w ((w.alloc (.cells #[.pointer (some ⟨tb,0,none⟩)] 133)).alloc (.cells #[hnd 133,.pointer (some ⟨w.heap.size,0,none⟩),.int .u64 150] 154)):=((Below.refl _ _).alloc (Nat.le_refl _) _).alloc (by simp) _;have hl:=zai ht;have hc:=bcell hb;exact(zzi e w.heap.size tb t x y _ (he.kept hb (Nat.le_refl _)) (by rw[World.cell?_alloc_lt _ _ ⟨w.heap.size,0,none⟩ (by simp)];simp) (by rw[hc.1 _ _ hl];exact ht) (by rw[hc.1 _ _ hl];exact ht1) (by rw[hc.2 _ _ hl];exact hf) (by rw[hc.2 _ _ hl];exact hf1)).mono fun ev w' h=>h.up hb
theorem zzj (e:Err)(tb:Nat)(x y:Value)(w:World)(he:e.In w)(hg:w.cell? ⟨0,0,none⟩=some (rt 28))(ht:w.cell? ⟨tb,0,none⟩=some x)(ht1:w.cell? ⟨tb,1,none⟩=some y)(hf:w.frozen? ⟨tb,0,none⟩=false)(hf1:w.frozen? ⟨tb,1,none⟩=false) :
  Calls Tryz.prog 60 #[e.val,.iface 133 (.pointer (some ⟨tb,0,none⟩))] w fun ev w'=>FaultPost w tb (Err.faultOf e) ev w':=by
 have h29:=@run_callFunc_extern Tryz.prog 83 _ (fun args=>ReflectliteValue.unpack (args.getD 0 (.tuple #[]))) Tryz.func83 (by kernel_rfl) (by kernel_rfl) (by kernel_rfl) (by kernel_rfl);have h30:=@run_callFunc_extern Tryz.prog 84 _ (ReflectliteValue.methodAny (ReflectliteValue.valueError "reflectlite.Value.Type" 0) (fun t _ _ _=>ReflectliteType.toType t)) Tryz.func84 (by kernel_rfl) (by kernel_rfl) (by kernel_rfl) (by kernel_rfl);have h31:=@run_callFunc_extern Tryz.prog 85 _ (ReflectliteValue.method (ReflectliteValue.valueError "reflectlite.Value.IsNil" 0) ReflectliteValue.isNil) Tryz.func85 (by kernel_rfl) (by kernel_rfl) (by kernel_rfl) (by kernel_rfl);have h54:=@run_callFunc_extern Tryz.prog 157 _ (ReflectliteType.abiMethod fun t=>do pure (.int .u8 (<- Rtype.kind t))) Tryz.func157 (by kernel_rfl) (by kernel_rfl) (by kernel_rfl) (by kernel_rfl);have h83:=@run_callFunc_extern Tryz.prog 185 _ (ReflectliteType.method ReflectliteType.elem) Tryz.func185 (by kernel_rfl) (by kernel_rfl) (by kernel_rfl) (by kernel_rfl);have h84:=@run_callFunc_extern Tryz.prog 186 _ (ReflectliteType.relation "Implements" ReflectliteType.implements_) Tryz.func186 (by kernel_rfl) (by kernel_rfl) (by kernel_rfl) (by kernel_rfl);have v1:=zlo;have v2:=zst;have v3:=zsu;have v4:=zu9;have v5:=zsv;have v6:=zi1;have mK:=zu2;have mE:=zu3;have mI:=ze2;have e1:=zi2 e;have e2:=zi3 e;have hlt:=zai ht;have hlg:=zai hg;have hb:Below w.heap.size w ((w.alloc (.cells #[.pointer (some ⟨tb,0,none⟩)] 133)).alloc (.cells #[hnd 133,.pointer (some ⟨w.heap.size,0,none⟩),.int .u64 150] 154)):=((Below.refl _ _).alloc (Nat.le_refl _) _).alloc (by simp) _;have hc:=zsy e tb x y w he ht ht1 hf hf1;have n8:=zo9 ⟨w.heap.size,0,none⟩ ⟨tb,0,none⟩ ((w.alloc (.cells #[.pointer (some ⟨tb,0,none⟩)] 133)).alloc (.cells #[hnd 133,.pointer (some ⟨w.heap.size,0,none⟩),.int .u64 150] 154)) (by rw[World.cell?_alloc_lt _ _ ⟨w.heap.size,0,none⟩ (by simp)];simp);have hg2:((w.alloc (.cells #[.pointer (some ⟨tb,0,none⟩)] 133)).alloc (.cells #[hnd 133,.pointer (some ⟨w.heap.size,0,none⟩),.int .u64 150] 154)).cell? ⟨0,0,none⟩=some (rt 28):=by
  rw[World.cell?_alloc_lt _ _ ⟨0,0,none⟩ (by simp<;>omega),World.cell?_alloc_lt _ _ ⟨0,0,none⟩ hlg];exact hg
 have HB:=Lib.hid hb;clear hg hb he ht hf;go_enter Tryz.func60,Tryz.ntmps60
 go_wp2_with (go_at_call 86;refine(hc _).mono ?_;intro ev w1 hp;obtain rfl:=hp.ret;have HP:=Lib.hid hp;clear hp)
 go_ret;exact HP.out
end Go.Proofs.YtnmflokhnaiiiaaGreatDoor
namespace Go.Proofs.YtnmflokhnaiiiaaGreatDoor
theorem zvb (w:World):CallsD Tryz.prog 61 #[] .returning w fun e u' w'=>u'=.returning/\e=.returned (.tuple #[])/\w'=w:=by
 refine callsD_of_wpS Tryz.func61 rfl fun c₀ cs hu=>?_
 apply wpS_region;simp[wpOpsS,go_sem,recoverD,hu,Tryz.ntmps61];cases c₀
 simp_all [bodyPostS,results,Tryz.results61]
open Go.RowKit Go.Extern.Stop Go.Stop Go.Extern
theorem zh0 (e:Err)(c p:Int)(w:World)(hc:Err.faultOf e=some (c,p))(he:e.In w)(hg:w.cell? ⟨0,0,none⟩=some (rt 28)) :
  Calls Tryz.prog 60 #[e.val,.iface 133 (.pointer (some ⟨w.heap.size,0,none⟩))] (w.alloc (.cells #[.int .i64 0,.int .i64 0] 106)) fun ev w'=>ev=.returned (.bool true)/\w'.cell? ⟨w.heap.size,0,none⟩=some (.int .i64 c)/\w'.cell? ⟨w.heap.size,1,none⟩=some (.int .i64 p)/\Below w.heap.size w w'/\w.heap.size<w'.heap.size/\∀o,w'.frozen? ⟨w.heap.size,o,none⟩=false:=by
 have hb0:Below w.heap.size w (w.alloc (.cells #[.int .i64 0,.int .i64 0] 106)):=(Below.refl _ _).alloc (Nat.le_refl _) _;have hlg:=zai hg;refine(zzj e w.heap.size (.int .i64 0) (.int .i64 0) (w.alloc (.cells #[.int .i64 0,.int .i64 0] 106)) (he.kept hb0 (Nat.le_refl _)) (by rw[World.cell?_alloc_lt _ _ ⟨0,0,none⟩ hlg];exact hg) (by simp) (by simp) (by simp) (by simp)).mono ?_;intro ev w' h;rw[hc] at h;obtain⟨h1,w1,h2,rfl⟩:=h;have hz:=h2.size;simp at hz;refine⟨h1,?_,?_,?_,?_,fun o=>?_⟩
 ·rw[World.cell?_setCell_other _ _ _ _ (by simp),World.cell?_setCell_same' _ _ _ (by rw[(bcell h2).1 _ _ (by simp)];simp)]
 ·exact World.cell?_setCell_same' _ _ _ (by rw[World.cell?_setCell_other _ _ _ _ (by simp),(bcell h2).1 _ _ (by simp)];simp)
 ·exact((hb0.trans (h2.mono (by simp))).setCell (by simp) _).setCell (by simp) _
 ·simp;omega
 ·rw[World.frozen?_setCell,World.frozen?_setCell,(bcell h2).2 _ _ (by simp)];simp
theorem zi5 (e:Err)(c p:Int)(w:World)(hc:e.faultOf=some (c,p))(he:e.In w)(hg:w.cell? ⟨0,0,none⟩=some (rt 28)) :
  Calls Tryz.prog 42 #[e.val] w fun ev w'=>ev=.returned (.tuple #[.agg #[.int .i64 c,.int .i64 p],.bool true])/\Below w.heap.size w w':=by
 have hlg:=zai hg;have hb0:Below w.heap.size w (w.alloc (.cells #[.int .i64 0,.int .i64 0] 106)):=(Below.refl _ _).alloc (Nat.le_refl _) _;have hA:=zh0 e c p (w.alloc (.cells #[.int .i64 0,.int .i64 0] 106)) hc (he.kept hb0 (Nat.le_refl _)) (by rw[World.cell?_alloc_lt _ _ ⟨0,0,none⟩ hlg];exact hg);have hs:(w.alloc (.cells #[.int .i64 0,.int .i64 0] 106)).heap.size=w.heap.size+1:=by simp
 rw[hs] at hA;clear hc he hg hlg hs;have HB0:=Lib.hid hb0;clear hb0
 go_enter_defers Tryz.func42,Tryz.ntmps42
 go_wp2_with (go_at_call 60;refine hA.mono ?_;rintro ev w1 ⟨rfl,h0,h1,hb,hz,hf⟩;have r0:w1.cell? ⟨w.heap.size,0,none⟩=some (.int .i64 0):=(by rw[(bcell hb).1 _ _ (by simp<;>omega)];simp);have r1:w1.cell? ⟨w.heap.size,1,none⟩=some (.int .i64 0):=(by rw[(bcell hb).1 _ _ (by simp<;>omega)];simp);have rf0:w1.frozen? ⟨w.heap.size,0,none⟩=false:=(by rw[(bcell hb).2 _ _ (by simp<;>omega)];simp);have rf1:w1.frozen? ⟨w.heap.size,1,none⟩=false:=(by rw[(bcell hb).2 _ _ (by simp<;>omega)];simp);replace hb:=HB0.out.trans (hb.mono (by simp<;>omega));have HB:=Lib.hid hb;clear hb)
 refine leaves_cons (f:=61) (args:=#[]) (by simp) (by simp[go_sem]) ?_;refine(zvb _).mono ?_;rintro e u' w'' ⟨rfl,rfl,hw⟩;have c0:w''.cell? ⟨w.heap.size,0,none⟩=some (.int .i64 c):=by rw[hw];simp[go_sem,r0,World.cell?_setCell_other]
 have c1:w''.cell? ⟨w.heap.size,1,none⟩=some (.int .i64 p):=by rw[hw];exact World.cell?_setCell_same' _ _ _ (by rw[World.cell?_setCell_other _ _ _ _ (by simp),World.cell?_setCell_same' _ _ _ (by rw[World.cell?_setCell_other _ _ _ _ (by simp),r1];rfl)];rfl)
 have hb:Below w.heap.size w w'':=by rw[hw];exact(((HB.out.setCell (Nat.le_refl _) _).setCell (Nat.le_refl _) _).setCell (Nat.le_refl _) _).setCell (Nat.le_refl _) _
 clear hw;simp[Leaves,settle,results,Tryz.results42,go_sem,c0,c1,hb]
end Go.Proofs.YtnmflokhnaiiiaaGreatDoor
namespace Go.Proofs.YtnmflokhnaiiiaaGreatDoor
open Go.RowKit
theorem z30 (e:Err)(c p:Int)(w:World)(hc:e.faultOf=some (c,p))(he:e.In w)(hg:w.cell? ⟨0,0,none⟩=some (rt 28)) :
  Calls Tryz.prog 15 #[e.val] w fun ev w'=>ev=.returned (.tuple #[.int .i64 p,.bool true])/\Below w.heap.size w w':=by
 have hA:=zi5 e c p w hc he hg;clear hc he hg;go_enter Tryz.func15,Tryz.ntmps15
 go_wp2_with (go_at_call 42;refine hA.mono ?_;rintro ev w1 ⟨rfl,hb⟩;have HB:=Lib.hid hb;clear hb)
 go_ret2
 exact⟨rfl,HB.out.alloc HB.out.size _⟩
theorem zvc (c p:Int)(w:World) :
  Calls Tryz.prog 58 #[.int .i64 c,.int .i64 p] w fun ev w'=>ev=.returned (.iface 106 (.agg #[.int .i64 c,.int .i64 p]))/\w'=w:=by
 go_enter Tryz.func58,Tryz.ntmps58;go_wp2;go_ret;exact⟨rfl,rfl⟩
theorem zki (r:ByteArray)(w:World) :
  Calls Tryz.prog 37 #[.string r,.nilIface] w fun ev w'=>ev=.returned .nilIface/\w'=w:=by
 go_enter Tryz.func37,Tryz.ntmps37;go_wp2;go_ret;exact⟨rfl,rfl⟩
end Go.Proofs.YtnmflokhnaiiiaaGreatDoor
