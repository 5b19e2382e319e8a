/- What an error of this program may be, as a tree; the value that stands for it; and that it lies in memory as it did as long as old memory stays as it was. No wa -/
import Derived.Test.YtnmflokhnaiiiaaGreatDoorProg
import Derived.WalkKit
import Derived.ProofKit
import Derived.LaidEql
import Derived.Stop.Asserts
import Derived.RowKitTokens
import Derived.Lib.Hide
import Derived.Laws.Cells
import Derived.Deep.LoopGhost
import Derived.Outline
import Derived.Handy
import Derived.Defers
import Derived.Recover
import Derived.Tactics
import Derived.Tactics2
import Derived.Test.YtnmflokhnaiiiaaGreatDoorPkB
import Derived.Test.YtnmflokhnaiiiaaGreatDoorPkJ
set_option maxRecDepth 100000
set_option maxHeartbeats 2000000
namespace Go.Proofs.YtnmflokhnaiiiaaGreatDoor
open Go.RowKit
def Err.withinOf:Err->Option Nat
 |.code _=>none
 |.fault _ _=>none
 |.within b _ _=>some b
open Go.RowKit Go.Extern.Stop Go.Stop Go.Extern
theorem zm3 (v:Value)(xT:TypeId)(w:World):(Instr.typeAssert (.iface 106 v) xT 184 true).run Tryz.prog w=.ok (.tuple #[.nilIface,.bool false]) w:=run_typeAssert_lacksB Tryz.underlying184 (by kernel_rfl) (by kernel_rfl) v xT w
theorem zfp (v:Value)(xT:TypeId)(w:World):(Instr.typeAssert (.iface 106 v) xT 187 true).run Tryz.prog w=.ok (.tuple #[.iface 106 v,.bool true]) w:=run_typeAssert_hasB Tryz.underlying187 (by kernel_rfl) v xT w
theorem zm4 (t:Addr)(w:World):(ReflectliteValue.unpack (.iface 132 (.pointer (some t)))).run Tryz.prog w
  = .ok (vOf 132 ⟨w.heap.size,0,none⟩ 150) (w.alloc (.cells #[.pointer (some t)] 132)):=by kernel_rfl
theorem zu4 (a:Addr)(w:World):(ReflectliteValue.methodAny (ReflectliteValue.valueError "reflectlite.Value.Type" 0) (fun t _ _ _=>ReflectliteType.toType t) #[vOf 132 a 150]).run Tryz.prog w
  = .ok (rt 132) w:=by kernel_rfl
theorem zu5 (w:World):((ReflectliteType.abiMethod fun t=>(fun a:Nat=>Value.int IntKind.u8 (a:Int)) <$> Rtype.kind t) #[hnd 132]).run Tryz.prog w=.ok (.int .u8 22) w:=by kernel_rfl
theorem zzg (w:World):((ReflectliteType.abiMethod fun t=>(fun a:Nat=>Value.int IntKind.u8 (a:Int)) <$> Rtype.kind t) #[hnd 47]).run Tryz.prog w=.ok (.int .u8 2) w:=by kernel_rfl
theorem zkh (a:Addr)(w:World):(ReflectliteValue.parts (vOf 132 a 150)).run Tryz.prog w=.ok (some (132,a,150)) w:=by kernel_rfl
theorem zsp (a p:Addr)(W:World)(ha:W.cell? a=some (.pointer (some p))) :
  (ReflectliteValue.method (ReflectliteValue.valueError "reflectlite.Value.IsNil" 0) ReflectliteValue.isNil #[vOf 132 a 150]).run Tryz.prog W=.ok (.bool false) W:=by
 rw[rlm];simp only[Sem.run_bind,zkh,Result.andThen];simp[ReflectliteValue.isNil,loadVar,isAgg,underlying,Tryz.underlying132,ha,Result.andThen]
theorem zu6 (w:World):(ReflectliteType.method ReflectliteType.elem #[.agg #[hnd 132]]).run Tryz.prog w=.ok (rt 47) w:=by kernel_rfl
theorem zjy (w:World):(ReflectliteType.relation "Implements" ReflectliteType.implements_ #[.agg #[hnd 47],rt 28]).run Tryz.prog w=.ok (.bool true) w:=by kernel_rfl
theorem zo8 (c:Int)(w:World):(ReflectliteValue.unpack (.iface 47 (.int .i64 c))).run Tryz.prog w
  = .ok (vOf 47 ⟨w.heap.size,0,none⟩ 130) (w.alloc (.cells #[.int .i64 c] 47)):=by kernel_rfl
theorem zsq (w:World):(Rtype.elem? 132).run Tryz.prog w=.ok (some 47) w:=by kernel_rfl
theorem z6g (p:Addr)(w:World):(ReflectliteValue.mk 47 p ReflectliteValue.flagAddr).run Tryz.prog w=.ok (vOf 47 p 386) w:=by kernel_rfl
theorem zu7 (a p:Addr)(W:World)(ha:W.cell? a=some (.pointer (some p))) :
  (ReflectliteValue.method (ReflectliteValue.valueError "reflectlite.Value.Elem" 0) ReflectliteValue.elem #[vOf 132 a 150]).run Tryz.prog W
   = .ok (vOf 47 p 386) W:=by
 rw[rlm];simp only[Sem.run_bind,zkh,Result.andThen];simp[ReflectliteValue.elem,loadVar,isAgg,underlying,Tryz.underlying132,ha,Result.andThen,zsq,z6g]
theorem zsr (a:Addr)(w:World):(ReflectliteValue.parts (vOf 47 a 386)).run Tryz.prog w=.ok (some (47,a,386)) w:=by kernel_rfl
theorem zu8 (a:Addr)(w:World):(ReflectliteValue.parts (vOf 47 a 130)).run Tryz.prog w=.ok (some (47,a,130)) w:=by kernel_rfl
theorem zss (w:World):(Rtype.directlyAssignable 47 47).run Tryz.prog w=.ok true w:=by kernel_rfl
theorem zhz (w:World):(ReflectliteType.relation "AssignableTo" ReflectliteType.assignableTo #[.agg #[hnd 47],rt 47]).run Tryz.prog w=.ok (.bool true) w:=by kernel_rfl
theorem zha (w:World):(ReflectliteType.relation "AssignableTo" ReflectliteType.assignableTo #[.agg #[hnd 106],rt 47]).run Tryz.prog w=.ok (.bool false) w:=by kernel_rfl
theorem zge (w:World):(ReflectliteType.relation "AssignableTo" ReflectliteType.assignableTo #[.agg #[hnd 109],rt 47]).run Tryz.prog w=.ok (.bool false) w:=by kernel_rfl
theorem zj0 (t:Addr)(w:World):(ReflectliteValue.unpack (.iface 134 (.pointer (some t)))).run Tryz.prog w
  = .ok (vOf 134 ⟨w.heap.size,0,none⟩ 150) (w.alloc (.cells #[.pointer (some t)] 134)):=by kernel_rfl
theorem zpd (a:Addr)(w:World):(ReflectliteValue.methodAny (ReflectliteValue.valueError "reflectlite.Value.Type" 0) (fun t _ _ _=>ReflectliteType.toType t) #[vOf 134 a 150]).run Tryz.prog w
  = .ok (rt 134) w:=by kernel_rfl
theorem zpe (w:World):((ReflectliteType.abiMethod fun t=>(fun a:Nat=>Value.int IntKind.u8 (a:Int)) <$> Rtype.kind t) #[hnd 134]).run Tryz.prog w=.ok (.int .u8 22) w:=by kernel_rfl
theorem zsz (w:World):((ReflectliteType.abiMethod fun t=>(fun a:Nat=>Value.int IntKind.u8 (a:Int)) <$> Rtype.kind t) #[hnd 109]).run Tryz.prog w=.ok (.int .u8 22) w:=by kernel_rfl
theorem zhu (a:Addr)(w:World):(ReflectliteValue.parts (vOf 134 a 150)).run Tryz.prog w=.ok (some (134,a,150)) w:=by kernel_rfl
theorem zm7 (a p:Addr)(W:World)(ha:W.cell? a=some (.pointer (some p))) :
  (ReflectliteValue.method (ReflectliteValue.valueError "reflectlite.Value.IsNil" 0) ReflectliteValue.isNil #[vOf 134 a 150]).run Tryz.prog W=.ok (.bool false) W:=by
 rw[rlm];simp only[Sem.run_bind,zhu,Result.andThen];simp[ReflectliteValue.isNil,loadVar,isAgg,underlying,Tryz.underlying134,ha,Result.andThen]
theorem zpf (w:World):(ReflectliteType.method ReflectliteType.elem #[.agg #[hnd 134]]).run Tryz.prog w=.ok (rt 109) w:=by kernel_rfl
theorem zh1 (w:World):(ReflectliteType.relation "Implements" ReflectliteType.implements_ #[.agg #[hnd 109],rt 28]).run Tryz.prog w=.ok (.bool true) w:=by kernel_rfl
theorem zlp (e:Addr)(w:World):(ReflectliteValue.unpack (.iface 109 (.pointer (some e)))).run Tryz.prog w
  = .ok (vOf 109 ⟨w.heap.size,0,none⟩ 150) (w.alloc (.cells #[.pointer (some e)] 109)):=by kernel_rfl
theorem zm8 (w:World):(Rtype.elem? 134).run Tryz.prog w=.ok (some 109) w:=by kernel_rfl
theorem zzl (p:Addr)(w:World):(ReflectliteValue.mk 109 p ReflectliteValue.flagAddr).run Tryz.prog w=.ok (vOf 109 p 406) w:=by kernel_rfl
theorem zpg (a p:Addr)(W:World)(ha:W.cell? a=some (.pointer (some p))) :
  (ReflectliteValue.method (ReflectliteValue.valueError "reflectlite.Value.Elem" 0) ReflectliteValue.elem #[vOf 134 a 150]).run Tryz.prog W
   = .ok (vOf 109 p 406) W:=by
 rw[rlm];simp only[Sem.run_bind,zhu,Result.andThen];simp[ReflectliteValue.elem,loadVar,isAgg,underlying,Tryz.underlying134,ha,Result.andThen,zm8,zzl]
theorem zm9 (a:Addr)(w:World):(ReflectliteValue.parts (vOf 109 a 406)).run Tryz.prog w=.ok (some (109,a,406)) w:=by kernel_rfl
theorem zph (a:Addr)(w:World):(ReflectliteValue.parts (vOf 109 a 150)).run Tryz.prog w=.ok (some (109,a,150)) w:=by kernel_rfl
theorem zna (w:World):(Rtype.directlyAssignable 109 109).run Tryz.prog w=.ok true w:=by kernel_rfl
theorem zgh (w:World):(ReflectliteType.relation "AssignableTo" ReflectliteType.assignableTo #[.agg #[hnd 47],rt 109]).run Tryz.prog w=.ok (.bool false) w:=by kernel_rfl
theorem zfz (w:World):(ReflectliteType.relation "AssignableTo" ReflectliteType.assignableTo #[.agg #[hnd 106],rt 109]).run Tryz.prog w=.ok (.bool false) w:=by kernel_rfl
theorem zfo (w:World):(ReflectliteType.relation "AssignableTo" ReflectliteType.assignableTo #[.agg #[hnd 109],rt 109]).run Tryz.prog w=.ok (.bool true) w:=by kernel_rfl
theorem z3x (ta b:Addr)(c:Int)(old:Value)(W:World)(hb:W.cell? b=some (.int .i64 c))(ht:W.cell? ta=some old)(hf:W.frozen? ta=false) :
  (ReflectliteValue.set #[vOf 47 ta 386,vOf 47 b 130]).run Tryz.prog W=.ok (.tuple #[]) (W.setCell ta (.int .i64 c)):=by
 rw[rls];simp only[Sem.run_bind,zsr,zu8,Result.andThen];simp[ReflectliteValue.flagAddr,loadVar,isAgg,underlying,Tryz.underlying47,hb,Result.andThen,zss,storeVar,Value.cells,storeCells,Addr.add];rw[run_store Tryz.prog W ta _ _ (by rfl)];simp[ht,hf]
theorem zvd (ta b e:Addr)(old:Value)(W:World)(hb:W.cell? b=some (.pointer (some e)))(ht:W.cell? ta=some old)(hf:W.frozen? ta=false) :
  (ReflectliteValue.set #[vOf 109 ta 406,vOf 109 b 150]).run Tryz.prog W=.ok (.tuple #[]) (W.setCell ta (.pointer (some e))):=by
 rw[rls];simp only[Sem.run_bind,zm9,zph,Result.andThen];simp[ReflectliteValue.flagAddr,loadVar,isAgg,underlying,Tryz.underlying109,hb,Result.andThen,zna,storeVar,Value.cells,storeCells,Addr.add];rw[run_store Tryz.prog W ta _ _ (by rfl)];simp[ht,hf]
theorem zht (c p:Int)(w:World) :
  Calls Tryz.prog 176 #[.agg #[.int .i64 c,.int .i64 p]] w fun ev w'=>ev=.returned (.iface 47 (.int .i64 c))/\Below w.heap.size w w':=by
 go_enter Tryz.func176,Tryz.ntmps176;go_wp2;go_ret;exact⟨rfl,by go_grown⟩
theorem z3y (e:Err)(a tb:Nat)(t x:Value)(w:World)(he:e.In w)(ha:w.cell? ⟨a,0,none⟩=some (.pointer (some ⟨tb,0,none⟩)))(ht:w.cell? ⟨tb,0,none⟩=some x)(hf:w.frozen? ⟨tb,0,none⟩=false) :
  Calls Tryz.prog 86 #[e.val,t,vOf 132 ⟨a,0,none⟩ 150,rt 47] w fun ev w'=>CodePost w tb (Err.codeOf e) ev w':=by
 have h33:=@run_callFunc_extern Tryz.prog 105 _ ReflectliteType.typeOf Tryz.func105 (by kernel_rfl) (by kernel_rfl) (by kernel_rfl) (by kernel_rfl);have h81:=@run_callFunc_extern Tryz.prog 183 _ (ReflectliteType.relation "AssignableTo" ReflectliteType.assignableTo) Tryz.func183 (by kernel_rfl) (by kernel_rfl) (by kernel_rfl) (by kernel_rfl);have h38:=@run_callFunc_extern Tryz.prog 106 _ (ReflectliteValue.method (ReflectliteValue.valueError "reflectlite.Value.Elem" 0) ReflectliteValue.elem) Tryz.func106 (by kernel_rfl) (by kernel_rfl) (by kernel_rfl) (by kernel_rfl);have h39:=@run_callFunc_extern Tryz.prog 107 _ ReflectliteValue.set Tryz.func107 (by kernel_rfl) (by kernel_rfl) (by kernel_rfl) (by kernel_rfl);have h29:=@run_callFunc_extern Tryz.prog 83 _ (fun args=>ReflectliteValue.unpack (args.getD 0 (.tuple #[]))) Tryz.func83 (by kernel_rfl) (by kernel_rfl) (by kernel_rfl) (by kernel_rfl);have mA:=ze3;have hla:=zai ha;have hlt:=zai ht;have HA:=Lib.hid ha;have HT:=Lib.hid ht;have HF:=Lib.hid hf;have HE:=Lib.hid he;clear he ha ht hf;go_enter Tryz.func86,Tryz.ntmps86;go_wp2
 go_loopg [0] e.deep (fun k err wr=>AsRel Err.codeOf (w.alloc (.cells #[hnd 132,.pointer (some ⟨a,0,none⟩),.int .u64 150] 154)) (Err.codeOf e) k err wr)
 case atStart=>exact⟨e,rfl,rfl,HE.out.kept ((Below.refl _ _).alloc (Nat.le_refl _) _) (Nat.le_refl _),rfl,Below.refl _ _⟩
 case round=>
  obtain⟨d,hk,rfl,hd,hr,hb⟩:=hrel;have hb0:Below w.heap.size w wr:=((Below.refl w.heap.size w).alloc (Nat.le_refl _) _).trans (hb.mono (by simp));cases d with
  |code c=>
   have tC:=zg9;have aC:=zhz;have hbc:=bcell hb;have bx0:wr.cell? ⟨w.heap.size,0,none⟩=some (hnd 132):=by rw[hbc.1 _ _ (by simp)];simp
   have bx1:wr.cell? ⟨w.heap.size,1,none⟩=some (.pointer (some ⟨a,0,none⟩)):=by rw[hbc.1 _ _ (by simp)];simp
   have bx2:wr.cell? ⟨w.heap.size,2,none⟩=some (.int .u64 150):=by rw[hbc.1 _ _ (by simp)];simp
   have hz:w.heap.size<wr.heap.size:=by have:=hb.size;simp at this;omega
   have vC:=zo8;have el:=zu7 ⟨a,0,none⟩ ⟨tb,0,none⟩ wr (by rw[hbc.1 _ _ (by simp;omega),World.cell?_alloc_lt _ _ ⟨a,0,none⟩ hla];exact HA.out);have st:=z3x ⟨tb,0,none⟩ ⟨wr.heap.size,0,none⟩ c x (wr.alloc (.cells #[.int .i64 c] 47)) (by simp)
    (by rw[World.cell?_alloc_lt _ _ ⟨tb,0,none⟩ (by simp;omega),hbc.1 _ _ (by simp;omega),World.cell?_alloc_lt _ _ ⟨tb,0,none⟩ hlt];exact HT.out)
    (by rw[World.frozen?_alloc_old _ _ ⟨tb,0,none⟩ (by simp;omega),hbc.2 _ _ (by simp;omega),World.frozen?_alloc_old _ _ ⟨tb,0,none⟩ (by simp;omega)];exact HF.out)
   have HB:=Lib.hid hb0;have HR:=Lib.hid hr;clear hb hb0 hr hk hd hbc;simp only[Err.val];go_wp2;go_ret;rw[<-HR.out];exact⟨rfl,_,HB.out.alloc (Nat.le_of_lt hz) _,rfl⟩
  |fault c p=>
   have tC:=zfx;have aC:=zha;have nC:=zm3;have uC:=zfp;have HB:=Lib.hid hb;have HR:=Lib.hid hr;have HK:=Lib.hid hk;clear hb hb0 hr hk hd;simp only[Err.val];have e1:=zi2 (.code c);have e2:=zi3 (.code c);simp only[Err.val] at e1 e2
   go_wp2_with (go_at_call 176;refine(zht _ _ _).mono ?_;rintro ev w1 ⟨rfl,hb1⟩;have HB1:=Lib.hid hb1;clear hb1)
   go_roundg 0
   case measure=>rw[<-HK.out];exact Nat.zero_lt_one
   case rel=>exact⟨.code c,rfl,rfl,trivial,HR.out,HB.out.trans (HB1.out.mono HB.out.size)⟩
  |within b r d=>
   have tC:=ze4;have aC:=zge;have nC:=zkg;have uC:=ze5;obtain⟨hd0,hd1,hd2⟩:=hd;have HB:=Lib.hid hb;have HR:=Lib.hid hr;have HK:=Lib.hid hk;have HD:=Lib.hid hd2;clear hb hb0 hr hk hd0 hd2;simp only[Err.val];have e1:=zi2 d;have e2:=zi3 d
   go_wp2_with (go_at_call 178;refine(zgg _ d _ hd1).mono ?_;rintro ev w1 ⟨rfl,rfl⟩)
   go_roundg d.deep
   case measure=>rw[<-HK.out];exact Nat.lt_succ_self _
   case rel=>exact⟨d,rfl,rfl,HD.out,HR.out,HB.out⟩
theorem zve (e:Err)(a tb:Nat)(t x:Value)(w:World)(he:e.In w)(ha:w.cell? ⟨a,0,none⟩=some (.pointer (some ⟨tb,0,none⟩)))(ht:w.cell? ⟨tb,0,none⟩=some x)(hf:w.frozen? ⟨tb,0,none⟩=false) :
  Calls Tryz.prog 86 #[e.val,t,vOf 134 ⟨a,0,none⟩ 150,rt 109] w fun ev w'=>WithinPost w tb (Err.withinOf e) ev w':=by
 have h33:=@run_callFunc_extern Tryz.prog 105 _ ReflectliteType.typeOf Tryz.func105 (by kernel_rfl) (by kernel_rfl) (by kernel_rfl) (by kernel_rfl);have h81:=@run_callFunc_extern Tryz.prog 183 _ (ReflectliteType.relation "AssignableTo" ReflectliteType.assignableTo) Tryz.func183 (by kernel_rfl) (by kernel_rfl) (by kernel_rfl) (by kernel_rfl);have h38:=@run_callFunc_extern Tryz.prog 106 _ (ReflectliteValue.method (ReflectliteValue.valueError "reflectlite.Value.Elem" 0) ReflectliteValue.elem) Tryz.func106 (by kernel_rfl) (by kernel_rfl) (by kernel_rfl) (by kernel_rfl);have h39:=@run_callFunc_extern Tryz.prog 107 _ ReflectliteValue.set Tryz.func107 (by kernel_rfl) (by kernel_rfl) (by kernel_rfl) (by kernel_rfl);have h29:=@run_callFunc_extern Tryz.prog 83 _ (fun args=>ReflectliteValue.unpack (args.getD 0 (.tuple #[]))) Tryz.func83 (by kernel_rfl) (by kernel_rfl) (by kernel_rfl) (by kernel_rfl);have mA:=ze3;have hla:=zai ha;have hlt:=zai ht;have HA:=Lib.hid ha;have HT:=Lib.hid ht;have HF:=Lib.hid hf;have HE:=Lib.hid he;clear he ha ht hf;go_enter Tryz.func86,Tryz.ntmps86;go_wp2
 go_loopg [0] e.deep (fun k err wr=>AsRel Err.withinOf (w.alloc (.cells #[hnd 134,.pointer (some ⟨a,0,none⟩),.int .u64 150] 154)) (Err.withinOf e) k err wr)
 case atStart=>exact⟨e,rfl,rfl,HE.out.kept ((Below.refl _ _).alloc (Nat.le_refl _) _) (Nat.le_refl _),rfl,Below.refl _ _⟩
 case round=>
  obtain⟨d,hk,rfl,hd,hr,hb⟩:=hrel;have hb0:Below w.heap.size w wr:=((Below.refl w.heap.size w).alloc (Nat.le_refl _) _).trans (hb.mono (by simp));cases d with
  |code c=>
   have tC:=zg9;have aC:=zgh;have nC:=zq3;have uC:=zhs;have lC:=zgd;have HB:=Lib.hid hb0;have HR:=Lib.hid hr;clear hb hb0 hr hk hd;simp only[Err.val];go_wp2;go_ret;rw[<-HR.out];exact⟨rfl,HB.out⟩
  |fault c p=>
   have tC:=zfx;have aC:=zfz;have nC:=zm3;have uC:=zfp;have HB:=Lib.hid hb;have HR:=Lib.hid hr;have HK:=Lib.hid hk;clear hb hb0 hr hk hd;simp only[Err.val];have e1:=zi2 (.code c);have e2:=zi3 (.code c);simp only[Err.val] at e1 e2
   go_wp2_with (go_at_call 176;refine(zht _ _ _).mono ?_;rintro ev w1 ⟨rfl,hb1⟩;have HB1:=Lib.hid hb1;clear hb1)
   go_roundg 0
   case measure=>rw[<-HK.out];exact Nat.zero_lt_one
   case rel=>exact⟨.code c,rfl,rfl,trivial,HR.out,HB.out.trans (HB1.out.mono HB.out.size)⟩
  |within b r d=>
   have tC:=ze4;have aC:=zfo;have hbc:=bcell hb;have bx0:wr.cell? ⟨w.heap.size,0,none⟩=some (hnd 134):=by rw[hbc.1 _ _ (by simp)];simp
   have bx1:wr.cell? ⟨w.heap.size,1,none⟩=some (.pointer (some ⟨a,0,none⟩)):=by rw[hbc.1 _ _ (by simp)];simp
   have bx2:wr.cell? ⟨w.heap.size,2,none⟩=some (.int .u64 150):=by rw[hbc.1 _ _ (by simp)];simp
   have hz:w.heap.size<wr.heap.size:=by have:=hb.size;simp at this;omega
   have vC:=zlp;have el:=zpg ⟨a,0,none⟩ ⟨tb,0,none⟩ wr (by rw[hbc.1 _ _ (by simp;omega),World.cell?_alloc_lt _ _ ⟨a,0,none⟩ hla];exact HA.out);have st:=zvd ⟨tb,0,none⟩ ⟨wr.heap.size,0,none⟩ ⟨b,0,none⟩ x (wr.alloc (.cells #[.pointer (some ⟨b,0,none⟩)] 109)) (by simp)
    (by rw[World.cell?_alloc_lt _ _ ⟨tb,0,none⟩ (by simp;omega),hbc.1 _ _ (by simp;omega),World.cell?_alloc_lt _ _ ⟨tb,0,none⟩ hlt];exact HT.out)
    (by rw[World.frozen?_alloc_old _ _ ⟨tb,0,none⟩ (by simp;omega),hbc.2 _ _ (by simp;omega),World.frozen?_alloc_old _ _ ⟨tb,0,none⟩ (by simp;omega)];exact HF.out)
   have HB:=Lib.hid hb0;have HR:=Lib.hid hr;clear hb hb0 hr hk hd hbc;simp only[Err.val];go_wp2;go_ret;rw[<-HR.out];exact⟨rfl,_,HB.out.alloc (Nat.le_of_lt hz) _,rfl⟩
theorem zva (e:Err)(tb:Nat)(x:Value)(w:World)(he:e.In w)(ht:w.cell? ⟨tb,0,none⟩=some x)(hf:w.frozen? ⟨tb,0,none⟩=false)(t:Value) :
  Calls Tryz.prog 86 #[e.val,t,vOf 132 ⟨w.heap.size,0,none⟩ 150,rt 47] ((w.alloc (.cells #[.pointer (some ⟨tb,0,none⟩)] 132)).alloc (.cells #[hnd 132,.pointer (some ⟨w.heap.size,0,none⟩),.int .u64 150] 154)) fun ev w'=>CodePost w tb (Err.codeOf e) ev w':=by
 have hb:Below w.heap.size w ((w.alloc (.cells #[.pointer (some ⟨tb,0,none⟩)] 132)).alloc (.cells #[hnd 132,.pointer (some ⟨w.heap.size,0,none⟩),.int .u64 150] 154)):=((Below.refl _ _).alloc (Nat.le_refl _) _).alloc (by simp) _;have hl:=zai ht;have hc:=bcell hb;exact(z3y e w.heap.size tb t x _ (he.kept hb (Nat.le_refl _)) (by rw[World.cell?_alloc_lt _ _ ⟨w.heap.size,0,none⟩ (by simp)];simp) (by rw[hc.1 _ _ hl];exact ht) (by rw[hc.2 _ _ hl];exact hf)).mono fun ev w' h=>h.up hb
theorem z3z (e:Err)(tb:Nat)(x:Value)(w:World)(he:e.In w)(hg:w.cell? ⟨0,0,none⟩=some (rt 28))(ht:w.cell? ⟨tb,0,none⟩=some x)(hf:w.frozen? ⟨tb,0,none⟩=false) :
  Calls Tryz.prog 60 #[e.val,.iface 132 (.pointer (some ⟨tb,0,none⟩))] w fun ev w'=>CodePost w tb (Err.codeOf e) ev w':=by
 have h29:=@run_callFunc_extern Tryz.prog 83 _ (fun args=>ReflectliteValue.unpack (args.getD 0 (.tuple #[]))) Tryz.func83 (by kernel_rfl) (by kernel_rfl) (by kernel_rfl) (by kernel_rfl);have h30:=@run_callFunc_extern Tryz.prog 84 _ (ReflectliteValue.methodAny (ReflectliteValue.valueError "reflectlite.Value.Type" 0) (fun t _ _ _=>ReflectliteType.toType t)) Tryz.func84 (by kernel_rfl) (by kernel_rfl) (by kernel_rfl) (by kernel_rfl);have h31:=@run_callFunc_extern Tryz.prog 85 _ (ReflectliteValue.method (ReflectliteValue.valueError "reflectlite.Value.IsNil" 0) ReflectliteValue.isNil) Tryz.func85 (by kernel_rfl) (by kernel_rfl) (by kernel_rfl) (by kernel_rfl);have h54:=@run_callFunc_extern Tryz.prog 157 _ (ReflectliteType.abiMethod fun t=>do pure (.int .u8 (<- Rtype.kind t))) Tryz.func157 (by kernel_rfl) (by kernel_rfl) (by kernel_rfl) (by kernel_rfl);have h83:=@run_callFunc_extern Tryz.prog 185 _ (ReflectliteType.method ReflectliteType.elem) Tryz.func185 (by kernel_rfl) (by kernel_rfl) (by kernel_rfl) (by kernel_rfl);have h84:=@run_callFunc_extern Tryz.prog 186 _ (ReflectliteType.relation "Implements" ReflectliteType.implements_) Tryz.func186 (by kernel_rfl) (by kernel_rfl) (by kernel_rfl) (by kernel_rfl);have v1:=zm4;have v2:=zu4;have v3:=zu5;have v4:=zzg;have v5:=zu6;have v6:=zjy;have mK:=zu2;have mE:=zu3;have mI:=ze2;have e1:=zi2 e;have e2:=zi3 e;have hlt:=zai ht;have hlg:=zai hg;have hb:Below w.heap.size w ((w.alloc (.cells #[.pointer (some ⟨tb,0,none⟩)] 132)).alloc (.cells #[hnd 132,.pointer (some ⟨w.heap.size,0,none⟩),.int .u64 150] 154)):=((Below.refl _ _).alloc (Nat.le_refl _) _).alloc (by simp) _;have hc:=zva e tb x w he ht hf;have n8:=zsp ⟨w.heap.size,0,none⟩ ⟨tb,0,none⟩ ((w.alloc (.cells #[.pointer (some ⟨tb,0,none⟩)] 132)).alloc (.cells #[hnd 132,.pointer (some ⟨w.heap.size,0,none⟩),.int .u64 150] 154)) (by rw[World.cell?_alloc_lt _ _ ⟨w.heap.size,0,none⟩ (by simp)];simp);have hg2:((w.alloc (.cells #[.pointer (some ⟨tb,0,none⟩)] 132)).alloc (.cells #[hnd 132,.pointer (some ⟨w.heap.size,0,none⟩),.int .u64 150] 154)).cell? ⟨0,0,none⟩=some (rt 28):=by
  rw[World.cell?_alloc_lt _ _ ⟨0,0,none⟩ (by simp<;>omega),World.cell?_alloc_lt _ _ ⟨0,0,none⟩ hlg];exact hg
 have HB:=Lib.hid hb;clear hg hb he ht hf;go_enter Tryz.func60,Tryz.ntmps60
 go_wp2_with (go_at_call 86;refine(hc _).mono ?_;intro ev w1 hp;obtain rfl:=hp.ret;have HP:=Lib.hid hp;clear hp)
 go_ret;exact HP.out
theorem zpi (e:Err)(tb:Nat)(x:Value)(w:World)(he:e.In w)(ht:w.cell? ⟨tb,0,none⟩=some x)(hf:w.frozen? ⟨tb,0,none⟩=false)(t:Value) :
  Calls Tryz.prog 86 #[e.val,t,vOf 134 ⟨w.heap.size,0,none⟩ 150,rt 109] ((w.alloc (.cells #[.pointer (some ⟨tb,0,none⟩)] 134)).alloc (.cells #[hnd 134,.pointer (some ⟨w.heap.size,0,none⟩),.int .u64 150] 154)) fun ev w'=>WithinPost w tb (Err.withinOf e) ev w':=by
 have hb:Below w.heap.size w ((w.alloc (.cells #[.pointer (some ⟨tb,0,none⟩)] 134)).alloc (.cells #[hnd 134,.pointer (some ⟨w.heap.size,0,none⟩),.int .u64 150] 154)):=((Below.refl _ _).alloc (Nat.le_refl _) _).alloc (by simp) _;have hl:=zai ht;have hc:=bcell hb;exact(zve e w.heap.size tb t x _ (he.kept hb (Nat.le_refl _)) (by rw[World.cell?_alloc_lt _ _ ⟨w.heap.size,0,none⟩ (by simp)];simp) (by rw[hc.1 _ _ hl];exact ht) (by rw[hc.2 _ _ hl];exact hf)).mono fun ev w' h=>h.up hb
theorem zvf (e:Err)(tb:Nat)(x:Value)(w:World)(he:e.In w)(hg:w.cell? ⟨0,0,none⟩=some (rt 28))(ht:w.cell? ⟨tb,0,none⟩=some x)(hf:w.frozen? ⟨tb,0,none⟩=false) :
  Calls Tryz.prog 60 #[e.val,.iface 134 (.pointer (some ⟨tb,0,none⟩))] w fun ev w'=>WithinPost w tb (Err.withinOf e) ev w':=by
 have h29:=@run_callFunc_extern Tryz.prog 83 _ (fun args=>ReflectliteValue.unpack (args.getD 0 (.tuple #[]))) Tryz.func83 (by kernel_rfl) (by kernel_rfl) (by kernel_rfl) (by kernel_rfl);have h30:=@run_callFunc_extern Tryz.prog 84 _ (ReflectliteValue.methodAny (ReflectliteValue.valueError "reflectlite.Value.Type" 0) (fun t _ _ _=>ReflectliteType.toType t)) Tryz.func84 (by kernel_rfl) (by kernel_rfl) (by kernel_rfl) (by kernel_rfl);have h31:=@run_callFunc_extern Tryz.prog 85 _ (ReflectliteValue.method (ReflectliteValue.valueError "reflectlite.Value.IsNil" 0) ReflectliteValue.isNil) Tryz.func85 (by kernel_rfl) (by kernel_rfl) (by kernel_rfl) (by kernel_rfl);have h54:=@run_callFunc_extern Tryz.prog 157 _ (ReflectliteType.abiMethod fun t=>do pure (.int .u8 (<- Rtype.kind t))) Tryz.func157 (by kernel_rfl) (by kernel_rfl) (by kernel_rfl) (by kernel_rfl);have h83:=@run_callFunc_extern Tryz.prog 185 _ (ReflectliteType.method ReflectliteType.elem) Tryz.func185 (by kernel_rfl) (by kernel_rfl) (by kernel_rfl) (by kernel_rfl);have h84:=@run_callFunc_extern Tryz.prog 186 _ (ReflectliteType.relation "Implements" ReflectliteType.implements_) Tryz.func186 (by kernel_rfl) (by kernel_rfl) (by kernel_rfl) (by kernel_rfl);have v1:=zj0;have v2:=zpd;have v3:=zpe;have v4:=zsz;have v5:=zpf;have v6:=zh1;have mK:=zu2;have mE:=zu3;have mI:=ze2;have e1:=zi2 e;have e2:=zi3 e;have hlt:=zai ht;have hlg:=zai hg;have hb:Below w.heap.size w ((w.alloc (.cells #[.pointer (some ⟨tb,0,none⟩)] 134)).alloc (.cells #[hnd 134,.pointer (some ⟨w.heap.size,0,none⟩),.int .u64 150] 154)):=((Below.refl _ _).alloc (Nat.le_refl _) _).alloc (by simp) _;have hc:=zpi e tb x w he ht hf;have n8:=zm7 ⟨w.heap.size,0,none⟩ ⟨tb,0,none⟩ ((w.alloc (.cells #[.pointer (some ⟨tb,0,none⟩)] 134)).alloc (.cells #[hnd 134,.pointer (some ⟨w.heap.size,0,none⟩),.int .u64 150] 154)) (by rw[World.cell?_alloc_lt _ _ ⟨w.heap.size,0,none⟩ (by simp)];simp);have hg2:((w.alloc (.cells #[.pointer (some ⟨tb,0,none⟩)] 134)).alloc (.cells #[hnd 134,.pointer (some ⟨w.heap.size,0,none⟩),.int .u64 150] 154)).cell? ⟨0,0,none⟩=some (rt 28):=by
  rw[World.cell?_alloc_lt _ _ ⟨0,0,none⟩ (by simp<;>omega),World.cell?_alloc_lt _ _ ⟨0,0,none⟩ hlg];exact hg
 have HB:=Lib.hid hb;clear hg hb he ht hf;go_enter Tryz.func60,Tryz.ntmps60
 go_wp2_with (go_at_call 86;refine(hc _).mono ?_;intro ev w1 hp;obtain rfl:=hp.ret;have HP:=Lib.hid hp;clear hp)
 go_ret;exact HP.out
end Go.Proofs.YtnmflokhnaiiiaaGreatDoor
namespace Go.Proofs.YtnmflokhnaiiiaaGreatDoor
theorem zzk (w:World):CallsD Tryz.prog 59 #[] .returning w fun e u' w'=>u'=.returning/\e=.returned (.tuple #[])/\w'=w:=by
 refine callsD_of_wpS Tryz.func59 rfl fun c₀ cs hu=>?_
 apply wpS_region;simp[wpOpsS,go_sem,recoverD,hu,Tryz.ntmps59];cases c₀
 simp_all [bodyPostS,results,Tryz.results59]
theorem zs0 (w:World):CallsD Tryz.prog 62 #[] .returning w fun e u' w'=>u'=.returning/\e=.returned (.tuple #[])/\w'=w:=by
 refine callsD_of_wpS Tryz.func62 rfl fun c₀ cs hu=>?_
 apply wpS_region;simp[wpOpsS,go_sem,recoverD,hu,Tryz.ntmps62];cases c₀
 simp_all [bodyPostS,results,Tryz.results62]
open Go.RowKit Go.Extern.Stop Go.Stop Go.Extern
theorem zi4 (e:Err)(c:Int)(w:World)(hc:Err.codeOf e=some c)(he:e.In w)(hg:w.cell? ⟨0,0,none⟩=some (rt 28)) :
  Calls Tryz.prog 60 #[e.val,.iface 132 (.pointer (some ⟨w.heap.size,0,none⟩))] (w.alloc (.cells #[.int .i64 0] 47)) fun ev w'=>ev=.returned (.bool true)/\w'.cell? ⟨w.heap.size,0,none⟩=some (.int .i64 c)/\Below w.heap.size w w'/\w.heap.size<w'.heap.size/\∀o,w'.frozen? ⟨w.heap.size,o,none⟩=false:=by
 have hb0:Below w.heap.size w (w.alloc (.cells #[.int .i64 0] 47)):=(Below.refl _ _).alloc (Nat.le_refl _) _;have hlg:=zai hg;refine(z3z e w.heap.size (.int .i64 0) (w.alloc (.cells #[.int .i64 0] 47)) (he.kept hb0 (Nat.le_refl _)) (by rw[World.cell?_alloc_lt _ _ ⟨0,0,none⟩ hlg];exact hg) (by simp) (by simp)).mono ?_;intro ev w' h;rw[hc] at h;obtain⟨h1,w1,h2,rfl⟩:=h;have hz:=h2.size;simp at hz;refine⟨h1,?_,?_,?_,fun o=>?_⟩
 ·exact World.cell?_setCell_same' _ _ _ (by rw[(bcell h2).1 _ _ (by simp)];simp)
 ·exact(hb0.trans (h2.mono (by simp))).setCell (by simp) _
 ·simp;omega
 ·rw[World.frozen?_setCell,(bcell h2).2 _ _ (by simp)];simp
theorem zhc (e:Err)(b:Nat)(w:World)(hc:Err.withinOf e=some b)(he:e.In w)(hg:w.cell? ⟨0,0,none⟩=some (rt 28)) :
  Calls Tryz.prog 60 #[e.val,.iface 134 (.pointer (some ⟨w.heap.size,0,none⟩))] (w.alloc (.cells #[.pointer none] 109)) fun ev w'=>ev=.returned (.bool true)/\w'.cell? ⟨w.heap.size,0,none⟩=some (.pointer (some ⟨b,0,none⟩))/\Below w.heap.size w w'/\w.heap.size<w'.heap.size/\∀o,w'.frozen? ⟨w.heap.size,o,none⟩=false:=by
 have hb0:Below w.heap.size w (w.alloc (.cells #[.pointer none] 109)):=(Below.refl _ _).alloc (Nat.le_refl _) _;have hlg:=zai hg;refine(zvf e w.heap.size (.pointer none) (w.alloc (.cells #[.pointer none] 109)) (he.kept hb0 (Nat.le_refl _)) (by rw[World.cell?_alloc_lt _ _ ⟨0,0,none⟩ hlg];exact hg) (by simp) (by simp)).mono ?_;intro ev w' h;rw[hc] at h;obtain⟨h1,w1,h2,rfl⟩:=h;have hz:=h2.size;simp at hz;refine⟨h1,?_,?_,?_,fun o=>?_⟩
 ·exact World.cell?_setCell_same' _ _ _ (by rw[(bcell h2).1 _ _ (by simp)];simp)
 ·exact(hb0.trans (h2.mono (by simp))).setCell (by simp) _
 ·simp;omega
 ·rw[World.frozen?_setCell,(bcell h2).2 _ _ (by simp)];simp
theorem zjz (e:Err)(c:Int)(w:World)(hc:Err.codeOf e=some c)(he:e.In w)(hg:w.cell? ⟨0,0,none⟩=some (rt 28)) :
  Calls Tryz.prog 41 #[e.val] w fun ev w'=>ev=.returned (.tuple #[.int .i64 c,.bool true])/\Below w.heap.size w w':=by
 have hA:=zi4 e c w hc he hg;clear hc he hg
 go_enter_defers Tryz.func41,Tryz.ntmps41
 go_wp2_with (go_at_call 60;refine hA.mono ?_;rintro ev w1 ⟨rfl,h1,hb,hz,hf⟩;have HB:=Lib.hid hb;clear hb)
 refine leaves_cons (f:=59) (args:=#[]) (by simp) (by simp[go_sem]) ?_;refine(zzk _).mono ?_;rintro e u' w'' ⟨rfl,rfl,rfl⟩;simp[Leaves,settle,results,Tryz.results41,go_sem,HB.out]
theorem zh2 (e:Err)(b:Nat)(w:World)(hc:Err.withinOf e=some b)(he:e.In w)(hg:w.cell? ⟨0,0,none⟩=some (rt 28)) :
  Calls Tryz.prog 43 #[e.val] w fun ev w'=>ev=.returned (.tuple #[.pointer (some ⟨b,0,none⟩),.bool true])/\Below w.heap.size w w':=by
 have hA:=zhc e b w hc he hg;clear hc he hg
 go_enter_defers Tryz.func43,Tryz.ntmps43
 go_wp2_with (go_at_call 60;refine hA.mono ?_;rintro ev w1 ⟨rfl,h1,hb,hz,hf⟩;have HB:=Lib.hid hb;clear hb)
 refine leaves_cons (f:=62) (args:=#[]) (by simp) (by simp[go_sem]) ?_;refine(zs0 _).mono ?_;rintro e u' w'' ⟨rfl,rfl,rfl⟩;simp[Leaves,settle,results,Tryz.results43,go_sem,HB.out]
end Go.Proofs.YtnmflokhnaiiiaaGreatDoor
namespace Go.Proofs.YtnmflokhnaiiiaaGreatDoor
open Go.RowKit
theorem zm6 (e:Err)(c:Int)(w:World)(hc:e.codeOf=some c)(he:e.In w)(hg:w.cell? ⟨0,0,none⟩=some (rt 28)) :
  Calls Tryz.prog 14 #[e.val] w fun ev w'=>ev=.returned (.tuple #[.int .i64 c,.bool true])/\Below w.heap.size w w':=by
 have hA:=zjz e c w hc he hg;clear hc he hg;go_enter Tryz.func14,Tryz.ntmps14
 go_wp2_with (go_at_call 41;refine hA.mono ?_;rintro ev w1 ⟨rfl,hb⟩;have HB:=Lib.hid hb;clear hb)
 go_ret2
 exact⟨rfl,HB.out⟩
theorem zpj (b:Nat)(r:ByteArray)(e:Err)(w:World)(he:(Err.within b r e).In w)(hg:w.cell? ⟨0,0,none⟩=some (rt 28)) :
  Calls Tryz.prog 16 #[.iface 109 (.pointer (some ⟨b,0,none⟩))] w fun ev w'=>ev=.returned (.tuple #[.string r,.bool true])/\Below w.heap.size w w':=by
 have hA:=zh2 (Err.within b r e) b w rfl he hg;simp only[Err.val] at hA;have h0:=he.1;have hl:=zai h0;clear he hg;have H0:=Lib.hid h0;clear h0;go_enter Tryz.func16,Tryz.ntmps16
 go_wp2_with (go_at_call 43;refine hA.mono ?_;rintro ev w1 ⟨rfl,hb⟩;have h1:w1.cell? ⟨b,0,none⟩=some (.string r):=(by rw[(bcell hb).1 _ _ hl];exact H0.out);have HB:=Lib.hid hb;clear hb)
 go_ret2
 exact⟨rfl,HB.out⟩
end Go.Proofs.YtnmflokhnaiiiaaGreatDoor
