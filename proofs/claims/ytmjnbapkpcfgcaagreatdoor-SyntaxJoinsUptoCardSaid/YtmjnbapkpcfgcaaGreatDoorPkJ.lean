/- What an error of this program may be, as a tree; the value that stands for it; and that it lies in memory as it did as long as old memory stays as it was. No walk. Closed facts on this program's types, as the model's entries for package reflectlite see them, and on the methods that an error has. No walk. The one store of two cells that errors.As makes where the target is a fault. No walk. The two methods Unwrap of this program's errors, and what the comparison of an error with nil gives. The walk of errors.as where the target is a variable of the type of kind Code: whatever error stands before it, however often it is wrapped. The walk of errors.as where the target is a variable of the type of kind Fault: whatever error stands before it, however often it is wrapped. The walk of errors.as where the target is a variable of the type of kind Within: whatever error stands before it, however often it is wrapped. errors.As where the target is a variable of one of the three types that this program asks for, and where the error is nil. The three deferred literals of find: where nothing has panicked, recover finds nothing, and nothing changes. The three instances of find, at any error and at nil: the first error of the type in the chain, and whether there is one. The library's errors.As by its contracts; nothing that lay in memory before changes. The three instances of find, at any error and at nil: the first error of the type in the chain, and whether there is one. The library's errors -/
import Derived.Test.YtmjnbapkpcfgcaaGreatDoorProg
import Derived.WalkKit
import Derived.ProofKit
import Derived.LaidEql
import Derived.Stop.Asserts
import Derived.RowKitTokens
import Derived.Lib.Hide
import Derived.Laws.Cells
import Derived.Deep.LoopGhost
import Derived.Outline
import Derived.Handy
import Derived.Defers
import Derived.Recover
import Derived.Tactics
import Derived.Tactics2
import Derived.Test.YtmjnbapkpcfgcaaGreatDoorPkB
namespace Go.Proofs.YtmjnbapkpcfgcaaGreatDoor
open Go.RowKit
/-- An error: a code, a fault, a text of package errors, or one that Within has made. -/
inductive Err where
  | code (c : Int)
  | fault (c p : Int)
def Err.val : Err → Value
  | .code c => .iface 73 (.int .i64 c)
  | .fault c p => .iface 92 (.agg #[.int .i64 c, .int .i64 p])
/-- The dynamic type, and what the interface value holds. -/
def Err.ty : Err → Nat
  | .code _ => 73
  | .fault _ _ => 92
/-- How many errors stand behind it in its chain, a fault's code among them. -/
def Err.deep : Err → Nat
  | .code _ => 0
  | .fault _ _ => 1
def Err.In (_w : World) : Err → Prop
  | .code _ => True
  | .fault _ _ => True
/-- The first code in the chain. -/
def Err.codeOf : Err → Option Int
  | .code c => some c
  | .fault c _ => some c
def Err.faultOf : Err → Option (Int × Int)
  | .code _ => none
  | .fault c p => some (c, p)
theorem Err.In.kept {e : Err} {n : Nat} {w w1 : World} (h : e.In w) (_hb : Below n w w1) (_hn : w.heap.size ≤ n) : e.In w1 := by
  induction e with
  | code c => trivial
  | fault c p => trivial
end Go.Proofs.YtmjnbapkpcfgcaaGreatDoor
namespace Go.Proofs.YtmjnbapkpcfgcaaGreatDoor
open Go.RowKit Go.Extern.Stop Go.Stop Go.Extern
/-- The handle of a type. -/
abbrev hnd (t : Nat) : Value := .pointer (some ⟨3, t, none⟩)
abbrev rt (t : Nat) : Value := .iface 139 (.agg #[hnd t])
abbrev vOf (t : Nat) (a : Addr) (n : Int) : Value := .agg #[hnd t, .pointer (some a), .int .u64 n]
theorem m_kind (h : Value) (w : World) : (Go.method 248 139 (.agg #[h]) "Kind").run Tryz.prog w = .ok (127, h) w := by kernel_rfl
theorem m_elem (h : Value) (w : World) : (Go.method 248 139 (.agg #[h]) "Elem").run Tryz.prog w = .ok (139, .agg #[h]) w := by kernel_rfl
theorem m_implements (h : Value) (w : World) : (Go.method 248 139 (.agg #[h]) "Implements").run Tryz.prog w = .ok (140, .agg #[h]) w := by kernel_rfl
theorem m_assignable (h : Value) (w : World) : (Go.method 248 139 (.agg #[h]) "AssignableTo").run Tryz.prog w = .ok (137, .agg #[h]) w := by kernel_rfl
theorem rlm (z : Sem Value) (f : TypeId → Addr → Nat → Nat → Sem Value) (v : Value) :
    ReflectliteValue.method z f #[v] = (do match ← ReflectliteValue.parts v with | none => z | some (t, a, fl) => f t a fl (fl % 32)) := rfl
theorem rls (v x : Value) : ReflectliteValue.set #[v, x] = (do
    let (some (dst, a, fl), some (src, b, _)) := (← ReflectliteValue.parts v, ← ReflectliteValue.parts x)
      | unsupported (.noEntry "extern/(internal/reflectlite.Value).Set.zeroValue")
    if fl / ReflectliteValue.flagAddr % 2 == 0 then unsupported (.noEntry "extern/(internal/reflectlite.Value).Set.unaddressable")
    let val ← loadVar src b
    if ← Rtype.directlyAssignable dst src then storeVar dst a val
    else if ← Rtype.implements dst src then
      if (← Rtype.kind src) == 20 then
        match val with
        | .nilIface => unsupported (.noEntry "extern/reflectlite: a nil value of one interface type handed on as a value of another")
        | _ => storeVar dst a val
      else storeVar dst a (.iface src val)
    else panicString ("reflectlite.Set: value of type " ++ (← Rtype.spelt src) ++ " is not assignable to type " ++ (← Rtype.spelt dst))
    pure (.tuple #[])) := rfl
theorem typeOfCode (v : Value) (w : World) : (ReflectliteType.typeOf #[.iface 73 v]).run Tryz.prog w = .ok (rt 73) w := by kernel_rfl
theorem noAsCode (v : Value) (xT : TypeId) (w : World) : (Instr.typeAssert (.iface 73 v) xT 144 true).run Tryz.prog w = .ok (.tuple #[.nilIface, .bool false]) w := run_typeAssert_lacksB Tryz.underlying144 (by kernel_rfl) (by kernel_rfl) v xT w
theorem noUnwrapCode (v : Value) (xT : TypeId) (w : World) : (Instr.typeAssert (.iface 73 v) xT 147 true).run Tryz.prog w = .ok (.tuple #[.nilIface, .bool false]) w := run_typeAssert_lacksB Tryz.underlying147 (by kernel_rfl) (by kernel_rfl) v xT w
theorem noUnwrapLCode (v : Value) (xT : TypeId) (w : World) : (Instr.typeAssert (.iface 73 v) xT 149 true).run Tryz.prog w = .ok (.tuple #[.nilIface, .bool false]) w := run_typeAssert_lacksB Tryz.underlying149 (by kernel_rfl) (by kernel_rfl) v xT w
theorem typeOfFault (v : Value) (w : World) : (ReflectliteType.typeOf #[.iface 92 v]).run Tryz.prog w = .ok (rt 92) w := by kernel_rfl
theorem noAsFault (v : Value) (xT : TypeId) (w : World) : (Instr.typeAssert (.iface 92 v) xT 144 true).run Tryz.prog w = .ok (.tuple #[.nilIface, .bool false]) w := run_typeAssert_lacksB Tryz.underlying144 (by kernel_rfl) (by kernel_rfl) v xT w
theorem hasUnwrapFault (v : Value) (xT : TypeId) (w : World) : (Instr.typeAssert (.iface 92 v) xT 147 true).run Tryz.prog w = .ok (.tuple #[.iface 92 v, .bool true]) w := run_typeAssert_hasB Tryz.underlying147 (by kernel_rfl) v xT w
/-! ### The target Code -/
theorem valueOfPCode (t : Addr) (w : World) : (ReflectliteValue.unpack (.iface 109 (.pointer (some t)))).run Tryz.prog w
    = .ok (vOf 109 ⟨w.heap.size, 0, none⟩ 150) (w.alloc (.cells #[.pointer (some t)] 109)) := by kernel_rfl
theorem typePCode (a : Addr) (w : World) : (ReflectliteValue.methodAny (ReflectliteValue.valueError "reflectlite.Value.Type" 0) (fun t _ _ _ => ReflectliteType.toType t) #[vOf 109 a 150]).run Tryz.prog w
    = .ok (rt 109) w := by kernel_rfl
theorem kindPCode (w : World) : ((ReflectliteType.abiMethod fun t => (fun a : Nat => Value.int IntKind.u8 (a : Int)) <$> Rtype.kind t) #[hnd 109]).run Tryz.prog w = .ok (.int .u8 22) w := by kernel_rfl
theorem kindCode (w : World) : ((ReflectliteType.abiMethod fun t => (fun a : Nat => Value.int IntKind.u8 (a : Int)) <$> Rtype.kind t) #[hnd 73]).run Tryz.prog w = .ok (.int .u8 2) w := by kernel_rfl
theorem partsPCode (a : Addr) (w : World) : (ReflectliteValue.parts (vOf 109 a 150)).run Tryz.prog w = .ok (some (109, a, 150)) w := by kernel_rfl
theorem isNilPCode (a p : Addr) (W : World) (ha : W.cell? a = some (.pointer (some p))) :
    (ReflectliteValue.method (ReflectliteValue.valueError "reflectlite.Value.IsNil" 0) ReflectliteValue.isNil #[vOf 109 a 150]).run Tryz.prog W = .ok (.bool false) W := by
  rw [rlm]
  simp only [Sem.run_bind, partsPCode, Result.andThen]
  simp [ReflectliteValue.isNil, loadVar, isAgg, underlying, Tryz.underlying109, ha, Result.andThen]
theorem elemPCode (w : World) : (ReflectliteType.method ReflectliteType.elem #[.agg #[hnd 109]]).run Tryz.prog w = .ok (rt 73) w := by kernel_rfl
theorem implementsCode (w : World) : (ReflectliteType.relation "Implements" ReflectliteType.implements_ #[.agg #[hnd 73], rt 29]).run Tryz.prog w = .ok (.bool true) w := by kernel_rfl
theorem valueOfCode (c : Int) (w : World) : (ReflectliteValue.unpack (.iface 73 (.int .i64 c))).run Tryz.prog w
    = .ok (vOf 73 ⟨w.heap.size, 0, none⟩ 130) (w.alloc (.cells #[.int .i64 c] 73)) := by kernel_rfl
theorem elemOfCode (w : World) : (Rtype.elem? 109).run Tryz.prog w = .ok (some 73) w := by kernel_rfl
theorem mkCode (p : Addr) (w : World) : (ReflectliteValue.mk 73 p ReflectliteValue.flagAddr).run Tryz.prog w = .ok (vOf 73 p 386) w := by kernel_rfl
theorem elemVCode (a p : Addr) (W : World) (ha : W.cell? a = some (.pointer (some p))) :
    (ReflectliteValue.method (ReflectliteValue.valueError "reflectlite.Value.Elem" 0) ReflectliteValue.elem #[vOf 109 a 150]).run Tryz.prog W
      = .ok (vOf 73 p 386) W := by
  rw [rlm]
  simp only [Sem.run_bind, partsPCode, Result.andThen]
  simp [ReflectliteValue.elem, loadVar, isAgg, underlying, Tryz.underlying109, ha, Result.andThen, elemOfCode, mkCode]
theorem partsACode (a : Addr) (w : World) : (ReflectliteValue.parts (vOf 73 a 386)).run Tryz.prog w = .ok (some (73, a, 386)) w := by kernel_rfl
theorem partsCode (a : Addr) (w : World) : (ReflectliteValue.parts (vOf 73 a 130)).run Tryz.prog w = .ok (some (73, a, 130)) w := by kernel_rfl
theorem directCode (w : World) : (Rtype.directlyAssignable 73 73).run Tryz.prog w = .ok true w := by kernel_rfl
theorem assignCodeToCode (w : World) : (ReflectliteType.relation "AssignableTo" ReflectliteType.assignableTo #[.agg #[hnd 73], rt 73]).run Tryz.prog w = .ok (.bool true) w := by kernel_rfl
theorem assignFaultToCode (w : World) : (ReflectliteType.relation "AssignableTo" ReflectliteType.assignableTo #[.agg #[hnd 92], rt 73]).run Tryz.prog w = .ok (.bool false) w := by kernel_rfl
/-! ### The target Fault -/
theorem valueOfPFault (t : Addr) (w : World) : (ReflectliteValue.unpack (.iface 110 (.pointer (some t)))).run Tryz.prog w
    = .ok (vOf 110 ⟨w.heap.size, 0, none⟩ 150) (w.alloc (.cells #[.pointer (some t)] 110)) := by kernel_rfl
theorem typePFault (a : Addr) (w : World) : (ReflectliteValue.methodAny (ReflectliteValue.valueError "reflectlite.Value.Type" 0) (fun t _ _ _ => ReflectliteType.toType t) #[vOf 110 a 150]).run Tryz.prog w
    = .ok (rt 110) w := by kernel_rfl
theorem kindPFault (w : World) : ((ReflectliteType.abiMethod fun t => (fun a : Nat => Value.int IntKind.u8 (a : Int)) <$> Rtype.kind t) #[hnd 110]).run Tryz.prog w = .ok (.int .u8 22) w := by kernel_rfl
theorem kindFault (w : World) : ((ReflectliteType.abiMethod fun t => (fun a : Nat => Value.int IntKind.u8 (a : Int)) <$> Rtype.kind t) #[hnd 92]).run Tryz.prog w = .ok (.int .u8 25) w := by kernel_rfl
theorem partsPFault (a : Addr) (w : World) : (ReflectliteValue.parts (vOf 110 a 150)).run Tryz.prog w = .ok (some (110, a, 150)) w := by kernel_rfl
theorem isNilPFault (a p : Addr) (W : World) (ha : W.cell? a = some (.pointer (some p))) :
    (ReflectliteValue.method (ReflectliteValue.valueError "reflectlite.Value.IsNil" 0) ReflectliteValue.isNil #[vOf 110 a 150]).run Tryz.prog W = .ok (.bool false) W := by
  rw [rlm]
  simp only [Sem.run_bind, partsPFault, Result.andThen]
  simp [ReflectliteValue.isNil, loadVar, isAgg, underlying, Tryz.underlying110, ha, Result.andThen]
theorem elemPFault (w : World) : (ReflectliteType.method ReflectliteType.elem #[.agg #[hnd 110]]).run Tryz.prog w = .ok (rt 92) w := by kernel_rfl
theorem implementsFault (w : World) : (ReflectliteType.relation "Implements" ReflectliteType.implements_ #[.agg #[hnd 92], rt 29]).run Tryz.prog w = .ok (.bool true) w := by kernel_rfl
theorem valueOfFault (c p : Int) (w : World) : (ReflectliteValue.unpack (.iface 92 (.agg #[.int .i64 c, .int .i64 p]))).run Tryz.prog w
    = .ok (vOf 92 ⟨w.heap.size, 0, none⟩ 153) (w.alloc (.cells #[.int .i64 c, .int .i64 p] 92)) := by kernel_rfl
theorem elemOfFault (w : World) : (Rtype.elem? 110).run Tryz.prog w = .ok (some 92) w := by kernel_rfl
theorem mkFault (p : Addr) (w : World) : (ReflectliteValue.mk 92 p ReflectliteValue.flagAddr).run Tryz.prog w = .ok (vOf 92 p 409) w := by kernel_rfl
theorem elemVFault (a p : Addr) (W : World) (ha : W.cell? a = some (.pointer (some p))) :
    (ReflectliteValue.method (ReflectliteValue.valueError "reflectlite.Value.Elem" 0) ReflectliteValue.elem #[vOf 110 a 150]).run Tryz.prog W
      = .ok (vOf 92 p 409) W := by
  rw [rlm]
  simp only [Sem.run_bind, partsPFault, Result.andThen]
  simp [ReflectliteValue.elem, loadVar, isAgg, underlying, Tryz.underlying110, ha, Result.andThen, elemOfFault, mkFault]
theorem partsAFault (a : Addr) (w : World) : (ReflectliteValue.parts (vOf 92 a 409)).run Tryz.prog w = .ok (some (92, a, 409)) w := by kernel_rfl
theorem partsFault (a : Addr) (w : World) : (ReflectliteValue.parts (vOf 92 a 153)).run Tryz.prog w = .ok (some (92, a, 153)) w := by kernel_rfl
theorem directFault (w : World) : (Rtype.directlyAssignable 92 92).run Tryz.prog w = .ok true w := by kernel_rfl
theorem assignCodeToFault (w : World) : (ReflectliteType.relation "AssignableTo" ReflectliteType.assignableTo #[.agg #[hnd 73], rt 92]).run Tryz.prog w = .ok (.bool false) w := by kernel_rfl
theorem assignFaultToFault (w : World) : (ReflectliteType.relation "AssignableTo" ReflectliteType.assignableTo #[.agg #[hnd 92], rt 92]).run Tryz.prog w = .ok (.bool true) w := by kernel_rfl
theorem setCode (ta b : Addr) (c : Int) (old : Value) (W : World) (hb : W.cell? b = some (.int .i64 c)) (ht : W.cell? ta = some old) (hf : W.frozen? ta = false) :
    (ReflectliteValue.set #[vOf 73 ta 386, vOf 73 b 130]).run Tryz.prog W = .ok (.tuple #[]) (W.setCell ta (.int .i64 c)) := by
  rw [rls]
  simp only [Sem.run_bind, partsACode, partsCode, Result.andThen]
  simp [ReflectliteValue.flagAddr, loadVar, isAgg, underlying, Tryz.underlying73, hb, Result.andThen, directCode, storeVar, Value.cells, storeCells, Addr.add]
  rw [run_store Tryz.prog W ta _ _ (by rfl)]
  simp [ht, hf]
end Go.Proofs.YtmjnbapkpcfgcaaGreatDoor
namespace Go.Proofs.YtmjnbapkpcfgcaaGreatDoor
open Go.RowKit Go.Extern.Stop Go.Stop Go.Extern
theorem setFault (t b : Nat) (c p : Int) (x y : Value) (W : World) (hb : W.cell? ⟨b, 0, none⟩ = some (.int .i64 c)) (hb1 : W.cell? ⟨b, 1, none⟩ = some (.int .i64 p)) (ht : W.cell? ⟨t, 0, none⟩ = some x) (ht1 : W.cell? ⟨t, 1, none⟩ = some y)
    (hf : W.frozen? ⟨t, 0, none⟩ = false) (hf1 : W.frozen? ⟨t, 1, none⟩ = false) :
    (ReflectliteValue.set #[vOf 92 ⟨t, 0, none⟩ 409, vOf 92 ⟨b, 0, none⟩ 153]).run Tryz.prog W = .ok (.tuple #[]) ((W.setCell ⟨t, 0, none⟩ (.int .i64 c)).setCell ⟨t, 1, none⟩ (.int .i64 p)) := by
  rw [rls]
  simp only [Sem.run_bind, partsAFault, partsFault, Result.andThen]
  have hl : (loadCells ⟨b, 0, none⟩ 2).run Tryz.prog W = .ok #[.int .i64 c, .int .i64 p] W :=
    run_loadCells_list W ⟨b, 0, none⟩ [.int .i64 c, .int .i64 p] (fun j v h => by
      rcases j with _ | _ | j
      · simp at h; subst h; simpa [Addr.add] using hb
      · simp at h; subst h; simpa [Addr.add] using hb1
      · simp at h)
  simp [ReflectliteValue.flagAddr, loadVar, isAgg, underlying, Tryz.underlying92, Result.andThen, directFault, storeVar, Value.cells, storeCells, Addr.add, hl]
  rw [run_store Tryz.prog W ⟨t, 0, none⟩ _ _ (by rfl)]
  simp only [ht, hf, Bool.false_eq_true, if_false]
  rw [run_store Tryz.prog _ ⟨t, 1, none⟩ _ _ (by rfl)]
  simp [World.cell?_setCell_other, ht1, hf1]
end Go.Proofs.YtmjnbapkpcfgcaaGreatDoor
namespace Go.Proofs.YtmjnbapkpcfgcaaGreatDoor
open Go.RowKit Go.Extern.Stop Go.Stop Go.Extern
theorem unwrap_fault (c p : Int) (w : World) :
    Calls Tryz.prog 132 #[.agg #[.int .i64 c, .int .i64 p]] w fun ev w' => ev = .returned (.iface 73 (.int .i64 c)) ∧ Below w.heap.size w w' := by
  go_enter Tryz.func132, Tryz.ntmps132
  go_wp2
  go_ret
  exact ⟨rfl, by go_grown⟩
theorem eg_val (d : Err) (x y : Operand) (w : World) : (eqGuard .eql 29 x y d.val .nilIface).run Tryz.prog w = .ok () w := by
  cases d <;> rfl
theorem eq_val (d : Err) (w : World) : (binOp .eql 29 d.val .nilIface).run Tryz.prog w = .ok (.bool false) w := by
  cases d <;> kernel_rfl
/-- What holds at the head of a round of errors.as and of errors.is: the error at hand has in its chain what the first one had. -/
def AsRel {α : Type} (f : Err → α) (w : World) (r : α) (k : Nat) (err : Value) (wr : World) : Prop :=
  ∃ d : Err, d.deep = k ∧ err = d.val ∧ d.In wr ∧ f d = r ∧ Below w.heap.size w wr
/-- How errors.as ends: nothing found, or a value laid into the target's cells. -/
def CodePost (w : World) (tb : Nat) (r : Option Int) (ev : Ending) (w' : World) : Prop :=
  match r with
  | none => ev = .returned (.bool false) ∧ Below w.heap.size w w'
  | some c => ev = .returned (.bool true) ∧ ∃ w1, Below w.heap.size w w1 ∧ w' = w1.setCell ⟨tb, 0, none⟩ (.int .i64 c)
def FaultPost (w : World) (tb : Nat) (r : Option (Int × Int)) (ev : Ending) (w' : World) : Prop :=
  match r with
  | none => ev = .returned (.bool false) ∧ Below w.heap.size w w'
  | some (c, p) => ev = .returned (.bool true) ∧ ∃ w1, Below w.heap.size w w1 ∧ w' = (w1.setCell ⟨tb, 0, none⟩ (.int .i64 c)).setCell ⟨tb, 1, none⟩ (.int .i64 p)
def WithinPost (w : World) (tb : Nat) (r : Option Nat) (ev : Ending) (w' : World) : Prop :=
  match r with
  | none => ev = .returned (.bool false) ∧ Below w.heap.size w w'
  | some b => ev = .returned (.bool true) ∧ ∃ w1, Below w.heap.size w w1 ∧ w' = w1.setCell ⟨tb, 0, none⟩ (.pointer (some ⟨b, 0, none⟩))
end Go.Proofs.YtmjnbapkpcfgcaaGreatDoor
namespace Go.Proofs.YtmjnbapkpcfgcaaGreatDoor
open Go.RowKit Go.Extern.Stop Go.Stop Go.Extern
set_option maxHeartbeats 2000000 in
theorem as_Code (e : Err) (a tb : Nat) (t x : Value) (w : World) (he : e.In w) (ha : w.cell? ⟨a, 0, none⟩ = some (.pointer (some ⟨tb, 0, none⟩))) (ht : w.cell? ⟨tb, 0, none⟩ = some x) (hf : w.frozen? ⟨tb, 0, none⟩ = false) :
    Calls Tryz.prog 67 #[e.val, t, vOf 109 ⟨a, 0, none⟩ 150, rt 73] w fun ev w' => CodePost w tb (Err.codeOf e) ev w' := by
  have h33 := @run_callFunc_extern Tryz.prog 77 _ ReflectliteType.typeOf Tryz.func77 (by kernel_rfl) (by kernel_rfl) (by kernel_rfl) (by kernel_rfl)
  have h81 := @run_callFunc_extern Tryz.prog 137 _ (ReflectliteType.relation "AssignableTo" ReflectliteType.assignableTo) Tryz.func137 (by kernel_rfl) (by kernel_rfl) (by kernel_rfl) (by kernel_rfl)
  have h38 := @run_callFunc_extern Tryz.prog 78 _ (ReflectliteValue.method (ReflectliteValue.valueError "reflectlite.Value.Elem" 0) ReflectliteValue.elem) Tryz.func78 (by kernel_rfl) (by kernel_rfl) (by kernel_rfl) (by kernel_rfl)
  have h39 := @run_callFunc_extern Tryz.prog 79 _ ReflectliteValue.set Tryz.func79 (by kernel_rfl) (by kernel_rfl) (by kernel_rfl) (by kernel_rfl)
  have h29 := @run_callFunc_extern Tryz.prog 64 _ (fun args => ReflectliteValue.unpack (args.getD 0 (.tuple #[]))) Tryz.func64 (by kernel_rfl) (by kernel_rfl) (by kernel_rfl) (by kernel_rfl)
  have mA := m_assignable
  have hla := lt_of_cell ha
  have hlt := lt_of_cell ht
  have HA := Lib.hid ha
  have HT := Lib.hid ht
  have HF := Lib.hid hf
  have HE := Lib.hid he
  clear he ha ht hf
  go_enter Tryz.func67, Tryz.ntmps67
  go_wp2
  go_loopg [0] e.deep (fun k err wr => AsRel Err.codeOf (w.alloc (.cells #[hnd 109, .pointer (some ⟨a, 0, none⟩), .int .u64 150] 124)) (Err.codeOf e) k err wr)
  case atStart => exact ⟨e, rfl, rfl, HE.out.kept ((Below.refl _ _).alloc (Nat.le_refl _) _) (Nat.le_refl _), rfl, Below.refl _ _⟩
  case round =>
    obtain ⟨d, hk, rfl, hd, hr, hb⟩ := hrel
    have hb0 : Below w.heap.size w wr := ((Below.refl w.heap.size w).alloc (Nat.le_refl _) _).trans (hb.mono (by simp))
    cases d with
    | code c =>
      have tC := typeOfCode
      have aC := assignCodeToCode
      have hbc := bcell hb
      have bx0 : wr.cell? ⟨w.heap.size, 0, none⟩ = some (hnd 109) := by rw [hbc.1 _ _ (by simp)]; simp
      have bx1 : wr.cell? ⟨w.heap.size, 1, none⟩ = some (.pointer (some ⟨a, 0, none⟩)) := by rw [hbc.1 _ _ (by simp)]; simp
      have bx2 : wr.cell? ⟨w.heap.size, 2, none⟩ = some (.int .u64 150) := by rw [hbc.1 _ _ (by simp)]; simp
      have hz : w.heap.size < wr.heap.size := by have := hb.size; simp at this; omega
      have vC := valueOfCode
      have el := elemVCode ⟨a, 0, none⟩ ⟨tb, 0, none⟩ wr (by rw [hbc.1 _ _ (by simp; omega), World.cell?_alloc_lt _ _ ⟨a, 0, none⟩ hla]; exact HA.out)
      have st := setCode ⟨tb, 0, none⟩ ⟨wr.heap.size, 0, none⟩ c x (wr.alloc (.cells #[.int .i64 c] 73)) (by simp)
        (by rw [World.cell?_alloc_lt _ _ ⟨tb, 0, none⟩ (by simp; omega), hbc.1 _ _ (by simp; omega), World.cell?_alloc_lt _ _ ⟨tb, 0, none⟩ hlt]; exact HT.out)
        (by rw [World.frozen?_alloc_old _ _ ⟨tb, 0, none⟩ (by simp; omega), hbc.2 _ _ (by simp; omega), World.frozen?_alloc_old _ _ ⟨tb, 0, none⟩ (by simp; omega)]; exact HF.out)
      have HB := Lib.hid hb0
      have HR := Lib.hid hr
      clear hb hb0 hr hk hd hbc
      simp only [Err.val]
      go_wp2
      go_ret
      rw [← HR.out]
      exact ⟨rfl, _, HB.out.alloc (Nat.le_of_lt hz) _, rfl⟩
    | fault c p =>
      have tC := typeOfFault
      have aC := assignFaultToCode
      have nC := noAsFault
      have uC := hasUnwrapFault
      have HB := Lib.hid hb
      have HR := Lib.hid hr
      have HK := Lib.hid hk
      clear hb hb0 hr hk hd
      simp only [Err.val]
      have e1 := eg_val (.code c)
      have e2 := eq_val (.code c)
      simp only [Err.val] at e1 e2
      go_wp2_with (go_at_call 132; refine (unwrap_fault _ _ _).mono ?_; rintro ev w1 ⟨rfl, hb1⟩; have HB1 := Lib.hid hb1; clear hb1)
      go_roundg 0
      case measure => rw [← HK.out]; exact Nat.zero_lt_one
      case rel => exact ⟨.code c, rfl, rfl, trivial, HR.out, HB.out.trans (HB1.out.mono HB.out.size)⟩
end Go.Proofs.YtmjnbapkpcfgcaaGreatDoor
namespace Go.Proofs.YtmjnbapkpcfgcaaGreatDoor
open Go.RowKit Go.Extern.Stop Go.Stop Go.Extern
set_option maxHeartbeats 2000000 in
theorem as_Fault (e : Err) (a tb : Nat) (t x y : Value) (w : World) (he : e.In w) (ha : w.cell? ⟨a, 0, none⟩ = some (.pointer (some ⟨tb, 0, none⟩))) (ht : w.cell? ⟨tb, 0, none⟩ = some x) (ht1 : w.cell? ⟨tb, 1, none⟩ = some y) (hf : w.frozen? ⟨tb, 0, none⟩ = false) (hf1 : w.frozen? ⟨tb, 1, none⟩ = false) :
    Calls Tryz.prog 67 #[e.val, t, vOf 110 ⟨a, 0, none⟩ 150, rt 92] w fun ev w' => FaultPost w tb (Err.faultOf e) ev w' := by
  have h33 := @run_callFunc_extern Tryz.prog 77 _ ReflectliteType.typeOf Tryz.func77 (by kernel_rfl) (by kernel_rfl) (by kernel_rfl) (by kernel_rfl)
  have h81 := @run_callFunc_extern Tryz.prog 137 _ (ReflectliteType.relation "AssignableTo" ReflectliteType.assignableTo) Tryz.func137 (by kernel_rfl) (by kernel_rfl) (by kernel_rfl) (by kernel_rfl)
  have h38 := @run_callFunc_extern Tryz.prog 78 _ (ReflectliteValue.method (ReflectliteValue.valueError "reflectlite.Value.Elem" 0) ReflectliteValue.elem) Tryz.func78 (by kernel_rfl) (by kernel_rfl) (by kernel_rfl) (by kernel_rfl)
  have h39 := @run_callFunc_extern Tryz.prog 79 _ ReflectliteValue.set Tryz.func79 (by kernel_rfl) (by kernel_rfl) (by kernel_rfl) (by kernel_rfl)
  have h29 := @run_callFunc_extern Tryz.prog 64 _ (fun args => ReflectliteValue.unpack (args.getD 0 (.tuple #[]))) Tryz.func64 (by kernel_rfl) (by kernel_rfl) (by kernel_rfl) (by kernel_rfl)
  have mA := m_assignable
  have hla := lt_of_cell ha
  have hlt := lt_of_cell ht
  have HA := Lib.hid ha
  have HT := Lib.hid ht
  have HF := Lib.hid hf
  have HE := Lib.hid he
  clear he ha ht hf
  have HT1 := Lib.hid ht1
  have HF1 := Lib.hid hf1
  clear ht1 hf1
  go_enter Tryz.func67, Tryz.ntmps67
  go_wp2
  go_loopg [0] e.deep (fun k err wr => AsRel Err.faultOf (w.alloc (.cells #[hnd 110, .pointer (some ⟨a, 0, none⟩), .int .u64 150] 124)) (Err.faultOf e) k err wr)
  case atStart => exact ⟨e, rfl, rfl, HE.out.kept ((Below.refl _ _).alloc (Nat.le_refl _) _) (Nat.le_refl _), rfl, Below.refl _ _⟩
  case round =>
    obtain ⟨d, hk, rfl, hd, hr, hb⟩ := hrel
    have hb0 : Below w.heap.size w wr := ((Below.refl w.heap.size w).alloc (Nat.le_refl _) _).trans (hb.mono (by simp))
    cases d with
    | code c =>
      have tC := typeOfCode
      have aC := assignCodeToFault
      have nC := noAsCode
      have uC := noUnwrapCode
      have lC := noUnwrapLCode
      have HB := Lib.hid hb0
      have HR := Lib.hid hr
      clear hb hb0 hr hk hd
      simp only [Err.val]
      go_wp2
      go_ret
      rw [← HR.out]
      exact ⟨rfl, HB.out⟩
    | fault c p =>
      have tC := typeOfFault
      have aC := assignFaultToFault
      have hbc := bcell hb
      have bx0 : wr.cell? ⟨w.heap.size, 0, none⟩ = some (hnd 110) := by rw [hbc.1 _ _ (by simp)]; simp
      have bx1 : wr.cell? ⟨w.heap.size, 1, none⟩ = some (.pointer (some ⟨a, 0, none⟩)) := by rw [hbc.1 _ _ (by simp)]; simp
      have bx2 : wr.cell? ⟨w.heap.size, 2, none⟩ = some (.int .u64 150) := by rw [hbc.1 _ _ (by simp)]; simp
      have hz : w.heap.size < wr.heap.size := by have := hb.size; simp at this; omega
      have vC := valueOfFault
      have el := elemVFault ⟨a, 0, none⟩ ⟨tb, 0, none⟩ wr (by rw [hbc.1 _ _ (by simp; omega), World.cell?_alloc_lt _ _ ⟨a, 0, none⟩ hla]; exact HA.out)
      have st := setFault tb wr.heap.size c p x y (wr.alloc (.cells #[.int .i64 c, .int .i64 p] 92)) (by simp) (by simp)
        (by rw [World.cell?_alloc_lt _ _ ⟨tb, 0, none⟩ (by simp; omega), hbc.1 _ _ (by simp; omega), World.cell?_alloc_lt _ _ ⟨tb, 0, none⟩ hlt]; exact HT.out)
        (by rw [World.cell?_alloc_lt _ _ ⟨tb, 1, none⟩ (by simp; omega), hbc.1 _ _ (by simp; omega), World.cell?_alloc_lt _ _ ⟨tb, 1, none⟩ hlt]; exact HT1.out)
        (by rw [World.frozen?_alloc_old _ _ ⟨tb, 0, none⟩ (by simp; omega), hbc.2 _ _ (by simp; omega), World.frozen?_alloc_old _ _ ⟨tb, 0, none⟩ (by simp; omega)]; exact HF.out)
        (by rw [World.frozen?_alloc_old _ _ ⟨tb, 1, none⟩ (by simp; omega), hbc.2 _ _ (by simp; omega), World.frozen?_alloc_old _ _ ⟨tb, 1, none⟩ (by simp; omega)]; exact HF1.out)
      have HB := Lib.hid hb0
      have HR := Lib.hid hr
      clear hb hb0 hr hk hd hbc
      simp only [Err.val]
      go_wp2
      go_ret
      rw [← HR.out]
      exact ⟨rfl, _, HB.out.alloc (Nat.le_of_lt hz) _, rfl⟩
end Go.Proofs.YtmjnbapkpcfgcaaGreatDoor
namespace Go.Proofs.YtmjnbapkpcfgcaaGreatDoor
open Go.RowKit Go.Extern.Stop Go.Stop Go.Extern
end Go.Proofs.YtmjnbapkpcfgcaaGreatDoor
namespace Go.Proofs.YtmjnbapkpcfgcaaGreatDoor
open Go.RowKit Go.Extern.Stop Go.Stop Go.Extern
theorem CodePost.ret {w w' : World} {tb : Nat} {r : Option Int} {ev : Ending} (h : CodePost w tb r ev w') : ev = .returned (.bool r.isSome) := by
  cases r with
  | none => exact h.1
  | some c => exact h.1
theorem FaultPost.ret {w w' : World} {tb : Nat} {r : Option (Int × Int)} {ev : Ending} (h : FaultPost w tb r ev w') : ev = .returned (.bool r.isSome) := by
  cases r with
  | none => exact h.1
  | some c => exact h.1
theorem WithinPost.ret {w w' : World} {tb : Nat} {r : Option Nat} {ev : Ending} (h : WithinPost w tb r ev w') : ev = .returned (.bool r.isSome) := by
  cases r with
  | none => exact h.1
  | some c => exact h.1
theorem CodePost.up {w w1 w' : World} {tb : Nat} {r : Option Int} {ev : Ending} (hb : Below w.heap.size w w1) (h : CodePost w1 tb r ev w') : CodePost w tb r ev w' := by
  cases r with
  | none => exact ⟨h.1, hb.trans (h.2.mono hb.size)⟩
  | some c =>
    obtain ⟨h1, w2, h2, h3⟩ := h
    exact ⟨h1, w2, hb.trans (h2.mono hb.size), h3⟩
theorem FaultPost.up {w w1 w' : World} {tb : Nat} {r : Option (Int × Int)} {ev : Ending} (hb : Below w.heap.size w w1) (h : FaultPost w1 tb r ev w') : FaultPost w tb r ev w' := by
  cases r with
  | none => exact ⟨h.1, hb.trans (h.2.mono hb.size)⟩
  | some c =>
    obtain ⟨h1, w2, h2, h3⟩ := h
    exact ⟨h1, w2, hb.trans (h2.mono hb.size), h3⟩
theorem WithinPost.up {w w1 w' : World} {tb : Nat} {r : Option Nat} {ev : Ending} (hb : Below w.heap.size w w1) (h : WithinPost w1 tb r ev w') : WithinPost w tb r ev w' := by
  cases r with
  | none => exact ⟨h.1, hb.trans (h.2.mono hb.size)⟩
  | some c =>
    obtain ⟨h1, w2, h2, h3⟩ := h
    exact ⟨h1, w2, hb.trans (h2.mono hb.size), h3⟩
theorem asAt_Code (e : Err) (tb : Nat) (x : Value) (w : World) (he : e.In w) (ht : w.cell? ⟨tb, 0, none⟩ = some x) (hf : w.frozen? ⟨tb, 0, none⟩ = false) (t : Value) :
    Calls Tryz.prog 67 #[e.val, t, vOf 109 ⟨w.heap.size, 0, none⟩ 150, rt 73] ((w.alloc (.cells #[.pointer (some ⟨tb, 0, none⟩)] 109)).alloc (.cells #[hnd 109, .pointer (some ⟨w.heap.size, 0, none⟩), .int .u64 150] 124)) fun ev w' => CodePost w tb (Err.codeOf e) ev w' := by
  have hb : Below w.heap.size w ((w.alloc (.cells #[.pointer (some ⟨tb, 0, none⟩)] 109)).alloc (.cells #[hnd 109, .pointer (some ⟨w.heap.size, 0, none⟩), .int .u64 150] 124)) := ((Below.refl _ _).alloc (Nat.le_refl _) _).alloc (by simp) _
  have hl := lt_of_cell ht
  have hc := bcell hb
  exact (as_Code e w.heap.size tb t x _ (he.kept hb (Nat.le_refl _)) (by rw [World.cell?_alloc_lt _ _ ⟨w.heap.size, 0, none⟩ (by simp)]; simp) (by rw [hc.1 _ _ hl]; exact ht) (by rw [hc.2 _ _ hl]; exact hf)).mono fun ev w' h => h.up hb
set_option maxRecDepth 100000 in
set_option maxHeartbeats 2000000 in
theorem As_Code (e : Err) (tb : Nat) (x : Value) (w : World) (he : e.In w) (hg : w.cell? ⟨0, 0, none⟩ = some (rt 29)) (ht : w.cell? ⟨tb, 0, none⟩ = some x) (hf : w.frozen? ⟨tb, 0, none⟩ = false) :
    Calls Tryz.prog 52 #[e.val, .iface 109 (.pointer (some ⟨tb, 0, none⟩))] w fun ev w' => CodePost w tb (Err.codeOf e) ev w' := by
  have h29 := @run_callFunc_extern Tryz.prog 64 _ (fun args => ReflectliteValue.unpack (args.getD 0 (.tuple #[]))) Tryz.func64 (by kernel_rfl) (by kernel_rfl) (by kernel_rfl) (by kernel_rfl)
  have h30 := @run_callFunc_extern Tryz.prog 65 _ (ReflectliteValue.methodAny (ReflectliteValue.valueError "reflectlite.Value.Type" 0) (fun t _ _ _ => ReflectliteType.toType t)) Tryz.func65 (by kernel_rfl) (by kernel_rfl) (by kernel_rfl) (by kernel_rfl)
  have h31 := @run_callFunc_extern Tryz.prog 66 _ (ReflectliteValue.method (ReflectliteValue.valueError "reflectlite.Value.IsNil" 0) ReflectliteValue.isNil) Tryz.func66 (by kernel_rfl) (by kernel_rfl) (by kernel_rfl) (by kernel_rfl)
  have h54 := @run_callFunc_extern Tryz.prog 127 _ (ReflectliteType.abiMethod fun t => do pure (.int .u8 (← Rtype.kind t))) Tryz.func127 (by kernel_rfl) (by kernel_rfl) (by kernel_rfl) (by kernel_rfl)
  have h83 := @run_callFunc_extern Tryz.prog 139 _ (ReflectliteType.method ReflectliteType.elem) Tryz.func139 (by kernel_rfl) (by kernel_rfl) (by kernel_rfl) (by kernel_rfl)
  have h84 := @run_callFunc_extern Tryz.prog 140 _ (ReflectliteType.relation "Implements" ReflectliteType.implements_) Tryz.func140 (by kernel_rfl) (by kernel_rfl) (by kernel_rfl) (by kernel_rfl)
  have v1 := valueOfPCode
  have v2 := typePCode
  have v3 := kindPCode
  have v4 := kindCode
  have v5 := elemPCode
  have v6 := implementsCode
  have mK := m_kind
  have mE := m_elem
  have mI := m_implements
  have e1 := eg_val e
  have e2 := eq_val e
  have hlt := lt_of_cell ht
  have hlg := lt_of_cell hg
  have hb : Below w.heap.size w ((w.alloc (.cells #[.pointer (some ⟨tb, 0, none⟩)] 109)).alloc (.cells #[hnd 109, .pointer (some ⟨w.heap.size, 0, none⟩), .int .u64 150] 124)) := ((Below.refl _ _).alloc (Nat.le_refl _) _).alloc (by simp) _
  have hc := asAt_Code e tb x w he ht hf
  have n8 := isNilPCode ⟨w.heap.size, 0, none⟩ ⟨tb, 0, none⟩ ((w.alloc (.cells #[.pointer (some ⟨tb, 0, none⟩)] 109)).alloc (.cells #[hnd 109, .pointer (some ⟨w.heap.size, 0, none⟩), .int .u64 150] 124)) (by rw [World.cell?_alloc_lt _ _ ⟨w.heap.size, 0, none⟩ (by simp)]; simp)
  have hg2 : ((w.alloc (.cells #[.pointer (some ⟨tb, 0, none⟩)] 109)).alloc (.cells #[hnd 109, .pointer (some ⟨w.heap.size, 0, none⟩), .int .u64 150] 124)).cell? ⟨0, 0, none⟩ = some (rt 29) := by
    rw [World.cell?_alloc_lt _ _ ⟨0, 0, none⟩ (by simp <;> omega), World.cell?_alloc_lt _ _ ⟨0, 0, none⟩ hlg]; exact hg
  have HB := Lib.hid hb
  clear hg hb he ht hf
  go_enter Tryz.func52, Tryz.ntmps52
  go_wp2_with (go_at_call 67; refine (hc _).mono ?_; intro ev w1 hp; obtain rfl := hp.ret; have HP := Lib.hid hp; clear hp)
  go_ret
  exact HP.out
theorem asAt_Fault (e : Err) (tb : Nat) (x y : Value) (w : World) (he : e.In w) (ht : w.cell? ⟨tb, 0, none⟩ = some x) (ht1 : w.cell? ⟨tb, 1, none⟩ = some y) (hf : w.frozen? ⟨tb, 0, none⟩ = false) (hf1 : w.frozen? ⟨tb, 1, none⟩ = false) (t : Value) :
    Calls Tryz.prog 67 #[e.val, t, vOf 110 ⟨w.heap.size, 0, none⟩ 150, rt 92] ((w.alloc (.cells #[.pointer (some ⟨tb, 0, none⟩)] 110)).alloc (.cells #[hnd 110, .pointer (some ⟨w.heap.size, 0, none⟩), .int .u64 150] 124)) fun ev w' => FaultPost w tb (Err.faultOf e) ev w' := by
  have hb : Below w.heap.size w ((w.alloc (.cells #[.pointer (some ⟨tb, 0, none⟩)] 110)).alloc (.cells #[hnd 110, .pointer (some ⟨w.heap.size, 0, none⟩), .int .u64 150] 124)) := ((Below.refl _ _).alloc (Nat.le_refl _) _).alloc (by simp) _
  have hl := lt_of_cell ht
  have hc := bcell hb
  exact (as_Fault e w.heap.size tb t x y _ (he.kept hb (Nat.le_refl _)) (by rw [World.cell?_alloc_lt _ _ ⟨w.heap.size, 0, none⟩ (by simp)]; simp) (by rw [hc.1 _ _ hl]; exact ht) (by rw [hc.1 _ _ hl]; exact ht1) (by rw [hc.2 _ _ hl]; exact hf) (by rw [hc.2 _ _ hl]; exact hf1)).mono fun ev w' h => h.up hb
set_option maxRecDepth 100000 in
set_option maxHeartbeats 2000000 in
theorem As_Fault (e : Err) (tb : Nat) (x y : Value) (w : World) (he : e.In w) (hg : w.cell? ⟨0, 0, none⟩ = some (rt 29)) (ht : w.cell? ⟨tb, 0, none⟩ = some x) (ht1 : w.cell? ⟨tb, 1, none⟩ = some y) (hf : w.frozen? ⟨tb, 0, none⟩ = false) (hf1 : w.frozen? ⟨tb, 1, none⟩ = false) :
    Calls Tryz.prog 52 #[e.val, .iface 110 (.pointer (some ⟨tb, 0, none⟩))] w fun ev w' => FaultPost w tb (Err.faultOf e) ev w' := by
  have h29 := @run_callFunc_extern Tryz.prog 64 _ (fun args => ReflectliteValue.unpack (args.getD 0 (.tuple #[]))) Tryz.func64 (by kernel_rfl) (by kernel_rfl) (by kernel_rfl) (by kernel_rfl)
  have h30 := @run_callFunc_extern Tryz.prog 65 _ (ReflectliteValue.methodAny (ReflectliteValue.valueError "reflectlite.Value.Type" 0) (fun t _ _ _ => ReflectliteType.toType t)) Tryz.func65 (by kernel_rfl) (by kernel_rfl) (by kernel_rfl) (by kernel_rfl)
  have h31 := @run_callFunc_extern Tryz.prog 66 _ (ReflectliteValue.method (ReflectliteValue.valueError "reflectlite.Value.IsNil" 0) ReflectliteValue.isNil) Tryz.func66 (by kernel_rfl) (by kernel_rfl) (by kernel_rfl) (by kernel_rfl)
  have h54 := @run_callFunc_extern Tryz.prog 127 _ (ReflectliteType.abiMethod fun t => do pure (.int .u8 (← Rtype.kind t))) Tryz.func127 (by kernel_rfl) (by kernel_rfl) (by kernel_rfl) (by kernel_rfl)
  have h83 := @run_callFunc_extern Tryz.prog 139 _ (ReflectliteType.method ReflectliteType.elem) Tryz.func139 (by kernel_rfl) (by kernel_rfl) (by kernel_rfl) (by kernel_rfl)
  have h84 := @run_callFunc_extern Tryz.prog 140 _ (ReflectliteType.relation "Implements" ReflectliteType.implements_) Tryz.func140 (by kernel_rfl) (by kernel_rfl) (by kernel_rfl) (by kernel_rfl)
  have v1 := valueOfPFault
  have v2 := typePFault
  have v3 := kindPFault
  have v4 := kindFault
  have v5 := elemPFault
  have v6 := implementsFault
  have mK := m_kind
  have mE := m_elem
  have mI := m_implements
  have e1 := eg_val e
  have e2 := eq_val e
  have hlt := lt_of_cell ht
  have hlg := lt_of_cell hg
  have hb : Below w.heap.size w ((w.alloc (.cells #[.pointer (some ⟨tb, 0, none⟩)] 110)).alloc (.cells #[hnd 110, .pointer (some ⟨w.heap.size, 0, none⟩), .int .u64 150] 124)) := ((Below.refl _ _).alloc (Nat.le_refl _) _).alloc (by simp) _
  have hc := asAt_Fault e tb x y w he ht ht1 hf hf1
  have n8 := isNilPFault ⟨w.heap.size, 0, none⟩ ⟨tb, 0, none⟩ ((w.alloc (.cells #[.pointer (some ⟨tb, 0, none⟩)] 110)).alloc (.cells #[hnd 110, .pointer (some ⟨w.heap.size, 0, none⟩), .int .u64 150] 124)) (by rw [World.cell?_alloc_lt _ _ ⟨w.heap.size, 0, none⟩ (by simp)]; simp)
  have hg2 : ((w.alloc (.cells #[.pointer (some ⟨tb, 0, none⟩)] 110)).alloc (.cells #[hnd 110, .pointer (some ⟨w.heap.size, 0, none⟩), .int .u64 150] 124)).cell? ⟨0, 0, none⟩ = some (rt 29) := by
    rw [World.cell?_alloc_lt _ _ ⟨0, 0, none⟩ (by simp <;> omega), World.cell?_alloc_lt _ _ ⟨0, 0, none⟩ hlg]; exact hg
  have HB := Lib.hid hb
  clear hg hb he ht hf
  go_enter Tryz.func52, Tryz.ntmps52
  go_wp2_with (go_at_call 67; refine (hc _).mono ?_; intro ev w1 hp; obtain rfl := hp.ret; have HP := Lib.hid hp; clear hp)
  go_ret
  exact HP.out
end Go.Proofs.YtmjnbapkpcfgcaaGreatDoor
namespace Go.Proofs.YtmjnbapkpcfgcaaGreatDoor
theorem rec_Code (w : World) : CallsD Tryz.prog 51 #[] .returning w fun e u' w' => u' = .returning ∧ e = .returned (.tuple #[]) ∧ w' = w := by
  refine callsD_of_wpS Tryz.func51 rfl fun c₀ cs hu => ?_
  apply wpS_region
  simp [wpOpsS, go_sem, recoverD, hu, Tryz.ntmps51]
  cases c₀
  simp_all [bodyPostS, results, Tryz.results51]
theorem rec_Fault (w : World) : CallsD Tryz.prog 53 #[] .returning w fun e u' w' => u' = .returning ∧ e = .returned (.tuple #[]) ∧ w' = w := by
  refine callsD_of_wpS Tryz.func53 rfl fun c₀ cs hu => ?_
  apply wpS_region
  simp [wpOpsS, go_sem, recoverD, hu, Tryz.ntmps53]
  cases c₀
  simp_all [bodyPostS, results, Tryz.results53]
end Go.Proofs.YtmjnbapkpcfgcaaGreatDoor
namespace Go.Proofs.YtmjnbapkpcfgcaaGreatDoor
open Go.RowKit Go.Extern.Stop Go.Stop Go.Extern
theorem AsNew_Code_some (e : Err) (c : Int) (w : World) (hc : Err.codeOf e = some c) (he : e.In w) (hg : w.cell? ⟨0, 0, none⟩ = some (rt 29)) :
    Calls Tryz.prog 52 #[e.val, .iface 109 (.pointer (some ⟨w.heap.size, 0, none⟩))] (w.alloc (.cells #[.int .i64 0] 73)) fun ev w' => ev = .returned (.bool true) ∧ w'.cell? ⟨w.heap.size, 0, none⟩ = some (.int .i64 c) ∧ Below w.heap.size w w' ∧ w.heap.size < w'.heap.size ∧ ∀ o, w'.frozen? ⟨w.heap.size, o, none⟩ = false := by
  have hb0 : Below w.heap.size w (w.alloc (.cells #[.int .i64 0] 73)) := (Below.refl _ _).alloc (Nat.le_refl _) _
  have hlg := lt_of_cell hg
  refine (As_Code e w.heap.size (.int .i64 0) (w.alloc (.cells #[.int .i64 0] 73)) (he.kept hb0 (Nat.le_refl _)) (by rw [World.cell?_alloc_lt _ _ ⟨0, 0, none⟩ hlg]; exact hg) (by simp) (by simp)).mono ?_
  intro ev w' h
  rw [hc] at h
  obtain ⟨h1, w1, h2, rfl⟩ := h
  have hz := h2.size
  simp at hz
  refine ⟨h1, ?_, ?_, ?_, fun o => ?_⟩
  · exact World.cell?_setCell_same' _ _ _ (by rw [(bcell h2).1 _ _ (by simp)]; simp)
  · exact (hb0.trans (h2.mono (by simp))).setCell (by simp) _
  · simp; omega
  · rw [World.frozen?_setCell, (bcell h2).2 _ _ (by simp)]; simp
theorem AsNew_Fault_some (e : Err) (c p : Int) (w : World) (hc : Err.faultOf e = some (c, p)) (he : e.In w) (hg : w.cell? ⟨0, 0, none⟩ = some (rt 29)) :
    Calls Tryz.prog 52 #[e.val, .iface 110 (.pointer (some ⟨w.heap.size, 0, none⟩))] (w.alloc (.cells #[.int .i64 0, .int .i64 0] 92)) fun ev w' => ev = .returned (.bool true) ∧ w'.cell? ⟨w.heap.size, 0, none⟩ = some (.int .i64 c) ∧ w'.cell? ⟨w.heap.size, 1, none⟩ = some (.int .i64 p) ∧ Below w.heap.size w w' ∧ w.heap.size < w'.heap.size ∧ ∀ o, w'.frozen? ⟨w.heap.size, o, none⟩ = false := by
  have hb0 : Below w.heap.size w (w.alloc (.cells #[.int .i64 0, .int .i64 0] 92)) := (Below.refl _ _).alloc (Nat.le_refl _) _
  have hlg := lt_of_cell hg
  refine (As_Fault e w.heap.size (.int .i64 0) (.int .i64 0) (w.alloc (.cells #[.int .i64 0, .int .i64 0] 92)) (he.kept hb0 (Nat.le_refl _)) (by rw [World.cell?_alloc_lt _ _ ⟨0, 0, none⟩ hlg]; exact hg) (by simp) (by simp) (by simp) (by simp)).mono ?_
  intro ev w' h
  rw [hc] at h
  obtain ⟨h1, w1, h2, rfl⟩ := h
  have hz := h2.size
  simp at hz
  refine ⟨h1, ?_, ?_, ?_, ?_, fun o => ?_⟩
  · rw [World.cell?_setCell_other _ _ _ _ (by simp), World.cell?_setCell_same' _ _ _ (by rw [(bcell h2).1 _ _ (by simp)]; simp)]
  · exact World.cell?_setCell_same' _ _ _ (by rw [World.cell?_setCell_other _ _ _ _ (by simp), (bcell h2).1 _ _ (by simp)]; simp)
  · exact ((hb0.trans (h2.mono (by simp))).setCell (by simp) _).setCell (by simp) _
  · simp; omega
  · rw [World.frozen?_setCell, World.frozen?_setCell, (bcell h2).2 _ _ (by simp)]; simp
end Go.Proofs.YtmjnbapkpcfgcaaGreatDoor
namespace Go.Proofs.YtmjnbapkpcfgcaaGreatDoor
open Go.RowKit Go.Extern.Stop Go.Stop Go.Extern
set_option maxHeartbeats 1000000 in
theorem find_Code_some (e : Err) (c : Int) (w : World) (hc : Err.codeOf e = some c) (he : e.In w) (hg : w.cell? ⟨0, 0, none⟩ = some (rt 29)) :
    Calls Tryz.prog 39 #[e.val] w fun ev w' => ev = .returned (.tuple #[.int .i64 c, .bool true]) ∧ Below w.heap.size w w' := by
  have hA := AsNew_Code_some e c w hc he hg
  clear hc he hg
  go_enter_defers Tryz.func39, Tryz.ntmps39
  go_wp2_with (go_at_call 52; refine hA.mono ?_; rintro ev w1 ⟨rfl, h1, hb, hz, hf⟩; have HB := Lib.hid hb; clear hb)
  refine leaves_cons (f := 51) (args := #[]) (by simp) (by simp [go_sem]) ?_
  refine (rec_Code _).mono ?_
  rintro e u' w'' ⟨rfl, rfl, rfl⟩
  simp [Leaves, settle, results, Tryz.results39, go_sem, HB.out]
end Go.Proofs.YtmjnbapkpcfgcaaGreatDoor
namespace Go.Proofs.YtmjnbapkpcfgcaaGreatDoor
open Go.RowKit Go.Extern.Stop Go.Stop Go.Extern
set_option maxHeartbeats 1000000 in
theorem find_Fault_some (e : Err) (c p : Int) (w : World) (hc : e.faultOf = some (c, p)) (he : e.In w) (hg : w.cell? ⟨0, 0, none⟩ = some (rt 29)) :
    Calls Tryz.prog 40 #[e.val] w fun ev w' => ev = .returned (.tuple #[.agg #[.int .i64 c, .int .i64 p], .bool true]) ∧ Below w.heap.size w w' := by
  have hlg := lt_of_cell hg
  have hb0 : Below w.heap.size w (w.alloc (.cells #[.int .i64 0, .int .i64 0] 92)) := (Below.refl _ _).alloc (Nat.le_refl _) _
  have hA := AsNew_Fault_some e c p (w.alloc (.cells #[.int .i64 0, .int .i64 0] 92)) hc (he.kept hb0 (Nat.le_refl _)) (by rw [World.cell?_alloc_lt _ _ ⟨0, 0, none⟩ hlg]; exact hg)
  have hs : (w.alloc (.cells #[.int .i64 0, .int .i64 0] 92)).heap.size = w.heap.size + 1 := by simp
  rw [hs] at hA
  clear hc he hg hlg hs
  have HB0 := Lib.hid hb0
  clear hb0
  go_enter_defers Tryz.func40, Tryz.ntmps40
  go_wp2_with (go_at_call 52; refine hA.mono ?_; rintro ev w1 ⟨rfl, h0, h1, hb, hz, hf⟩; have r0 : w1.cell? ⟨w.heap.size, 0, none⟩ = some (.int .i64 0) := (by rw [(bcell hb).1 _ _ (by simp <;> omega)]; simp); have r1 : w1.cell? ⟨w.heap.size, 1, none⟩ = some (.int .i64 0) := (by rw [(bcell hb).1 _ _ (by simp <;> omega)]; simp); have rf0 : w1.frozen? ⟨w.heap.size, 0, none⟩ = false := (by rw [(bcell hb).2 _ _ (by simp <;> omega)]; simp); have rf1 : w1.frozen? ⟨w.heap.size, 1, none⟩ = false := (by rw [(bcell hb).2 _ _ (by simp <;> omega)]; simp); replace hb := HB0.out.trans (hb.mono (by simp <;> omega)); have HB := Lib.hid hb; clear hb)
  refine leaves_cons (f := 53) (args := #[]) (by simp) (by simp [go_sem]) ?_
  refine (rec_Fault _).mono ?_
  rintro e u' w'' ⟨rfl, rfl, hw⟩
  have c0 : w''.cell? ⟨w.heap.size, 0, none⟩ = some (.int .i64 c) := by rw [hw]; simp [go_sem, r0, World.cell?_setCell_other]
  have c1 : w''.cell? ⟨w.heap.size, 1, none⟩ = some (.int .i64 p) := by rw [hw]; exact World.cell?_setCell_same' _ _ _ (by rw [World.cell?_setCell_other _ _ _ _ (by simp), World.cell?_setCell_same' _ _ _ (by rw [World.cell?_setCell_other _ _ _ _ (by simp), r1]; rfl)]; rfl)
  have hb : Below w.heap.size w w'' := by rw [hw]; exact (((HB.out.setCell (Nat.le_refl _) _).setCell (Nat.le_refl _) _).setCell (Nat.le_refl _) _).setCell (Nat.le_refl _) _
  clear hw
  simp [Leaves, settle, results, Tryz.results40, go_sem, c0, c1, hb]
end Go.Proofs.YtmjnbapkpcfgcaaGreatDoor
namespace Go.Proofs.YtmjnbapkpcfgcaaGreatDoor
open Go.RowKit
theorem Code_some (e : Err) (c : Int) (w : World) (hc : e.codeOf = some c) (he : e.In w) (hg : w.cell? ⟨0, 0, none⟩ = some (rt 29)) :
    Calls Tryz.prog 25 #[e.val] w fun ev w' => ev = .returned (.tuple #[.int .i64 c, .bool true]) ∧ Below w.heap.size w w' := by
  have hA := find_Code_some e c w hc he hg
  clear hc he hg
  go_enter Tryz.func25, Tryz.ntmps25
  go_wp2_with (go_at_call 39; refine hA.mono ?_; rintro ev w1 ⟨rfl, hb⟩; have HB := Lib.hid hb; clear hb)
  go_ret2
  exact ⟨rfl, HB.out⟩
theorem At_some (e : Err) (c p : Int) (w : World) (hc : e.faultOf = some (c, p)) (he : e.In w) (hg : w.cell? ⟨0, 0, none⟩ = some (rt 29)) :
    Calls Tryz.prog 26 #[e.val] w fun ev w' => ev = .returned (.tuple #[.int .i64 p, .bool true]) ∧ Below w.heap.size w w' := by
  have hA := find_Fault_some e c p w hc he hg
  clear hc he hg
  go_enter Tryz.func26, Tryz.ntmps26
  go_wp2_with (go_at_call 40; refine hA.mono ?_; rintro ev w1 ⟨rfl, hb⟩; have HB := Lib.hid hb; clear hb)
  go_ret2
  exact ⟨rfl, HB.out.alloc HB.out.size _⟩
theorem New_any (c p : Int) (w : World) :
    Calls Tryz.prog 56 #[.int .i64 c, .int .i64 p] w fun ev w' => ev = .returned (.iface 92 (.agg #[.int .i64 c, .int .i64 p])) ∧ w' = w := by
  go_enter Tryz.func56, Tryz.ntmps56
  go_wp2
  go_ret
  exact ⟨rfl, rfl⟩
end Go.Proofs.YtmjnbapkpcfgcaaGreatDoor
