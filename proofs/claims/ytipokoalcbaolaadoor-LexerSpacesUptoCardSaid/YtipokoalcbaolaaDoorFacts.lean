/- Closed facts on this program's types, as the model's entries for package reflectlite see them, and on the methods that an error has. No walk. -/
import Derived.Test.YtipokoalcbaolaaDoorErr
import Derived.LaidEql
import Derived.Stop.Asserts
import Derived.RowKitTokens
import Derived.Lib.Hide
namespace Go.Proofs.YtipokoalcbaolaaDoor
open Go.RowKit Go.Extern.Stop Go.Stop Go.Extern
/-- The handle of a type. -/
abbrev hnd (t : Nat) : Value := .pointer (some ⟨3, t, none⟩)
abbrev rt (t : Nat) : Value := .iface 116 (.agg #[hnd t])
abbrev vOf (t : Nat) (a : Addr) (n : Int) : Value := .agg #[hnd t, .pointer (some a), .int .u64 n]
theorem m_kind (h : Value) (w : World) : (Go.method 248 116 (.agg #[h]) "Kind").run Tryd.prog w = .ok (83, h) w := by kernel_rfl
theorem m_elem (h : Value) (w : World) : (Go.method 248 116 (.agg #[h]) "Elem").run Tryd.prog w = .ok (95, .agg #[h]) w := by kernel_rfl
theorem m_implements (h : Value) (w : World) : (Go.method 248 116 (.agg #[h]) "Implements").run Tryd.prog w = .ok (96, .agg #[h]) w := by kernel_rfl
theorem m_assignable (h : Value) (w : World) : (Go.method 248 116 (.agg #[h]) "AssignableTo").run Tryd.prog w = .ok (93, .agg #[h]) w := by kernel_rfl
theorem m_comparable (h : Value) (w : World) : (Go.method 248 116 (.agg #[h]) "Comparable").run Tryd.prog w = .ok (94, .agg #[h]) w := by kernel_rfl
theorem rlm (z : Sem Value) (f : TypeId → Addr → Nat → Nat → Sem Value) (v : Value) :
    ReflectliteValue.method z f #[v] = (do match ← ReflectliteValue.parts v with | none => z | some (t, a, fl) => f t a fl (fl % 32)) := rfl
theorem rls (v x : Value) : ReflectliteValue.set #[v, x] = (do
    let (some (dst, a, fl), some (src, b, _)) := (← ReflectliteValue.parts v, ← ReflectliteValue.parts x)
      | unsupported (.noEntry "extern/(internal/reflectlite.Value).Set.zeroValue")
    if fl / ReflectliteValue.flagAddr % 2 == 0 then unsupported (.noEntry "extern/(internal/reflectlite.Value).Set.unaddressable")
    let val ← loadVar src b
    if ← Rtype.directlyAssignable dst src then storeVar dst a val
    else if ← Rtype.implements dst src then
      if (← Rtype.kind src) == 20 then
        match val with
        | .nilIface => unsupported (.noEntry "extern/reflectlite: a nil value of one interface type handed on as a value of another")
        | _ => storeVar dst a val
      else storeVar dst a (.iface src val)
    else panicString ("reflectlite.Set: value of type " ++ (← Rtype.spelt src) ++ " is not assignable to type " ++ (← Rtype.spelt dst))
    pure (.tuple #[])) := rfl
theorem typeOfCode (v : Value) (w : World) : (ReflectliteType.typeOf #[.iface 50 v]).run Tryd.prog w = .ok (rt 50) w := by kernel_rfl
theorem noAsCode (v : Value) (xT : TypeId) (w : World) : (Instr.typeAssert (.iface 50 v) xT 121 true).run Tryd.prog w = .ok (.tuple #[.nilIface, .bool false]) w := run_typeAssert_lacksB Tryd.underlying121 (by kernel_rfl) (by kernel_rfl) v xT w
theorem noUnwrapCode (v : Value) (xT : TypeId) (w : World) : (Instr.typeAssert (.iface 50 v) xT 124 true).run Tryd.prog w = .ok (.tuple #[.nilIface, .bool false]) w := run_typeAssert_lacksB Tryd.underlying124 (by kernel_rfl) (by kernel_rfl) v xT w
theorem noUnwrapLCode (v : Value) (xT : TypeId) (w : World) : (Instr.typeAssert (.iface 50 v) xT 126 true).run Tryd.prog w = .ok (.tuple #[.nilIface, .bool false]) w := run_typeAssert_lacksB Tryd.underlying126 (by kernel_rfl) (by kernel_rfl) v xT w
theorem typeOfFault (v : Value) (w : World) : (ReflectliteType.typeOf #[.iface 68 v]).run Tryd.prog w = .ok (rt 68) w := by kernel_rfl
theorem noAsFault (v : Value) (xT : TypeId) (w : World) : (Instr.typeAssert (.iface 68 v) xT 121 true).run Tryd.prog w = .ok (.tuple #[.nilIface, .bool false]) w := run_typeAssert_lacksB Tryd.underlying121 (by kernel_rfl) (by kernel_rfl) v xT w
theorem hasUnwrapFault (v : Value) (xT : TypeId) (w : World) : (Instr.typeAssert (.iface 68 v) xT 124 true).run Tryd.prog w = .ok (.tuple #[.iface 68 v, .bool true]) w := run_typeAssert_hasB Tryd.underlying124 (by kernel_rfl) v xT w
/-! ### The target Code -/
theorem valueOfPCode (t : Addr) (w : World) : (ReflectliteValue.unpack (.iface 79 (.pointer (some t)))).run Tryd.prog w
    = .ok (vOf 79 ⟨w.heap.size, 0, none⟩ 150) (w.alloc (.cells #[.pointer (some t)] 79)) := by kernel_rfl
theorem typePCode (a : Addr) (w : World) : (ReflectliteValue.methodAny (ReflectliteValue.valueError "reflectlite.Value.Type" 0) (fun t _ _ _ => ReflectliteType.toType t) #[vOf 79 a 150]).run Tryd.prog w
    = .ok (rt 79) w := by kernel_rfl
theorem kindPCode (w : World) : ((ReflectliteType.abiMethod fun t => (fun a : Nat => Value.int IntKind.u8 (a : Int)) <$> Rtype.kind t) #[hnd 79]).run Tryd.prog w = .ok (.int .u8 22) w := by kernel_rfl
theorem kindCode (w : World) : ((ReflectliteType.abiMethod fun t => (fun a : Nat => Value.int IntKind.u8 (a : Int)) <$> Rtype.kind t) #[hnd 50]).run Tryd.prog w = .ok (.int .u8 2) w := by kernel_rfl
theorem partsPCode (a : Addr) (w : World) : (ReflectliteValue.parts (vOf 79 a 150)).run Tryd.prog w = .ok (some (79, a, 150)) w := by kernel_rfl
theorem isNilPCode (a p : Addr) (W : World) (ha : W.cell? a = some (.pointer (some p))) :
    (ReflectliteValue.method (ReflectliteValue.valueError "reflectlite.Value.IsNil" 0) ReflectliteValue.isNil #[vOf 79 a 150]).run Tryd.prog W = .ok (.bool false) W := by
  rw [rlm]
  simp only [Sem.run_bind, partsPCode, Result.andThen]
  simp [ReflectliteValue.isNil, loadVar, isAgg, underlying, Tryd.underlying79, ha, Result.andThen]
theorem elemPCode (w : World) : (ReflectliteType.method ReflectliteType.elem #[.agg #[hnd 79]]).run Tryd.prog w = .ok (rt 50) w := by kernel_rfl
theorem implementsCode (w : World) : (ReflectliteType.relation "Implements" ReflectliteType.implements_ #[.agg #[hnd 50], rt 25]).run Tryd.prog w = .ok (.bool true) w := by kernel_rfl
theorem valueOfCode (c : Int) (w : World) : (ReflectliteValue.unpack (.iface 50 (.int .i64 c))).run Tryd.prog w
    = .ok (vOf 50 ⟨w.heap.size, 0, none⟩ 130) (w.alloc (.cells #[.int .i64 c] 50)) := by kernel_rfl
theorem elemOfCode (w : World) : (Rtype.elem? 79).run Tryd.prog w = .ok (some 50) w := by kernel_rfl
theorem mkCode (p : Addr) (w : World) : (ReflectliteValue.mk 50 p ReflectliteValue.flagAddr).run Tryd.prog w = .ok (vOf 50 p 386) w := by kernel_rfl
theorem elemVCode (a p : Addr) (W : World) (ha : W.cell? a = some (.pointer (some p))) :
    (ReflectliteValue.method (ReflectliteValue.valueError "reflectlite.Value.Elem" 0) ReflectliteValue.elem #[vOf 79 a 150]).run Tryd.prog W
      = .ok (vOf 50 p 386) W := by
  rw [rlm]
  simp only [Sem.run_bind, partsPCode, Result.andThen]
  simp [ReflectliteValue.elem, loadVar, isAgg, underlying, Tryd.underlying79, ha, Result.andThen, elemOfCode, mkCode]
theorem partsACode (a : Addr) (w : World) : (ReflectliteValue.parts (vOf 50 a 386)).run Tryd.prog w = .ok (some (50, a, 386)) w := by kernel_rfl
theorem partsCode (a : Addr) (w : World) : (ReflectliteValue.parts (vOf 50 a 130)).run Tryd.prog w = .ok (some (50, a, 130)) w := by kernel_rfl
theorem directCode (w : World) : (Rtype.directlyAssignable 50 50).run Tryd.prog w = .ok true w := by kernel_rfl
theorem assignCodeToCode (w : World) : (ReflectliteType.relation "AssignableTo" ReflectliteType.assignableTo #[.agg #[hnd 50], rt 50]).run Tryd.prog w = .ok (.bool true) w := by kernel_rfl
theorem assignFaultToCode (w : World) : (ReflectliteType.relation "AssignableTo" ReflectliteType.assignableTo #[.agg #[hnd 68], rt 50]).run Tryd.prog w = .ok (.bool false) w := by kernel_rfl
/-! ### The target Fault -/
theorem valueOfPFault (t : Addr) (w : World) : (ReflectliteValue.unpack (.iface 80 (.pointer (some t)))).run Tryd.prog w
    = .ok (vOf 80 ⟨w.heap.size, 0, none⟩ 150) (w.alloc (.cells #[.pointer (some t)] 80)) := by kernel_rfl
theorem typePFault (a : Addr) (w : World) : (ReflectliteValue.methodAny (ReflectliteValue.valueError "reflectlite.Value.Type" 0) (fun t _ _ _ => ReflectliteType.toType t) #[vOf 80 a 150]).run Tryd.prog w
    = .ok (rt 80) w := by kernel_rfl
theorem kindPFault (w : World) : ((ReflectliteType.abiMethod fun t => (fun a : Nat => Value.int IntKind.u8 (a : Int)) <$> Rtype.kind t) #[hnd 80]).run Tryd.prog w = .ok (.int .u8 22) w := by kernel_rfl
theorem kindFault (w : World) : ((ReflectliteType.abiMethod fun t => (fun a : Nat => Value.int IntKind.u8 (a : Int)) <$> Rtype.kind t) #[hnd 68]).run Tryd.prog w = .ok (.int .u8 25) w := by kernel_rfl
theorem partsPFault (a : Addr) (w : World) : (ReflectliteValue.parts (vOf 80 a 150)).run Tryd.prog w = .ok (some (80, a, 150)) w := by kernel_rfl
theorem isNilPFault (a p : Addr) (W : World) (ha : W.cell? a = some (.pointer (some p))) :
    (ReflectliteValue.method (ReflectliteValue.valueError "reflectlite.Value.IsNil" 0) ReflectliteValue.isNil #[vOf 80 a 150]).run Tryd.prog W = .ok (.bool false) W := by
  rw [rlm]
  simp only [Sem.run_bind, partsPFault, Result.andThen]
  simp [ReflectliteValue.isNil, loadVar, isAgg, underlying, Tryd.underlying80, ha, Result.andThen]
theorem elemPFault (w : World) : (ReflectliteType.method ReflectliteType.elem #[.agg #[hnd 80]]).run Tryd.prog w = .ok (rt 68) w := by kernel_rfl
theorem implementsFault (w : World) : (ReflectliteType.relation "Implements" ReflectliteType.implements_ #[.agg #[hnd 68], rt 25]).run Tryd.prog w = .ok (.bool true) w := by kernel_rfl
theorem valueOfFault (c p : Int) (w : World) : (ReflectliteValue.unpack (.iface 68 (.agg #[.int .i64 c, .int .i64 p]))).run Tryd.prog w
    = .ok (vOf 68 ⟨w.heap.size, 0, none⟩ 153) (w.alloc (.cells #[.int .i64 c, .int .i64 p] 68)) := by kernel_rfl
theorem elemOfFault (w : World) : (Rtype.elem? 80).run Tryd.prog w = .ok (some 68) w := by kernel_rfl
theorem mkFault (p : Addr) (w : World) : (ReflectliteValue.mk 68 p ReflectliteValue.flagAddr).run Tryd.prog w = .ok (vOf 68 p 409) w := by kernel_rfl
theorem elemVFault (a p : Addr) (W : World) (ha : W.cell? a = some (.pointer (some p))) :
    (ReflectliteValue.method (ReflectliteValue.valueError "reflectlite.Value.Elem" 0) ReflectliteValue.elem #[vOf 80 a 150]).run Tryd.prog W
      = .ok (vOf 68 p 409) W := by
  rw [rlm]
  simp only [Sem.run_bind, partsPFault, Result.andThen]
  simp [ReflectliteValue.elem, loadVar, isAgg, underlying, Tryd.underlying80, ha, Result.andThen, elemOfFault, mkFault]
theorem partsAFault (a : Addr) (w : World) : (ReflectliteValue.parts (vOf 68 a 409)).run Tryd.prog w = .ok (some (68, a, 409)) w := by kernel_rfl
theorem partsFault (a : Addr) (w : World) : (ReflectliteValue.parts (vOf 68 a 153)).run Tryd.prog w = .ok (some (68, a, 153)) w := by kernel_rfl
theorem directFault (w : World) : (Rtype.directlyAssignable 68 68).run Tryd.prog w = .ok true w := by kernel_rfl
theorem assignCodeToFault (w : World) : (ReflectliteType.relation "AssignableTo" ReflectliteType.assignableTo #[.agg #[hnd 50], rt 68]).run Tryd.prog w = .ok (.bool false) w := by kernel_rfl
theorem assignFaultToFault (w : World) : (ReflectliteType.relation "AssignableTo" ReflectliteType.assignableTo #[.agg #[hnd 68], rt 68]).run Tryd.prog w = .ok (.bool true) w := by kernel_rfl
theorem setCode (ta b : Addr) (c : Int) (old : Value) (W : World) (hb : W.cell? b = some (.int .i64 c)) (ht : W.cell? ta = some old) (hf : W.frozen? ta = false) :
    (ReflectliteValue.set #[vOf 50 ta 386, vOf 50 b 130]).run Tryd.prog W = .ok (.tuple #[]) (W.setCell ta (.int .i64 c)) := by
  rw [rls]
  simp only [Sem.run_bind, partsACode, partsCode, Result.andThen]
  simp [ReflectliteValue.flagAddr, loadVar, isAgg, underlying, Tryd.underlying50, hb, Result.andThen, directCode, storeVar, Value.cells, storeCells, Addr.add]
  rw [run_store Tryd.prog W ta _ _ (by rfl)]
  simp [ht, hf]
end Go.Proofs.YtipokoalcbaolaaDoor
