/- Closed facts on this program's types, as the model's entries for package reflectlite see them, and on the methods that an error has. No walk. -/
import Derived.Test.YtbhejkjgebhpoaaDoorErr
import Derived.LaidEql
import Derived.Stop.Asserts
import Derived.RowKitTokens
import Derived.Lib.Hide
namespace Go.Proofs.YtbhejkjgebhpoaaDoor
open Go.RowKit Go.Extern.Stop Go.Stop Go.Extern
/-- The handle of a type. -/
abbrev hnd (t : Nat) : Value := .pointer (some ⟨4, t, none⟩)
abbrev rt (t : Nat) : Value := .iface 103 (.agg #[hnd t])
abbrev vOf (t : Nat) (a : Addr) (n : Int) : Value := .agg #[hnd t, .pointer (some a), .int .u64 n]
theorem m_kind (h : Value) (w : World) : (Go.method 248 103 (.agg #[h]) "Kind").run Tryd.prog w = .ok (74, h) w := by kernel_rfl
theorem m_elem (h : Value) (w : World) : (Go.method 248 103 (.agg #[h]) "Elem").run Tryd.prog w = .ok (102, .agg #[h]) w := by kernel_rfl
theorem m_implements (h : Value) (w : World) : (Go.method 248 103 (.agg #[h]) "Implements").run Tryd.prog w = .ok (103, .agg #[h]) w := by kernel_rfl
theorem m_assignable (h : Value) (w : World) : (Go.method 248 103 (.agg #[h]) "AssignableTo").run Tryd.prog w = .ok (100, .agg #[h]) w := by kernel_rfl
theorem m_comparable (h : Value) (w : World) : (Go.method 248 103 (.agg #[h]) "Comparable").run Tryd.prog w = .ok (101, .agg #[h]) w := by kernel_rfl
theorem rlm (z : Sem Value) (f : TypeId → Addr → Nat → Nat → Sem Value) (v : Value) :
    ReflectliteValue.method z f #[v] = (do match ← ReflectliteValue.parts v with | none => z | some (t, a, fl) => f t a fl (fl % 32)) := rfl
theorem rls (v x : Value) : ReflectliteValue.set #[v, x] = (do
    let (some (dst, a, fl), some (src, b, _)) := (← ReflectliteValue.parts v, ← ReflectliteValue.parts x)
      | unsupported (.noEntry "extern/(internal/reflectlite.Value).Set.zeroValue")
    if fl / ReflectliteValue.flagAddr % 2 == 0 then unsupported (.noEntry "extern/(internal/reflectlite.Value).Set.unaddressable")
    let val ← loadVar src b
    if ← Rtype.directlyAssignable dst src then storeVar dst a val
    else if ← Rtype.implements dst src then
      if (← Rtype.kind src) == 20 then
        match val with
        | .nilIface => unsupported (.noEntry "extern/reflectlite: a nil value of one interface type handed on as a value of another")
        | _ => storeVar dst a val
      else storeVar dst a (.iface src val)
    else panicString ("reflectlite.Set: value of type " ++ (← Rtype.spelt src) ++ " is not assignable to type " ++ (← Rtype.spelt dst))
    pure (.tuple #[])) := rfl
theorem typeOfCode (v : Value) (w : World) : (ReflectliteType.typeOf #[.iface 33 v]).run Tryd.prog w = .ok (rt 33) w := by kernel_rfl
theorem noAsCode (v : Value) (xT : TypeId) (w : World) : (Instr.typeAssert (.iface 33 v) xT 108 true).run Tryd.prog w = .ok (.tuple #[.nilIface, .bool false]) w := run_typeAssert_lacksB Tryd.underlying108 (by kernel_rfl) (by kernel_rfl) v xT w
theorem noUnwrapCode (v : Value) (xT : TypeId) (w : World) : (Instr.typeAssert (.iface 33 v) xT 111 true).run Tryd.prog w = .ok (.tuple #[.nilIface, .bool false]) w := run_typeAssert_lacksB Tryd.underlying111 (by kernel_rfl) (by kernel_rfl) v xT w
theorem noUnwrapLCode (v : Value) (xT : TypeId) (w : World) : (Instr.typeAssert (.iface 33 v) xT 113 true).run Tryd.prog w = .ok (.tuple #[.nilIface, .bool false]) w := run_typeAssert_lacksB Tryd.underlying113 (by kernel_rfl) (by kernel_rfl) v xT w
theorem typeOfFault (v : Value) (w : World) : (ReflectliteType.typeOf #[.iface 65 v]).run Tryd.prog w = .ok (rt 65) w := by kernel_rfl
theorem noAsFault (v : Value) (xT : TypeId) (w : World) : (Instr.typeAssert (.iface 65 v) xT 108 true).run Tryd.prog w = .ok (.tuple #[.nilIface, .bool false]) w := run_typeAssert_lacksB Tryd.underlying108 (by kernel_rfl) (by kernel_rfl) v xT w
theorem hasUnwrapFault (v : Value) (xT : TypeId) (w : World) : (Instr.typeAssert (.iface 65 v) xT 111 true).run Tryd.prog w = .ok (.tuple #[.iface 65 v, .bool true]) w := run_typeAssert_hasB Tryd.underlying111 (by kernel_rfl) v xT w
theorem typeOfWithin (v : Value) (w : World) : (ReflectliteType.typeOf #[.iface 59 v]).run Tryd.prog w = .ok (rt 59) w := by kernel_rfl
theorem noAsWithin (v : Value) (xT : TypeId) (w : World) : (Instr.typeAssert (.iface 59 v) xT 108 true).run Tryd.prog w = .ok (.tuple #[.nilIface, .bool false]) w := run_typeAssert_lacksB Tryd.underlying108 (by kernel_rfl) (by kernel_rfl) v xT w
theorem hasUnwrapWithin (v : Value) (xT : TypeId) (w : World) : (Instr.typeAssert (.iface 59 v) xT 111 true).run Tryd.prog w = .ok (.tuple #[.iface 59 v, .bool true]) w := run_typeAssert_hasB Tryd.underlying111 (by kernel_rfl) v xT w
/-! ### The target Code -/
theorem valueOfPCode (t : Addr) (w : World) : (ReflectliteValue.unpack (.iface 81 (.pointer (some t)))).run Tryd.prog w
    = .ok (vOf 81 ⟨w.heap.size, 0, none⟩ 150) (w.alloc (.cells #[.pointer (some t)] 81)) := by kernel_rfl
theorem typePCode (a : Addr) (w : World) : (ReflectliteValue.methodAny (ReflectliteValue.valueError "reflectlite.Value.Type" 0) (fun t _ _ _ => ReflectliteType.toType t) #[vOf 81 a 150]).run Tryd.prog w
    = .ok (rt 81) w := by kernel_rfl
theorem kindPCode (w : World) : ((ReflectliteType.abiMethod fun t => (fun a : Nat => Value.int IntKind.u8 (a : Int)) <$> Rtype.kind t) #[hnd 81]).run Tryd.prog w = .ok (.int .u8 22) w := by kernel_rfl
theorem kindCode (w : World) : ((ReflectliteType.abiMethod fun t => (fun a : Nat => Value.int IntKind.u8 (a : Int)) <$> Rtype.kind t) #[hnd 33]).run Tryd.prog w = .ok (.int .u8 2) w := by kernel_rfl
theorem partsPCode (a : Addr) (w : World) : (ReflectliteValue.parts (vOf 81 a 150)).run Tryd.prog w = .ok (some (81, a, 150)) w := by kernel_rfl
theorem isNilPCode (a p : Addr) (W : World) (ha : W.cell? a = some (.pointer (some p))) :
    (ReflectliteValue.method (ReflectliteValue.valueError "reflectlite.Value.IsNil" 0) ReflectliteValue.isNil #[vOf 81 a 150]).run Tryd.prog W = .ok (.bool false) W := by
  rw [rlm]
  simp only [Sem.run_bind, partsPCode, Result.andThen]
  simp [ReflectliteValue.isNil, loadVar, isAgg, underlying, Tryd.underlying81, ha, Result.andThen]
theorem elemPCode (w : World) : (ReflectliteType.method ReflectliteType.elem #[.agg #[hnd 81]]).run Tryd.prog w = .ok (rt 33) w := by kernel_rfl
theorem implementsCode (w : World) : (ReflectliteType.relation "Implements" ReflectliteType.implements_ #[.agg #[hnd 33], rt 29]).run Tryd.prog w = .ok (.bool true) w := by kernel_rfl
theorem valueOfCode (c : Int) (w : World) : (ReflectliteValue.unpack (.iface 33 (.int .i64 c))).run Tryd.prog w
    = .ok (vOf 33 ⟨w.heap.size, 0, none⟩ 130) (w.alloc (.cells #[.int .i64 c] 33)) := by kernel_rfl
theorem elemOfCode (w : World) : (Rtype.elem? 81).run Tryd.prog w = .ok (some 33) w := by kernel_rfl
theorem mkCode (p : Addr) (w : World) : (ReflectliteValue.mk 33 p ReflectliteValue.flagAddr).run Tryd.prog w = .ok (vOf 33 p 386) w := by kernel_rfl
theorem elemVCode (a p : Addr) (W : World) (ha : W.cell? a = some (.pointer (some p))) :
    (ReflectliteValue.method (ReflectliteValue.valueError "reflectlite.Value.Elem" 0) ReflectliteValue.elem #[vOf 81 a 150]).run Tryd.prog W
      = .ok (vOf 33 p 386) W := by
  rw [rlm]
  simp only [Sem.run_bind, partsPCode, Result.andThen]
  simp [ReflectliteValue.elem, loadVar, isAgg, underlying, Tryd.underlying81, ha, Result.andThen, elemOfCode, mkCode]
theorem partsACode (a : Addr) (w : World) : (ReflectliteValue.parts (vOf 33 a 386)).run Tryd.prog w = .ok (some (33, a, 386)) w := by kernel_rfl
theorem partsCode (a : Addr) (w : World) : (ReflectliteValue.parts (vOf 33 a 130)).run Tryd.prog w = .ok (some (33, a, 130)) w := by kernel_rfl
theorem directCode (w : World) : (Rtype.directlyAssignable 33 33).run Tryd.prog w = .ok true w := by kernel_rfl
theorem assignCodeToCode (w : World) : (ReflectliteType.relation "AssignableTo" ReflectliteType.assignableTo #[.agg #[hnd 33], rt 33]).run Tryd.prog w = .ok (.bool true) w := by kernel_rfl
theorem assignFaultToCode (w : World) : (ReflectliteType.relation "AssignableTo" ReflectliteType.assignableTo #[.agg #[hnd 65], rt 33]).run Tryd.prog w = .ok (.bool false) w := by kernel_rfl
theorem assignWithinToCode (w : World) : (ReflectliteType.relation "AssignableTo" ReflectliteType.assignableTo #[.agg #[hnd 59], rt 33]).run Tryd.prog w = .ok (.bool false) w := by kernel_rfl
/-! ### The target Fault -/
theorem valueOfPFault (t : Addr) (w : World) : (ReflectliteValue.unpack (.iface 83 (.pointer (some t)))).run Tryd.prog w
    = .ok (vOf 83 ⟨w.heap.size, 0, none⟩ 150) (w.alloc (.cells #[.pointer (some t)] 83)) := by kernel_rfl
theorem typePFault (a : Addr) (w : World) : (ReflectliteValue.methodAny (ReflectliteValue.valueError "reflectlite.Value.Type" 0) (fun t _ _ _ => ReflectliteType.toType t) #[vOf 83 a 150]).run Tryd.prog w
    = .ok (rt 83) w := by kernel_rfl
theorem kindPFault (w : World) : ((ReflectliteType.abiMethod fun t => (fun a : Nat => Value.int IntKind.u8 (a : Int)) <$> Rtype.kind t) #[hnd 83]).run Tryd.prog w = .ok (.int .u8 22) w := by kernel_rfl
theorem kindFault (w : World) : ((ReflectliteType.abiMethod fun t => (fun a : Nat => Value.int IntKind.u8 (a : Int)) <$> Rtype.kind t) #[hnd 65]).run Tryd.prog w = .ok (.int .u8 25) w := by kernel_rfl
theorem partsPFault (a : Addr) (w : World) : (ReflectliteValue.parts (vOf 83 a 150)).run Tryd.prog w = .ok (some (83, a, 150)) w := by kernel_rfl
theorem isNilPFault (a p : Addr) (W : World) (ha : W.cell? a = some (.pointer (some p))) :
    (ReflectliteValue.method (ReflectliteValue.valueError "reflectlite.Value.IsNil" 0) ReflectliteValue.isNil #[vOf 83 a 150]).run Tryd.prog W = .ok (.bool false) W := by
  rw [rlm]
  simp only [Sem.run_bind, partsPFault, Result.andThen]
  simp [ReflectliteValue.isNil, loadVar, isAgg, underlying, Tryd.underlying83, ha, Result.andThen]
theorem elemPFault (w : World) : (ReflectliteType.method ReflectliteType.elem #[.agg #[hnd 83]]).run Tryd.prog w = .ok (rt 65) w := by kernel_rfl
theorem implementsFault (w : World) : (ReflectliteType.relation "Implements" ReflectliteType.implements_ #[.agg #[hnd 65], rt 29]).run Tryd.prog w = .ok (.bool true) w := by kernel_rfl
theorem valueOfFault (c p : Int) (w : World) : (ReflectliteValue.unpack (.iface 65 (.agg #[.int .i64 c, .int .i64 p]))).run Tryd.prog w
    = .ok (vOf 65 ⟨w.heap.size, 0, none⟩ 153) (w.alloc (.cells #[.int .i64 c, .int .i64 p] 65)) := by kernel_rfl
theorem elemOfFault (w : World) : (Rtype.elem? 83).run Tryd.prog w = .ok (some 65) w := by kernel_rfl
theorem mkFault (p : Addr) (w : World) : (ReflectliteValue.mk 65 p ReflectliteValue.flagAddr).run Tryd.prog w = .ok (vOf 65 p 409) w := by kernel_rfl
theorem elemVFault (a p : Addr) (W : World) (ha : W.cell? a = some (.pointer (some p))) :
    (ReflectliteValue.method (ReflectliteValue.valueError "reflectlite.Value.Elem" 0) ReflectliteValue.elem #[vOf 83 a 150]).run Tryd.prog W
      = .ok (vOf 65 p 409) W := by
  rw [rlm]
  simp only [Sem.run_bind, partsPFault, Result.andThen]
  simp [ReflectliteValue.elem, loadVar, isAgg, underlying, Tryd.underlying83, ha, Result.andThen, elemOfFault, mkFault]
theorem partsAFault (a : Addr) (w : World) : (ReflectliteValue.parts (vOf 65 a 409)).run Tryd.prog w = .ok (some (65, a, 409)) w := by kernel_rfl
theorem partsFault (a : Addr) (w : World) : (ReflectliteValue.parts (vOf 65 a 153)).run Tryd.prog w = .ok (some (65, a, 153)) w := by kernel_rfl
theorem directFault (w : World) : (Rtype.directlyAssignable 65 65).run Tryd.prog w = .ok true w := by kernel_rfl
theorem assignCodeToFault (w : World) : (ReflectliteType.relation "AssignableTo" ReflectliteType.assignableTo #[.agg #[hnd 33], rt 65]).run Tryd.prog w = .ok (.bool false) w := by kernel_rfl
theorem assignFaultToFault (w : World) : (ReflectliteType.relation "AssignableTo" ReflectliteType.assignableTo #[.agg #[hnd 65], rt 65]).run Tryd.prog w = .ok (.bool true) w := by kernel_rfl
theorem assignWithinToFault (w : World) : (ReflectliteType.relation "AssignableTo" ReflectliteType.assignableTo #[.agg #[hnd 59], rt 65]).run Tryd.prog w = .ok (.bool false) w := by kernel_rfl
/-! ### The target Within -/
theorem valueOfPWithin (t : Addr) (w : World) : (ReflectliteValue.unpack (.iface 82 (.pointer (some t)))).run Tryd.prog w
    = .ok (vOf 82 ⟨w.heap.size, 0, none⟩ 150) (w.alloc (.cells #[.pointer (some t)] 82)) := by kernel_rfl
theorem typePWithin (a : Addr) (w : World) : (ReflectliteValue.methodAny (ReflectliteValue.valueError "reflectlite.Value.Type" 0) (fun t _ _ _ => ReflectliteType.toType t) #[vOf 82 a 150]).run Tryd.prog w
    = .ok (rt 82) w := by kernel_rfl
theorem kindPWithin (w : World) : ((ReflectliteType.abiMethod fun t => (fun a : Nat => Value.int IntKind.u8 (a : Int)) <$> Rtype.kind t) #[hnd 82]).run Tryd.prog w = .ok (.int .u8 22) w := by kernel_rfl
theorem kindWithin (w : World) : ((ReflectliteType.abiMethod fun t => (fun a : Nat => Value.int IntKind.u8 (a : Int)) <$> Rtype.kind t) #[hnd 59]).run Tryd.prog w = .ok (.int .u8 22) w := by kernel_rfl
theorem partsPWithin (a : Addr) (w : World) : (ReflectliteValue.parts (vOf 82 a 150)).run Tryd.prog w = .ok (some (82, a, 150)) w := by kernel_rfl
theorem isNilPWithin (a p : Addr) (W : World) (ha : W.cell? a = some (.pointer (some p))) :
    (ReflectliteValue.method (ReflectliteValue.valueError "reflectlite.Value.IsNil" 0) ReflectliteValue.isNil #[vOf 82 a 150]).run Tryd.prog W = .ok (.bool false) W := by
  rw [rlm]
  simp only [Sem.run_bind, partsPWithin, Result.andThen]
  simp [ReflectliteValue.isNil, loadVar, isAgg, underlying, Tryd.underlying82, ha, Result.andThen]
theorem elemPWithin (w : World) : (ReflectliteType.method ReflectliteType.elem #[.agg #[hnd 82]]).run Tryd.prog w = .ok (rt 59) w := by kernel_rfl
theorem implementsWithin (w : World) : (ReflectliteType.relation "Implements" ReflectliteType.implements_ #[.agg #[hnd 59], rt 29]).run Tryd.prog w = .ok (.bool true) w := by kernel_rfl
theorem valueOfWithin (e : Addr) (w : World) : (ReflectliteValue.unpack (.iface 59 (.pointer (some e)))).run Tryd.prog w
    = .ok (vOf 59 ⟨w.heap.size, 0, none⟩ 150) (w.alloc (.cells #[.pointer (some e)] 59)) := by kernel_rfl
theorem elemOfWithin (w : World) : (Rtype.elem? 82).run Tryd.prog w = .ok (some 59) w := by kernel_rfl
theorem mkWithin (p : Addr) (w : World) : (ReflectliteValue.mk 59 p ReflectliteValue.flagAddr).run Tryd.prog w = .ok (vOf 59 p 406) w := by kernel_rfl
theorem elemVWithin (a p : Addr) (W : World) (ha : W.cell? a = some (.pointer (some p))) :
    (ReflectliteValue.method (ReflectliteValue.valueError "reflectlite.Value.Elem" 0) ReflectliteValue.elem #[vOf 82 a 150]).run Tryd.prog W
      = .ok (vOf 59 p 406) W := by
  rw [rlm]
  simp only [Sem.run_bind, partsPWithin, Result.andThen]
  simp [ReflectliteValue.elem, loadVar, isAgg, underlying, Tryd.underlying82, ha, Result.andThen, elemOfWithin, mkWithin]
theorem partsAWithin (a : Addr) (w : World) : (ReflectliteValue.parts (vOf 59 a 406)).run Tryd.prog w = .ok (some (59, a, 406)) w := by kernel_rfl
theorem partsWithin (a : Addr) (w : World) : (ReflectliteValue.parts (vOf 59 a 150)).run Tryd.prog w = .ok (some (59, a, 150)) w := by kernel_rfl
theorem directWithin (w : World) : (Rtype.directlyAssignable 59 59).run Tryd.prog w = .ok true w := by kernel_rfl
theorem assignCodeToWithin (w : World) : (ReflectliteType.relation "AssignableTo" ReflectliteType.assignableTo #[.agg #[hnd 33], rt 59]).run Tryd.prog w = .ok (.bool false) w := by kernel_rfl
theorem assignFaultToWithin (w : World) : (ReflectliteType.relation "AssignableTo" ReflectliteType.assignableTo #[.agg #[hnd 65], rt 59]).run Tryd.prog w = .ok (.bool false) w := by kernel_rfl
theorem assignWithinToWithin (w : World) : (ReflectliteType.relation "AssignableTo" ReflectliteType.assignableTo #[.agg #[hnd 59], rt 59]).run Tryd.prog w = .ok (.bool true) w := by kernel_rfl
theorem setCode (ta b : Addr) (c : Int) (old : Value) (W : World) (hb : W.cell? b = some (.int .i64 c)) (ht : W.cell? ta = some old) (hf : W.frozen? ta = false) :
    (ReflectliteValue.set #[vOf 33 ta 386, vOf 33 b 130]).run Tryd.prog W = .ok (.tuple #[]) (W.setCell ta (.int .i64 c)) := by
  rw [rls]
  simp only [Sem.run_bind, partsACode, partsCode, Result.andThen]
  simp [ReflectliteValue.flagAddr, loadVar, isAgg, underlying, Tryd.underlying33, hb, Result.andThen, directCode, storeVar, Value.cells, storeCells, Addr.add]
  rw [run_store Tryd.prog W ta _ _ (by rfl)]
  simp [ht, hf]
theorem setWithin (ta b e : Addr) (old : Value) (W : World) (hb : W.cell? b = some (.pointer (some e))) (ht : W.cell? ta = some old) (hf : W.frozen? ta = false) :
    (ReflectliteValue.set #[vOf 59 ta 406, vOf 59 b 150]).run Tryd.prog W = .ok (.tuple #[]) (W.setCell ta (.pointer (some e))) := by
  rw [rls]
  simp only [Sem.run_bind, partsAWithin, partsWithin, Result.andThen]
  simp [ReflectliteValue.flagAddr, loadVar, isAgg, underlying, Tryd.underlying59, hb, Result.andThen, directWithin, storeVar, Value.cells, storeCells, Addr.add]
  rw [run_store Tryd.prog W ta _ _ (by rfl)]
  simp [ht, hf]
end Go.Proofs.YtbhejkjgebhpoaaDoor
