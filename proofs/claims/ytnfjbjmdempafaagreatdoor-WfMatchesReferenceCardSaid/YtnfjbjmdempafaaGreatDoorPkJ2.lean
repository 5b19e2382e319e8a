/- Closed facts on this program's types, as the model's entries for package reflectlite see them, and on the methods that an error has. No walk. The one store of t -/
import Derived.LaidEql
import Derived.Stop.Asserts
import Derived.RowKitTokens
import Derived.Lib.Hide
import Derived.Laws.Cells
import Derived.Deep.LoopGhost
import Derived.Outline
import Derived.Handy
import Derived.Test.YtnfjbjmdempafaaGreatDoorProg
import Derived.WalkKit
import Derived.Defers
import Derived.Recover
import Derived.Tactics
import Derived.Tactics2
import Derived.Test.YtnfjbjmdempafaaGreatDoorPkF
namespace Go.Proofs.YtnfjbjmdempafaaGreatDoor
open Go.RowKit Go.Extern.Stop Go.Stop Go.Extern
/-- The handle of a type. -/
abbrev hnd (t : Nat) : Value := .pointer (some ⟨4, t, none⟩)
abbrev rt (t : Nat) : Value := .iface 137 (.agg #[hnd t])
abbrev vOf (t : Nat) (a : Addr) (n : Int) : Value := .agg #[hnd t, .pointer (some a), .int .u64 n]
theorem m_kind (h : Value) (w : World) : (Go.method 248 137 (.agg #[h]) "Kind").run Tryz.prog w = .ok (101, h) w := by kernel_rfl
theorem m_elem (h : Value) (w : World) : (Go.method 248 137 (.agg #[h]) "Elem").run Tryz.prog w = .ok (135, .agg #[h]) w := by kernel_rfl
theorem m_implements (h : Value) (w : World) : (Go.method 248 137 (.agg #[h]) "Implements").run Tryz.prog w = .ok (136, .agg #[h]) w := by kernel_rfl
theorem m_assignable (h : Value) (w : World) : (Go.method 248 137 (.agg #[h]) "AssignableTo").run Tryz.prog w = .ok (133, .agg #[h]) w := by kernel_rfl
theorem rlm (z : Sem Value) (f : TypeId → Addr → Nat → Nat → Sem Value) (v : Value) :
    ReflectliteValue.method z f #[v] = (do match ← ReflectliteValue.parts v with | none => z | some (t, a, fl) => f t a fl (fl % 32)) := rfl
theorem rls (v x : Value) : ReflectliteValue.set #[v, x] = (do
    let (some (dst, a, fl), some (src, b, _)) := (← ReflectliteValue.parts v, ← ReflectliteValue.parts x)
      | unsupported (.noEntry "extern/(internal/reflectlite.Value).Set.zeroValue")
    if fl / ReflectliteValue.flagAddr % 2 == 0 then unsupported (.noEntry "extern/(internal/reflectlite.Value).Set.unaddressable")
    let val ← loadVar src b
    if ← Rtype.directlyAssignable dst src then storeVar dst a val
    else if ← Rtype.implements dst src then
      if (← Rtype.kind src) == 20 then
        match val with
        | .nilIface => unsupported (.noEntry "extern/reflectlite: a nil value of one interface type handed on as a value of another")
        | _ => storeVar dst a val
      else storeVar dst a (.iface src val)
    else panicString ("reflectlite.Set: value of type " ++ (← Rtype.spelt src) ++ " is not assignable to type " ++ (← Rtype.spelt dst))
    pure (.tuple #[])) := rfl
theorem typeOfCode (v : Value) (w : World) : (ReflectliteType.typeOf #[.iface 35 v]).run Tryz.prog w = .ok (rt 35) w := by kernel_rfl
theorem noAsCode (v : Value) (xT : TypeId) (w : World) : (Instr.typeAssert (.iface 35 v) xT 142 true).run Tryz.prog w = .ok (.tuple #[.nilIface, .bool false]) w := run_typeAssert_lacksB Tryz.underlying142 (by kernel_rfl) (by kernel_rfl) v xT w
theorem noUnwrapCode (v : Value) (xT : TypeId) (w : World) : (Instr.typeAssert (.iface 35 v) xT 145 true).run Tryz.prog w = .ok (.tuple #[.nilIface, .bool false]) w := run_typeAssert_lacksB Tryz.underlying145 (by kernel_rfl) (by kernel_rfl) v xT w
theorem noUnwrapLCode (v : Value) (xT : TypeId) (w : World) : (Instr.typeAssert (.iface 35 v) xT 147 true).run Tryz.prog w = .ok (.tuple #[.nilIface, .bool false]) w := run_typeAssert_lacksB Tryz.underlying147 (by kernel_rfl) (by kernel_rfl) v xT w
theorem typeOfFault (v : Value) (w : World) : (ReflectliteType.typeOf #[.iface 67 v]).run Tryz.prog w = .ok (rt 67) w := by kernel_rfl
theorem noAsFault (v : Value) (xT : TypeId) (w : World) : (Instr.typeAssert (.iface 67 v) xT 142 true).run Tryz.prog w = .ok (.tuple #[.nilIface, .bool false]) w := run_typeAssert_lacksB Tryz.underlying142 (by kernel_rfl) (by kernel_rfl) v xT w
theorem hasUnwrapFault (v : Value) (xT : TypeId) (w : World) : (Instr.typeAssert (.iface 67 v) xT 145 true).run Tryz.prog w = .ok (.tuple #[.iface 67 v, .bool true]) w := run_typeAssert_hasB Tryz.underlying145 (by kernel_rfl) v xT w
theorem typeOfWithin (v : Value) (w : World) : (ReflectliteType.typeOf #[.iface 70 v]).run Tryz.prog w = .ok (rt 70) w := by kernel_rfl
theorem noAsWithin (v : Value) (xT : TypeId) (w : World) : (Instr.typeAssert (.iface 70 v) xT 142 true).run Tryz.prog w = .ok (.tuple #[.nilIface, .bool false]) w := run_typeAssert_lacksB Tryz.underlying142 (by kernel_rfl) (by kernel_rfl) v xT w
theorem hasUnwrapWithin (v : Value) (xT : TypeId) (w : World) : (Instr.typeAssert (.iface 70 v) xT 145 true).run Tryz.prog w = .ok (.tuple #[.iface 70 v, .bool true]) w := run_typeAssert_hasB Tryz.underlying145 (by kernel_rfl) v xT w
/-! ### The target Code -/
theorem valueOfPCode (t : Addr) (w : World) : (ReflectliteValue.unpack (.iface 92 (.pointer (some t)))).run Tryz.prog w
    = .ok (vOf 92 ⟨w.heap.size, 0, none⟩ 150) (w.alloc (.cells #[.pointer (some t)] 92)) := by kernel_rfl
theorem typePCode (a : Addr) (w : World) : (ReflectliteValue.methodAny (ReflectliteValue.valueError "reflectlite.Value.Type" 0) (fun t _ _ _ => ReflectliteType.toType t) #[vOf 92 a 150]).run Tryz.prog w
    = .ok (rt 92) w := by kernel_rfl
theorem kindPCode (w : World) : ((ReflectliteType.abiMethod fun t => (fun a : Nat => Value.int IntKind.u8 (a : Int)) <$> Rtype.kind t) #[hnd 92]).run Tryz.prog w = .ok (.int .u8 22) w := by kernel_rfl
theorem kindCode (w : World) : ((ReflectliteType.abiMethod fun t => (fun a : Nat => Value.int IntKind.u8 (a : Int)) <$> Rtype.kind t) #[hnd 35]).run Tryz.prog w = .ok (.int .u8 2) w := by kernel_rfl
theorem partsPCode (a : Addr) (w : World) : (ReflectliteValue.parts (vOf 92 a 150)).run Tryz.prog w = .ok (some (92, a, 150)) w := by kernel_rfl
theorem isNilPCode (a p : Addr) (W : World) (ha : W.cell? a = some (.pointer (some p))) :
    (ReflectliteValue.method (ReflectliteValue.valueError "reflectlite.Value.IsNil" 0) ReflectliteValue.isNil #[vOf 92 a 150]).run Tryz.prog W = .ok (.bool false) W := by
  rw [rlm]
  simp only [Sem.run_bind, partsPCode, Result.andThen]
  simp [ReflectliteValue.isNil, loadVar, isAgg, underlying, Tryz.underlying92, ha, Result.andThen]
theorem elemPCode (w : World) : (ReflectliteType.method ReflectliteType.elem #[.agg #[hnd 92]]).run Tryz.prog w = .ok (rt 35) w := by kernel_rfl
theorem implementsCode (w : World) : (ReflectliteType.relation "Implements" ReflectliteType.implements_ #[.agg #[hnd 35], rt 33]).run Tryz.prog w = .ok (.bool true) w := by kernel_rfl
theorem valueOfCode (c : Int) (w : World) : (ReflectliteValue.unpack (.iface 35 (.int .i64 c))).run Tryz.prog w
    = .ok (vOf 35 ⟨w.heap.size, 0, none⟩ 130) (w.alloc (.cells #[.int .i64 c] 35)) := by kernel_rfl
theorem elemOfCode (w : World) : (Rtype.elem? 92).run Tryz.prog w = .ok (some 35) w := by kernel_rfl
theorem mkCode (p : Addr) (w : World) : (ReflectliteValue.mk 35 p ReflectliteValue.flagAddr).run Tryz.prog w = .ok (vOf 35 p 386) w := by kernel_rfl
theorem elemVCode (a p : Addr) (W : World) (ha : W.cell? a = some (.pointer (some p))) :
    (ReflectliteValue.method (ReflectliteValue.valueError "reflectlite.Value.Elem" 0) ReflectliteValue.elem #[vOf 92 a 150]).run Tryz.prog W
      = .ok (vOf 35 p 386) W := by
  rw [rlm]
  simp only [Sem.run_bind, partsPCode, Result.andThen]
  simp [ReflectliteValue.elem, loadVar, isAgg, underlying, Tryz.underlying92, ha, Result.andThen, elemOfCode, mkCode]
theorem partsACode (a : Addr) (w : World) : (ReflectliteValue.parts (vOf 35 a 386)).run Tryz.prog w = .ok (some (35, a, 386)) w := by kernel_rfl
theorem partsCode (a : Addr) (w : World) : (ReflectliteValue.parts (vOf 35 a 130)).run Tryz.prog w = .ok (some (35, a, 130)) w := by kernel_rfl
theorem directCode (w : World) : (Rtype.directlyAssignable 35 35).run Tryz.prog w = .ok true w := by kernel_rfl
theorem assignCodeToCode (w : World) : (ReflectliteType.relation "AssignableTo" ReflectliteType.assignableTo #[.agg #[hnd 35], rt 35]).run Tryz.prog w = .ok (.bool true) w := by kernel_rfl
theorem assignFaultToCode (w : World) : (ReflectliteType.relation "AssignableTo" ReflectliteType.assignableTo #[.agg #[hnd 67], rt 35]).run Tryz.prog w = .ok (.bool false) w := by kernel_rfl
theorem assignWithinToCode (w : World) : (ReflectliteType.relation "AssignableTo" ReflectliteType.assignableTo #[.agg #[hnd 70], rt 35]).run Tryz.prog w = .ok (.bool false) w := by kernel_rfl
/-! ### The target Fault -/
theorem valueOfPFault (t : Addr) (w : World) : (ReflectliteValue.unpack (.iface 93 (.pointer (some t)))).run Tryz.prog w
    = .ok (vOf 93 ⟨w.heap.size, 0, none⟩ 150) (w.alloc (.cells #[.pointer (some t)] 93)) := by kernel_rfl
theorem typePFault (a : Addr) (w : World) : (ReflectliteValue.methodAny (ReflectliteValue.valueError "reflectlite.Value.Type" 0) (fun t _ _ _ => ReflectliteType.toType t) #[vOf 93 a 150]).run Tryz.prog w
    = .ok (rt 93) w := by kernel_rfl
theorem kindPFault (w : World) : ((ReflectliteType.abiMethod fun t => (fun a : Nat => Value.int IntKind.u8 (a : Int)) <$> Rtype.kind t) #[hnd 93]).run Tryz.prog w = .ok (.int .u8 22) w := by kernel_rfl
theorem kindFault (w : World) : ((ReflectliteType.abiMethod fun t => (fun a : Nat => Value.int IntKind.u8 (a : Int)) <$> Rtype.kind t) #[hnd 67]).run Tryz.prog w = .ok (.int .u8 25) w := by kernel_rfl
theorem partsPFault (a : Addr) (w : World) : (ReflectliteValue.parts (vOf 93 a 150)).run Tryz.prog w = .ok (some (93, a, 150)) w := by kernel_rfl
theorem isNilPFault (a p : Addr) (W : World) (ha : W.cell? a = some (.pointer (some p))) :
    (ReflectliteValue.method (ReflectliteValue.valueError "reflectlite.Value.IsNil" 0) ReflectliteValue.isNil #[vOf 93 a 150]).run Tryz.prog W = .ok (.bool false) W := by
  rw [rlm]
  simp only [Sem.run_bind, partsPFault, Result.andThen]
  simp [ReflectliteValue.isNil, loadVar, isAgg, underlying, Tryz.underlying93, ha, Result.andThen]
theorem elemPFault (w : World) : (ReflectliteType.method ReflectliteType.elem #[.agg #[hnd 93]]).run Tryz.prog w = .ok (rt 67) w := by kernel_rfl
theorem implementsFault (w : World) : (ReflectliteType.relation "Implements" ReflectliteType.implements_ #[.agg #[hnd 67], rt 33]).run Tryz.prog w = .ok (.bool true) w := by kernel_rfl
theorem valueOfFault (c p : Int) (w : World) : (ReflectliteValue.unpack (.iface 67 (.agg #[.int .i64 c, .int .i64 p]))).run Tryz.prog w
    = .ok (vOf 67 ⟨w.heap.size, 0, none⟩ 153) (w.alloc (.cells #[.int .i64 c, .int .i64 p] 67)) := by kernel_rfl
theorem elemOfFault (w : World) : (Rtype.elem? 93).run Tryz.prog w = .ok (some 67) w := by kernel_rfl
theorem mkFault (p : Addr) (w : World) : (ReflectliteValue.mk 67 p ReflectliteValue.flagAddr).run Tryz.prog w = .ok (vOf 67 p 409) w := by kernel_rfl
theorem elemVFault (a p : Addr) (W : World) (ha : W.cell? a = some (.pointer (some p))) :
    (ReflectliteValue.method (ReflectliteValue.valueError "reflectlite.Value.Elem" 0) ReflectliteValue.elem #[vOf 93 a 150]).run Tryz.prog W
      = .ok (vOf 67 p 409) W := by
  rw [rlm]
  simp only [Sem.run_bind, partsPFault, Result.andThen]
  simp [ReflectliteValue.elem, loadVar, isAgg, underlying, Tryz.underlying93, ha, Result.andThen, elemOfFault, mkFault]
theorem partsAFault (a : Addr) (w : World) : (ReflectliteValue.parts (vOf 67 a 409)).run Tryz.prog w = .ok (some (67, a, 409)) w := by kernel_rfl
theorem partsFault (a : Addr) (w : World) : (ReflectliteValue.parts (vOf 67 a 153)).run Tryz.prog w = .ok (some (67, a, 153)) w := by kernel_rfl
theorem directFault (w : World) : (Rtype.directlyAssignable 67 67).run Tryz.prog w = .ok true w := by kernel_rfl
theorem assignCodeToFault (w : World) : (ReflectliteType.relation "AssignableTo" ReflectliteType.assignableTo #[.agg #[hnd 35], rt 67]).run Tryz.prog w = .ok (.bool false) w := by kernel_rfl
theorem assignFaultToFault (w : World) : (ReflectliteType.relation "AssignableTo" ReflectliteType.assignableTo #[.agg #[hnd 67], rt 67]).run Tryz.prog w = .ok (.bool true) w := by kernel_rfl
theorem assignWithinToFault (w : World) : (ReflectliteType.relation "AssignableTo" ReflectliteType.assignableTo #[.agg #[hnd 70], rt 67]).run Tryz.prog w = .ok (.bool false) w := by kernel_rfl
/-! ### The target Within -/
theorem valueOfPWithin (t : Addr) (w : World) : (ReflectliteValue.unpack (.iface 94 (.pointer (some t)))).run Tryz.prog w
    = .ok (vOf 94 ⟨w.heap.size, 0, none⟩ 150) (w.alloc (.cells #[.pointer (some t)] 94)) := by kernel_rfl
theorem typePWithin (a : Addr) (w : World) : (ReflectliteValue.methodAny (ReflectliteValue.valueError "reflectlite.Value.Type" 0) (fun t _ _ _ => ReflectliteType.toType t) #[vOf 94 a 150]).run Tryz.prog w
    = .ok (rt 94) w := by kernel_rfl
theorem kindPWithin (w : World) : ((ReflectliteType.abiMethod fun t => (fun a : Nat => Value.int IntKind.u8 (a : Int)) <$> Rtype.kind t) #[hnd 94]).run Tryz.prog w = .ok (.int .u8 22) w := by kernel_rfl
theorem kindWithin (w : World) : ((ReflectliteType.abiMethod fun t => (fun a : Nat => Value.int IntKind.u8 (a : Int)) <$> Rtype.kind t) #[hnd 70]).run Tryz.prog w = .ok (.int .u8 22) w := by kernel_rfl
theorem partsPWithin (a : Addr) (w : World) : (ReflectliteValue.parts (vOf 94 a 150)).run Tryz.prog w = .ok (some (94, a, 150)) w := by kernel_rfl
theorem isNilPWithin (a p : Addr) (W : World) (ha : W.cell? a = some (.pointer (some p))) :
    (ReflectliteValue.method (ReflectliteValue.valueError "reflectlite.Value.IsNil" 0) ReflectliteValue.isNil #[vOf 94 a 150]).run Tryz.prog W = .ok (.bool false) W := by
  rw [rlm]
  simp only [Sem.run_bind, partsPWithin, Result.andThen]
  simp [ReflectliteValue.isNil, loadVar, isAgg, underlying, Tryz.underlying94, ha, Result.andThen]
theorem elemPWithin (w : World) : (ReflectliteType.method ReflectliteType.elem #[.agg #[hnd 94]]).run Tryz.prog w = .ok (rt 70) w := by kernel_rfl
theorem implementsWithin (w : World) : (ReflectliteType.relation "Implements" ReflectliteType.implements_ #[.agg #[hnd 70], rt 33]).run Tryz.prog w = .ok (.bool true) w := by kernel_rfl
theorem valueOfWithin (e : Addr) (w : World) : (ReflectliteValue.unpack (.iface 70 (.pointer (some e)))).run Tryz.prog w
    = .ok (vOf 70 ⟨w.heap.size, 0, none⟩ 150) (w.alloc (.cells #[.pointer (some e)] 70)) := by kernel_rfl
theorem elemOfWithin (w : World) : (Rtype.elem? 94).run Tryz.prog w = .ok (some 70) w := by kernel_rfl
theorem mkWithin (p : Addr) (w : World) : (ReflectliteValue.mk 70 p ReflectliteValue.flagAddr).run Tryz.prog w = .ok (vOf 70 p 406) w := by kernel_rfl
theorem elemVWithin (a p : Addr) (W : World) (ha : W.cell? a = some (.pointer (some p))) :
    (ReflectliteValue.method (ReflectliteValue.valueError "reflectlite.Value.Elem" 0) ReflectliteValue.elem #[vOf 94 a 150]).run Tryz.prog W
      = .ok (vOf 70 p 406) W := by
  rw [rlm]
  simp only [Sem.run_bind, partsPWithin, Result.andThen]
  simp [ReflectliteValue.elem, loadVar, isAgg, underlying, Tryz.underlying94, ha, Result.andThen, elemOfWithin, mkWithin]
theorem partsAWithin (a : Addr) (w : World) : (ReflectliteValue.parts (vOf 70 a 406)).run Tryz.prog w = .ok (some (70, a, 406)) w := by kernel_rfl
theorem partsWithin (a : Addr) (w : World) : (ReflectliteValue.parts (vOf 70 a 150)).run Tryz.prog w = .ok (some (70, a, 150)) w := by kernel_rfl
theorem directWithin (w : World) : (Rtype.directlyAssignable 70 70).run Tryz.prog w = .ok true w := by kernel_rfl
theorem assignCodeToWithin (w : World) : (ReflectliteType.relation "AssignableTo" ReflectliteType.assignableTo #[.agg #[hnd 35], rt 70]).run Tryz.prog w = .ok (.bool false) w := by kernel_rfl
theorem assignFaultToWithin (w : World) : (ReflectliteType.relation "AssignableTo" ReflectliteType.assignableTo #[.agg #[hnd 67], rt 70]).run Tryz.prog w = .ok (.bool false) w := by kernel_rfl
theorem assignWithinToWithin (w : World) : (ReflectliteType.relation "AssignableTo" ReflectliteType.assignableTo #[.agg #[hnd 70], rt 70]).run Tryz.prog w = .ok (.bool true) w := by kernel_rfl
theorem setCode (ta b : Addr) (c : Int) (old : Value) (W : World) (hb : W.cell? b = some (.int .i64 c)) (ht : W.cell? ta = some old) (hf : W.frozen? ta = false) :
    (ReflectliteValue.set #[vOf 35 ta 386, vOf 35 b 130]).run Tryz.prog W = .ok (.tuple #[]) (W.setCell ta (.int .i64 c)) := by
  rw [rls]
  simp only [Sem.run_bind, partsACode, partsCode, Result.andThen]
  simp [ReflectliteValue.flagAddr, loadVar, isAgg, underlying, Tryz.underlying35, hb, Result.andThen, directCode, storeVar, Value.cells, storeCells, Addr.add]
  rw [run_store Tryz.prog W ta _ _ (by rfl)]
  simp [ht, hf]
theorem setWithin (ta b e : Addr) (old : Value) (W : World) (hb : W.cell? b = some (.pointer (some e))) (ht : W.cell? ta = some old) (hf : W.frozen? ta = false) :
    (ReflectliteValue.set #[vOf 70 ta 406, vOf 70 b 150]).run Tryz.prog W = .ok (.tuple #[]) (W.setCell ta (.pointer (some e))) := by
  rw [rls]
  simp only [Sem.run_bind, partsAWithin, partsWithin, Result.andThen]
  simp [ReflectliteValue.flagAddr, loadVar, isAgg, underlying, Tryz.underlying70, hb, Result.andThen, directWithin, storeVar, Value.cells, storeCells, Addr.add]
  rw [run_store Tryz.prog W ta _ _ (by rfl)]
  simp [ht, hf]
end Go.Proofs.YtnfjbjmdempafaaGreatDoor
namespace Go.Proofs.YtnfjbjmdempafaaGreatDoor
open Go.RowKit Go.Extern.Stop Go.Stop Go.Extern
theorem setFault (t b : Nat) (c p : Int) (x y : Value) (W : World) (hb : W.cell? ⟨b, 0, none⟩ = some (.int .i64 c)) (hb1 : W.cell? ⟨b, 1, none⟩ = some (.int .i64 p)) (ht : W.cell? ⟨t, 0, none⟩ = some x) (ht1 : W.cell? ⟨t, 1, none⟩ = some y)
    (hf : W.frozen? ⟨t, 0, none⟩ = false) (hf1 : W.frozen? ⟨t, 1, none⟩ = false) :
    (ReflectliteValue.set #[vOf 67 ⟨t, 0, none⟩ 409, vOf 67 ⟨b, 0, none⟩ 153]).run Tryz.prog W = .ok (.tuple #[]) ((W.setCell ⟨t, 0, none⟩ (.int .i64 c)).setCell ⟨t, 1, none⟩ (.int .i64 p)) := by
  rw [rls]
  simp only [Sem.run_bind, partsAFault, partsFault, Result.andThen]
  have hl : (loadCells ⟨b, 0, none⟩ 2).run Tryz.prog W = .ok #[.int .i64 c, .int .i64 p] W :=
    run_loadCells_list W ⟨b, 0, none⟩ [.int .i64 c, .int .i64 p] (fun j v h => by
      rcases j with _ | _ | j
      · simp at h; subst h; simpa [Addr.add] using hb
      · simp at h; subst h; simpa [Addr.add] using hb1
      · simp at h)
  simp [ReflectliteValue.flagAddr, loadVar, isAgg, underlying, Tryz.underlying67, Result.andThen, directFault, storeVar, Value.cells, storeCells, Addr.add, hl]
  rw [run_store Tryz.prog W ⟨t, 0, none⟩ _ _ (by rfl)]
  simp only [ht, hf, Bool.false_eq_true, if_false]
  rw [run_store Tryz.prog _ ⟨t, 1, none⟩ _ _ (by rfl)]
  simp [World.cell?_setCell_other, ht1, hf1]
end Go.Proofs.YtnfjbjmdempafaaGreatDoor
namespace Go.Proofs.YtnfjbjmdempafaaGreatDoor
open Go.RowKit Go.Extern.Stop Go.Stop Go.Extern
theorem unwrap_within (b : Nat) (e : Err) (w : World) (h : w.cell? ⟨b, 1, none⟩ = some e.val) :
    Calls Tryz.prog 123 #[.pointer (some ⟨b, 0, none⟩)] w fun ev w' => ev = .returned e.val ∧ w' = w := by
  go_enter Tryz.func123, Tryz.ntmps123
  go_wp2
  go_ret
  exact ⟨rfl, rfl⟩
theorem unwrap_fault (c p : Int) (w : World) :
    Calls Tryz.prog 121 #[.agg #[.int .i64 c, .int .i64 p]] w fun ev w' => ev = .returned (.iface 35 (.int .i64 c)) ∧ Below w.heap.size w w' := by
  go_enter Tryz.func121, Tryz.ntmps121
  go_wp2
  go_ret
  exact ⟨rfl, by go_grown⟩
theorem eg_val (d : Err) (x y : Operand) (w : World) : (eqGuard .eql 33 x y d.val .nilIface).run Tryz.prog w = .ok () w := by
  cases d <;> rfl
theorem eq_val (d : Err) (w : World) : (binOp .eql 33 d.val .nilIface).run Tryz.prog w = .ok (.bool false) w := by
  cases d <;> kernel_rfl
/-- What holds at the head of a round of errors.as and of errors.is: the error at hand has in its chain what the first one had. -/
def AsRel {α : Type} (f : Err → α) (w : World) (r : α) (k : Nat) (err : Value) (wr : World) : Prop :=
  ∃ d : Err, d.deep = k ∧ err = d.val ∧ d.In wr ∧ f d = r ∧ Below w.heap.size w wr
/-- How errors.as ends: nothing found, or a value laid into the target's cells. -/
def CodePost (w : World) (tb : Nat) (r : Option Int) (ev : Ending) (w' : World) : Prop :=
  match r with
  | none => ev = .returned (.bool false) ∧ Below w.heap.size w w'
  | some c => ev = .returned (.bool true) ∧ ∃ w1, Below w.heap.size w w1 ∧ w' = w1.setCell ⟨tb, 0, none⟩ (.int .i64 c)
def FaultPost (w : World) (tb : Nat) (r : Option (Int × Int)) (ev : Ending) (w' : World) : Prop :=
  match r with
  | none => ev = .returned (.bool false) ∧ Below w.heap.size w w'
  | some (c, p) => ev = .returned (.bool true) ∧ ∃ w1, Below w.heap.size w w1 ∧ w' = (w1.setCell ⟨tb, 0, none⟩ (.int .i64 c)).setCell ⟨tb, 1, none⟩ (.int .i64 p)
def WithinPost (w : World) (tb : Nat) (r : Option Nat) (ev : Ending) (w' : World) : Prop :=
  match r with
  | none => ev = .returned (.bool false) ∧ Below w.heap.size w w'
  | some b => ev = .returned (.bool true) ∧ ∃ w1, Below w.heap.size w w1 ∧ w' = w1.setCell ⟨tb, 0, none⟩ (.pointer (some ⟨b, 0, none⟩))
end Go.Proofs.YtnfjbjmdempafaaGreatDoor
namespace Go.Proofs.YtnfjbjmdempafaaGreatDoor
open Go.RowKit Go.Extern.Stop Go.Stop Go.Extern
set_option maxHeartbeats 2000000 in
theorem as_Code (e : Err) (a tb : Nat) (t x : Value) (w : World) (he : e.In w) (ha : w.cell? ⟨a, 0, none⟩ = some (.pointer (some ⟨tb, 0, none⟩))) (ht : w.cell? ⟨tb, 0, none⟩ = some x) (hf : w.frozen? ⟨tb, 0, none⟩ = false) :
    Calls Tryz.prog 68 #[e.val, t, vOf 92 ⟨a, 0, none⟩ 150, rt 35] w fun ev w' => CodePost w tb (Err.codeOf e) ev w' := by
  have h33 := @run_callFunc_extern Tryz.prog 81 _ ReflectliteType.typeOf Tryz.func81 (by kernel_rfl) (by kernel_rfl) (by kernel_rfl) (by kernel_rfl)
  have h81 := @run_callFunc_extern Tryz.prog 133 _ (ReflectliteType.relation "AssignableTo" ReflectliteType.assignableTo) Tryz.func133 (by kernel_rfl) (by kernel_rfl) (by kernel_rfl) (by kernel_rfl)
  have h38 := @run_callFunc_extern Tryz.prog 82 _ (ReflectliteValue.method (ReflectliteValue.valueError "reflectlite.Value.Elem" 0) ReflectliteValue.elem) Tryz.func82 (by kernel_rfl) (by kernel_rfl) (by kernel_rfl) (by kernel_rfl)
  have h39 := @run_callFunc_extern Tryz.prog 83 _ ReflectliteValue.set Tryz.func83 (by kernel_rfl) (by kernel_rfl) (by kernel_rfl) (by kernel_rfl)
  have h29 := @run_callFunc_extern Tryz.prog 65 _ (fun args => ReflectliteValue.unpack (args.getD 0 (.tuple #[]))) Tryz.func65 (by kernel_rfl) (by kernel_rfl) (by kernel_rfl) (by kernel_rfl)
  have mA := m_assignable
  have hla := lt_of_cell ha
  have hlt := lt_of_cell ht
  have HA := Lib.hid ha
  have HT := Lib.hid ht
  have HF := Lib.hid hf
  have HE := Lib.hid he
  clear he ha ht hf
  go_enter Tryz.func68, Tryz.ntmps68
  go_wp2
  go_loopg [0] e.deep (fun k err wr => AsRel Err.codeOf (w.alloc (.cells #[hnd 92, .pointer (some ⟨a, 0, none⟩), .int .u64 150] 114)) (Err.codeOf e) k err wr)
  case atStart => exact ⟨e, rfl, rfl, HE.out.kept ((Below.refl _ _).alloc (Nat.le_refl _) _) (Nat.le_refl _), rfl, Below.refl _ _⟩
  case round =>
    obtain ⟨d, hk, rfl, hd, hr, hb⟩ := hrel
    have hb0 : Below w.heap.size w wr := ((Below.refl w.heap.size w).alloc (Nat.le_refl _) _).trans (hb.mono (by simp))
    cases d with
    | code c =>
      have tC := typeOfCode
      have aC := assignCodeToCode
      have hbc := bcell hb
      have bx0 : wr.cell? ⟨w.heap.size, 0, none⟩ = some (hnd 92) := by rw [hbc.1 _ _ (by simp)]; simp
      have bx1 : wr.cell? ⟨w.heap.size, 1, none⟩ = some (.pointer (some ⟨a, 0, none⟩)) := by rw [hbc.1 _ _ (by simp)]; simp
      have bx2 : wr.cell? ⟨w.heap.size, 2, none⟩ = some (.int .u64 150) := by rw [hbc.1 _ _ (by simp)]; simp
      have hz : w.heap.size < wr.heap.size := by have := hb.size; simp at this; omega
      have vC := valueOfCode
      have el := elemVCode ⟨a, 0, none⟩ ⟨tb, 0, none⟩ wr (by rw [hbc.1 _ _ (by simp; omega), World.cell?_alloc_lt _ _ ⟨a, 0, none⟩ hla]; exact HA.out)
      have st := setCode ⟨tb, 0, none⟩ ⟨wr.heap.size, 0, none⟩ c x (wr.alloc (.cells #[.int .i64 c] 35)) (by simp)
        (by rw [World.cell?_alloc_lt _ _ ⟨tb, 0, none⟩ (by simp; omega), hbc.1 _ _ (by simp; omega), World.cell?_alloc_lt _ _ ⟨tb, 0, none⟩ hlt]; exact HT.out)
        (by rw [World.frozen?_alloc_old _ _ ⟨tb, 0, none⟩ (by simp; omega), hbc.2 _ _ (by simp; omega), World.frozen?_alloc_old _ _ ⟨tb, 0, none⟩ (by simp; omega)]; exact HF.out)
      have HB := Lib.hid hb0
      have HR := Lib.hid hr
      clear hb hb0 hr hk hd hbc
      simp only [Err.val]
      go_wp2
      go_ret
      rw [← HR.out]
      exact ⟨rfl, _, HB.out.alloc (Nat.le_of_lt hz) _, rfl⟩
    | fault c p =>
      have tC := typeOfFault
      have aC := assignFaultToCode
      have nC := noAsFault
      have uC := hasUnwrapFault
      have HB := Lib.hid hb
      have HR := Lib.hid hr
      have HK := Lib.hid hk
      clear hb hb0 hr hk hd
      simp only [Err.val]
      have e1 := eg_val (.code c)
      have e2 := eq_val (.code c)
      simp only [Err.val] at e1 e2
      go_wp2_with (go_at_call 121; refine (unwrap_fault _ _ _).mono ?_; rintro ev w1 ⟨rfl, hb1⟩; have HB1 := Lib.hid hb1; clear hb1)
      go_roundg 0
      case measure => rw [← HK.out]; exact Nat.zero_lt_one
      case rel => exact ⟨.code c, rfl, rfl, trivial, HR.out, HB.out.trans (HB1.out.mono HB.out.size)⟩
    | within b r d =>
      have tC := typeOfWithin
      have aC := assignWithinToCode
      have nC := noAsWithin
      have uC := hasUnwrapWithin
      obtain ⟨hd0, hd1, hd2⟩ := hd
      have HB := Lib.hid hb
      have HR := Lib.hid hr
      have HK := Lib.hid hk
      have HD := Lib.hid hd2
      clear hb hb0 hr hk hd0 hd2
      simp only [Err.val]
      have e1 := eg_val d
      have e2 := eq_val d
      go_wp2_with (go_at_call 123; refine (unwrap_within _ d _ hd1).mono ?_; rintro ev w1 ⟨rfl, rfl⟩)
      go_roundg d.deep
      case measure => rw [← HK.out]; exact Nat.lt_succ_self _
      case rel => exact ⟨d, rfl, rfl, HD.out, HR.out, HB.out⟩
end Go.Proofs.YtnfjbjmdempafaaGreatDoor
namespace Go.Proofs.YtnfjbjmdempafaaGreatDoor
open Go.RowKit Go.Extern.Stop Go.Stop Go.Extern
set_option maxHeartbeats 2000000 in
theorem as_Fault (e : Err) (a tb : Nat) (t x y : Value) (w : World) (he : e.In w) (ha : w.cell? ⟨a, 0, none⟩ = some (.pointer (some ⟨tb, 0, none⟩))) (ht : w.cell? ⟨tb, 0, none⟩ = some x) (ht1 : w.cell? ⟨tb, 1, none⟩ = some y) (hf : w.frozen? ⟨tb, 0, none⟩ = false) (hf1 : w.frozen? ⟨tb, 1, none⟩ = false) :
    Calls Tryz.prog 68 #[e.val, t, vOf 93 ⟨a, 0, none⟩ 150, rt 67] w fun ev w' => FaultPost w tb (Err.faultOf e) ev w' := by
  have h33 := @run_callFunc_extern Tryz.prog 81 _ ReflectliteType.typeOf Tryz.func81 (by kernel_rfl) (by kernel_rfl) (by kernel_rfl) (by kernel_rfl)
  have h81 := @run_callFunc_extern Tryz.prog 133 _ (ReflectliteType.relation "AssignableTo" ReflectliteType.assignableTo) Tryz.func133 (by kernel_rfl) (by kernel_rfl) (by kernel_rfl) (by kernel_rfl)
  have h38 := @run_callFunc_extern Tryz.prog 82 _ (ReflectliteValue.method (ReflectliteValue.valueError "reflectlite.Value.Elem" 0) ReflectliteValue.elem) Tryz.func82 (by kernel_rfl) (by kernel_rfl) (by kernel_rfl) (by kernel_rfl)
  have h39 := @run_callFunc_extern Tryz.prog 83 _ ReflectliteValue.set Tryz.func83 (by kernel_rfl) (by kernel_rfl) (by kernel_rfl) (by kernel_rfl)
  have h29 := @run_callFunc_extern Tryz.prog 65 _ (fun args => ReflectliteValue.unpack (args.getD 0 (.tuple #[]))) Tryz.func65 (by kernel_rfl) (by kernel_rfl) (by kernel_rfl) (by kernel_rfl)
  have mA := m_assignable
  have hla := lt_of_cell ha
  have hlt := lt_of_cell ht
  have HA := Lib.hid ha
  have HT := Lib.hid ht
  have HF := Lib.hid hf
  have HE := Lib.hid he
  clear he ha ht hf
  have HT1 := Lib.hid ht1
  have HF1 := Lib.hid hf1
  clear ht1 hf1
  go_enter Tryz.func68, Tryz.ntmps68
  go_wp2
  go_loopg [0] e.deep (fun k err wr => AsRel Err.faultOf (w.alloc (.cells #[hnd 93, .pointer (some ⟨a, 0, none⟩), .int .u64 150] 114)) (Err.faultOf e) k err wr)
  case atStart => exact ⟨e, rfl, rfl, HE.out.kept ((Below.refl _ _).alloc (Nat.le_refl _) _) (Nat.le_refl _), rfl, Below.refl _ _⟩
  case round =>
    obtain ⟨d, hk, rfl, hd, hr, hb⟩ := hrel
    have hb0 : Below w.heap.size w wr := ((Below.refl w.heap.size w).alloc (Nat.le_refl _) _).trans (hb.mono (by simp))
    cases d with
    | code c =>
      have tC := typeOfCode
      have aC := assignCodeToFault
      have nC := noAsCode
      have uC := noUnwrapCode
      have lC := noUnwrapLCode
      have HB := Lib.hid hb0
      have HR := Lib.hid hr
      clear hb hb0 hr hk hd
      simp only [Err.val]
      go_wp2
      go_ret
      rw [← HR.out]
      exact ⟨rfl, HB.out⟩
    | fault c p =>
      have tC := typeOfFault
      have aC := assignFaultToFault
      have hbc := bcell hb
      have bx0 : wr.cell? ⟨w.heap.size, 0, none⟩ = some (hnd 93) := by rw [hbc.1 _ _ (by simp)]; simp
      have bx1 : wr.cell? ⟨w.heap.size, 1, none⟩ = some (.pointer (some ⟨a, 0, none⟩)) := by rw [hbc.1 _ _ (by simp)]; simp
      have bx2 : wr.cell? ⟨w.heap.size, 2, none⟩ = some (.int .u64 150) := by rw [hbc.1 _ _ (by simp)]; simp
      have hz : w.heap.size < wr.heap.size := by have := hb.size; simp at this; omega
      have vC := valueOfFault
      have el := elemVFault ⟨a, 0, none⟩ ⟨tb, 0, none⟩ wr (by rw [hbc.1 _ _ (by simp; omega), World.cell?_alloc_lt _ _ ⟨a, 0, none⟩ hla]; exact HA.out)
      have st := setFault tb wr.heap.size c p x y (wr.alloc (.cells #[.int .i64 c, .int .i64 p] 67)) (by simp) (by simp)
        (by rw [World.cell?_alloc_lt _ _ ⟨tb, 0, none⟩ (by simp; omega), hbc.1 _ _ (by simp; omega), World.cell?_alloc_lt _ _ ⟨tb, 0, none⟩ hlt]; exact HT.out)
        (by rw [World.cell?_alloc_lt _ _ ⟨tb, 1, none⟩ (by simp; omega), hbc.1 _ _ (by simp; omega), World.cell?_alloc_lt _ _ ⟨tb, 1, none⟩ hlt]; exact HT1.out)
        (by rw [World.frozen?_alloc_old _ _ ⟨tb, 0, none⟩ (by simp; omega), hbc.2 _ _ (by simp; omega), World.frozen?_alloc_old _ _ ⟨tb, 0, none⟩ (by simp; omega)]; exact HF.out)
        (by rw [World.frozen?_alloc_old _ _ ⟨tb, 1, none⟩ (by simp; omega), hbc.2 _ _ (by simp; omega), World.frozen?_alloc_old _ _ ⟨tb, 1, none⟩ (by simp; omega)]; exact HF1.out)
      have HB := Lib.hid hb0
      have HR := Lib.hid hr
      clear hb hb0 hr hk hd hbc
      simp only [Err.val]
      go_wp2
      go_ret
      rw [← HR.out]
      exact ⟨rfl, _, HB.out.alloc (Nat.le_of_lt hz) _, rfl⟩
    | within b r d =>
      have tC := typeOfWithin
      have aC := assignWithinToFault
      have nC := noAsWithin
      have uC := hasUnwrapWithin
      obtain ⟨hd0, hd1, hd2⟩ := hd
      have HB := Lib.hid hb
      have HR := Lib.hid hr
      have HK := Lib.hid hk
      have HD := Lib.hid hd2
      clear hb hb0 hr hk hd0 hd2
      simp only [Err.val]
      have e1 := eg_val d
      have e2 := eq_val d
      go_wp2_with (go_at_call 123; refine (unwrap_within _ d _ hd1).mono ?_; rintro ev w1 ⟨rfl, rfl⟩)
      go_roundg d.deep
      case measure => rw [← HK.out]; exact Nat.lt_succ_self _
      case rel => exact ⟨d, rfl, rfl, HD.out, HR.out, HB.out⟩
end Go.Proofs.YtnfjbjmdempafaaGreatDoor
namespace Go.Proofs.YtnfjbjmdempafaaGreatDoor
open Go.RowKit Go.Extern.Stop Go.Stop Go.Extern
set_option maxHeartbeats 2000000 in
theorem as_Within (e : Err) (a tb : Nat) (t x : Value) (w : World) (he : e.In w) (ha : w.cell? ⟨a, 0, none⟩ = some (.pointer (some ⟨tb, 0, none⟩))) (ht : w.cell? ⟨tb, 0, none⟩ = some x) (hf : w.frozen? ⟨tb, 0, none⟩ = false) :
    Calls Tryz.prog 68 #[e.val, t, vOf 94 ⟨a, 0, none⟩ 150, rt 70] w fun ev w' => WithinPost w tb (Err.withinOf e) ev w' := by
  have h33 := @run_callFunc_extern Tryz.prog 81 _ ReflectliteType.typeOf Tryz.func81 (by kernel_rfl) (by kernel_rfl) (by kernel_rfl) (by kernel_rfl)
  have h81 := @run_callFunc_extern Tryz.prog 133 _ (ReflectliteType.relation "AssignableTo" ReflectliteType.assignableTo) Tryz.func133 (by kernel_rfl) (by kernel_rfl) (by kernel_rfl) (by kernel_rfl)
  have h38 := @run_callFunc_extern Tryz.prog 82 _ (ReflectliteValue.method (ReflectliteValue.valueError "reflectlite.Value.Elem" 0) ReflectliteValue.elem) Tryz.func82 (by kernel_rfl) (by kernel_rfl) (by kernel_rfl) (by kernel_rfl)
  have h39 := @run_callFunc_extern Tryz.prog 83 _ ReflectliteValue.set Tryz.func83 (by kernel_rfl) (by kernel_rfl) (by kernel_rfl) (by kernel_rfl)
  have h29 := @run_callFunc_extern Tryz.prog 65 _ (fun args => ReflectliteValue.unpack (args.getD 0 (.tuple #[]))) Tryz.func65 (by kernel_rfl) (by kernel_rfl) (by kernel_rfl) (by kernel_rfl)
  have mA := m_assignable
  have hla := lt_of_cell ha
  have hlt := lt_of_cell ht
  have HA := Lib.hid ha
  have HT := Lib.hid ht
  have HF := Lib.hid hf
  have HE := Lib.hid he
  clear he ha ht hf
  go_enter Tryz.func68, Tryz.ntmps68
  go_wp2
  go_loopg [0] e.deep (fun k err wr => AsRel Err.withinOf (w.alloc (.cells #[hnd 94, .pointer (some ⟨a, 0, none⟩), .int .u64 150] 114)) (Err.withinOf e) k err wr)
  case atStart => exact ⟨e, rfl, rfl, HE.out.kept ((Below.refl _ _).alloc (Nat.le_refl _) _) (Nat.le_refl _), rfl, Below.refl _ _⟩
  case round =>
    obtain ⟨d, hk, rfl, hd, hr, hb⟩ := hrel
    have hb0 : Below w.heap.size w wr := ((Below.refl w.heap.size w).alloc (Nat.le_refl _) _).trans (hb.mono (by simp))
    cases d with
    | code c =>
      have tC := typeOfCode
      have aC := assignCodeToWithin
      have nC := noAsCode
      have uC := noUnwrapCode
      have lC := noUnwrapLCode
      have HB := Lib.hid hb0
      have HR := Lib.hid hr
      clear hb hb0 hr hk hd
      simp only [Err.val]
      go_wp2
      go_ret
      rw [← HR.out]
      exact ⟨rfl, HB.out⟩
    | fault c p =>
      have tC := typeOfFault
      have aC := assignFaultToWithin
      have nC := noAsFault
      have uC := hasUnwrapFault
      have HB := Lib.hid hb
      have HR := Lib.hid hr
      have HK := Lib.hid hk
      clear hb hb0 hr hk hd
      simp only [Err.val]
      have e1 := eg_val (.code c)
      have e2 := eq_val (.code c)
      simp only [Err.val] at e1 e2
      go_wp2_with (go_at_call 121; refine (unwrap_fault _ _ _).mono ?_; rintro ev w1 ⟨rfl, hb1⟩; have HB1 := Lib.hid hb1; clear hb1)
      go_roundg 0
      case measure => rw [← HK.out]; exact Nat.zero_lt_one
      case rel => exact ⟨.code c, rfl, rfl, trivial, HR.out, HB.out.trans (HB1.out.mono HB.out.size)⟩
    | within b r d =>
      have tC := typeOfWithin
      have aC := assignWithinToWithin
      have hbc := bcell hb
      have bx0 : wr.cell? ⟨w.heap.size, 0, none⟩ = some (hnd 94) := by rw [hbc.1 _ _ (by simp)]; simp
      have bx1 : wr.cell? ⟨w.heap.size, 1, none⟩ = some (.pointer (some ⟨a, 0, none⟩)) := by rw [hbc.1 _ _ (by simp)]; simp
      have bx2 : wr.cell? ⟨w.heap.size, 2, none⟩ = some (.int .u64 150) := by rw [hbc.1 _ _ (by simp)]; simp
      have hz : w.heap.size < wr.heap.size := by have := hb.size; simp at this; omega
      have vC := valueOfWithin
      have el := elemVWithin ⟨a, 0, none⟩ ⟨tb, 0, none⟩ wr (by rw [hbc.1 _ _ (by simp; omega), World.cell?_alloc_lt _ _ ⟨a, 0, none⟩ hla]; exact HA.out)
      have st := setWithin ⟨tb, 0, none⟩ ⟨wr.heap.size, 0, none⟩ ⟨b, 0, none⟩ x (wr.alloc (.cells #[.pointer (some ⟨b, 0, none⟩)] 70)) (by simp)
        (by rw [World.cell?_alloc_lt _ _ ⟨tb, 0, none⟩ (by simp; omega), hbc.1 _ _ (by simp; omega), World.cell?_alloc_lt _ _ ⟨tb, 0, none⟩ hlt]; exact HT.out)
        (by rw [World.frozen?_alloc_old _ _ ⟨tb, 0, none⟩ (by simp; omega), hbc.2 _ _ (by simp; omega), World.frozen?_alloc_old _ _ ⟨tb, 0, none⟩ (by simp; omega)]; exact HF.out)
      have HB := Lib.hid hb0
      have HR := Lib.hid hr
      clear hb hb0 hr hk hd hbc
      simp only [Err.val]
      go_wp2
      go_ret
      rw [← HR.out]
      exact ⟨rfl, _, HB.out.alloc (Nat.le_of_lt hz) _, rfl⟩
end Go.Proofs.YtnfjbjmdempafaaGreatDoor
namespace Go.Proofs.YtnfjbjmdempafaaGreatDoor
open Go.RowKit Go.Extern.Stop Go.Stop Go.Extern
theorem CodePost.ret {w w' : World} {tb : Nat} {r : Option Int} {ev : Ending} (h : CodePost w tb r ev w') : ev = .returned (.bool r.isSome) := by
  cases r with
  | none => exact h.1
  | some c => exact h.1
theorem FaultPost.ret {w w' : World} {tb : Nat} {r : Option (Int × Int)} {ev : Ending} (h : FaultPost w tb r ev w') : ev = .returned (.bool r.isSome) := by
  cases r with
  | none => exact h.1
  | some c => exact h.1
theorem WithinPost.ret {w w' : World} {tb : Nat} {r : Option Nat} {ev : Ending} (h : WithinPost w tb r ev w') : ev = .returned (.bool r.isSome) := by
  cases r with
  | none => exact h.1
  | some c => exact h.1
theorem CodePost.up {w w1 w' : World} {tb : Nat} {r : Option Int} {ev : Ending} (hb : Below w.heap.size w w1) (h : CodePost w1 tb r ev w') : CodePost w tb r ev w' := by
  cases r with
  | none => exact ⟨h.1, hb.trans (h.2.mono hb.size)⟩
  | some c =>
    obtain ⟨h1, w2, h2, h3⟩ := h
    exact ⟨h1, w2, hb.trans (h2.mono hb.size), h3⟩
theorem FaultPost.up {w w1 w' : World} {tb : Nat} {r : Option (Int × Int)} {ev : Ending} (hb : Below w.heap.size w w1) (h : FaultPost w1 tb r ev w') : FaultPost w tb r ev w' := by
  cases r with
  | none => exact ⟨h.1, hb.trans (h.2.mono hb.size)⟩
  | some c =>
    obtain ⟨h1, w2, h2, h3⟩ := h
    exact ⟨h1, w2, hb.trans (h2.mono hb.size), h3⟩
theorem WithinPost.up {w w1 w' : World} {tb : Nat} {r : Option Nat} {ev : Ending} (hb : Below w.heap.size w w1) (h : WithinPost w1 tb r ev w') : WithinPost w tb r ev w' := by
  cases r with
  | none => exact ⟨h.1, hb.trans (h.2.mono hb.size)⟩
  | some c =>
    obtain ⟨h1, w2, h2, h3⟩ := h
    exact ⟨h1, w2, hb.trans (h2.mono hb.size), h3⟩
theorem asAt_Code (e : Err) (tb : Nat) (x : Value) (w : World) (he : e.In w) (ht : w.cell? ⟨tb, 0, none⟩ = some x) (hf : w.frozen? ⟨tb, 0, none⟩ = false) (t : Value) :
    Calls Tryz.prog 68 #[e.val, t, vOf 92 ⟨w.heap.size, 0, none⟩ 150, rt 35] ((w.alloc (.cells #[.pointer (some ⟨tb, 0, none⟩)] 92)).alloc (.cells #[hnd 92, .pointer (some ⟨w.heap.size, 0, none⟩), .int .u64 150] 114)) fun ev w' => CodePost w tb (Err.codeOf e) ev w' := by
  have hb : Below w.heap.size w ((w.alloc (.cells #[.pointer (some ⟨tb, 0, none⟩)] 92)).alloc (.cells #[hnd 92, .pointer (some ⟨w.heap.size, 0, none⟩), .int .u64 150] 114)) := ((Below.refl _ _).alloc (Nat.le_refl _) _).alloc (by simp) _
  have hl := lt_of_cell ht
  have hc := bcell hb
  exact (as_Code e w.heap.size tb t x _ (he.kept hb (Nat.le_refl _)) (by rw [World.cell?_alloc_lt _ _ ⟨w.heap.size, 0, none⟩ (by simp)]; simp) (by rw [hc.1 _ _ hl]; exact ht) (by rw [hc.2 _ _ hl]; exact hf)).mono fun ev w' h => h.up hb
set_option maxRecDepth 100000 in
set_option maxHeartbeats 2000000 in
theorem As_Code (e : Err) (tb : Nat) (x : Value) (w : World) (he : e.In w) (hg : w.cell? ⟨0, 0, none⟩ = some (rt 33)) (ht : w.cell? ⟨tb, 0, none⟩ = some x) (hf : w.frozen? ⟨tb, 0, none⟩ = false) :
    Calls Tryz.prog 46 #[e.val, .iface 92 (.pointer (some ⟨tb, 0, none⟩))] w fun ev w' => CodePost w tb (Err.codeOf e) ev w' := by
  have h29 := @run_callFunc_extern Tryz.prog 65 _ (fun args => ReflectliteValue.unpack (args.getD 0 (.tuple #[]))) Tryz.func65 (by kernel_rfl) (by kernel_rfl) (by kernel_rfl) (by kernel_rfl)
  have h30 := @run_callFunc_extern Tryz.prog 66 _ (ReflectliteValue.methodAny (ReflectliteValue.valueError "reflectlite.Value.Type" 0) (fun t _ _ _ => ReflectliteType.toType t)) Tryz.func66 (by kernel_rfl) (by kernel_rfl) (by kernel_rfl) (by kernel_rfl)
  have h31 := @run_callFunc_extern Tryz.prog 67 _ (ReflectliteValue.method (ReflectliteValue.valueError "reflectlite.Value.IsNil" 0) ReflectliteValue.isNil) Tryz.func67 (by kernel_rfl) (by kernel_rfl) (by kernel_rfl) (by kernel_rfl)
  have h54 := @run_callFunc_extern Tryz.prog 101 _ (ReflectliteType.abiMethod fun t => do pure (.int .u8 (← Rtype.kind t))) Tryz.func101 (by kernel_rfl) (by kernel_rfl) (by kernel_rfl) (by kernel_rfl)
  have h83 := @run_callFunc_extern Tryz.prog 135 _ (ReflectliteType.method ReflectliteType.elem) Tryz.func135 (by kernel_rfl) (by kernel_rfl) (by kernel_rfl) (by kernel_rfl)
  have h84 := @run_callFunc_extern Tryz.prog 136 _ (ReflectliteType.relation "Implements" ReflectliteType.implements_) Tryz.func136 (by kernel_rfl) (by kernel_rfl) (by kernel_rfl) (by kernel_rfl)
  have v1 := valueOfPCode
  have v2 := typePCode
  have v3 := kindPCode
  have v4 := kindCode
  have v5 := elemPCode
  have v6 := implementsCode
  have mK := m_kind
  have mE := m_elem
  have mI := m_implements
  have e1 := eg_val e
  have e2 := eq_val e
  have hlt := lt_of_cell ht
  have hlg := lt_of_cell hg
  have hb : Below w.heap.size w ((w.alloc (.cells #[.pointer (some ⟨tb, 0, none⟩)] 92)).alloc (.cells #[hnd 92, .pointer (some ⟨w.heap.size, 0, none⟩), .int .u64 150] 114)) := ((Below.refl _ _).alloc (Nat.le_refl _) _).alloc (by simp) _
  have hc := asAt_Code e tb x w he ht hf
  have n8 := isNilPCode ⟨w.heap.size, 0, none⟩ ⟨tb, 0, none⟩ ((w.alloc (.cells #[.pointer (some ⟨tb, 0, none⟩)] 92)).alloc (.cells #[hnd 92, .pointer (some ⟨w.heap.size, 0, none⟩), .int .u64 150] 114)) (by rw [World.cell?_alloc_lt _ _ ⟨w.heap.size, 0, none⟩ (by simp)]; simp)
  have hg2 : ((w.alloc (.cells #[.pointer (some ⟨tb, 0, none⟩)] 92)).alloc (.cells #[hnd 92, .pointer (some ⟨w.heap.size, 0, none⟩), .int .u64 150] 114)).cell? ⟨0, 0, none⟩ = some (rt 33) := by
    rw [World.cell?_alloc_lt _ _ ⟨0, 0, none⟩ (by simp <;> omega), World.cell?_alloc_lt _ _ ⟨0, 0, none⟩ hlg]; exact hg
  have HB := Lib.hid hb
  clear hg hb he ht hf
  go_enter Tryz.func46, Tryz.ntmps46
  go_wp2_with (go_at_call 68; refine (hc _).mono ?_; intro ev w1 hp; obtain rfl := hp.ret; have HP := Lib.hid hp; clear hp)
  go_ret
  exact HP.out
theorem asAt_Fault (e : Err) (tb : Nat) (x y : Value) (w : World) (he : e.In w) (ht : w.cell? ⟨tb, 0, none⟩ = some x) (ht1 : w.cell? ⟨tb, 1, none⟩ = some y) (hf : w.frozen? ⟨tb, 0, none⟩ = false) (hf1 : w.frozen? ⟨tb, 1, none⟩ = false) (t : Value) :
    Calls Tryz.prog 68 #[e.val, t, vOf 93 ⟨w.heap.size, 0, none⟩ 150, rt 67] ((w.alloc (.cells #[.pointer (some ⟨tb, 0, none⟩)] 93)).alloc (.cells #[hnd 93, .pointer (some ⟨w.heap.size, 0, none⟩), .int .u64 150] 114)) fun ev w' => FaultPost w tb (Err.faultOf e) ev w' := by
  have hb : Below w.heap.size w ((w.alloc (.cells #[.pointer (some ⟨tb, 0, none⟩)] 93)).alloc (.cells #[hnd 93, .pointer (some ⟨w.heap.size, 0, none⟩), .int .u64 150] 114)) := ((Below.refl _ _).alloc (Nat.le_refl _) _).alloc (by simp) _
  have hl := lt_of_cell ht
  have hc := bcell hb
  exact (as_Fault e w.heap.size tb t x y _ (he.kept hb (Nat.le_refl _)) (by rw [World.cell?_alloc_lt _ _ ⟨w.heap.size, 0, none⟩ (by simp)]; simp) (by rw [hc.1 _ _ hl]; exact ht) (by rw [hc.1 _ _ hl]; exact ht1) (by rw [hc.2 _ _ hl]; exact hf) (by rw [hc.2 _ _ hl]; exact hf1)).mono fun ev w' h => h.up hb
set_option maxRecDepth 100000 in
set_option maxHeartbeats 2000000 in
theorem As_Fault (e : Err) (tb : Nat) (x y : Value) (w : World) (he : e.In w) (hg : w.cell? ⟨0, 0, none⟩ = some (rt 33)) (ht : w.cell? ⟨tb, 0, none⟩ = some x) (ht1 : w.cell? ⟨tb, 1, none⟩ = some y) (hf : w.frozen? ⟨tb, 0, none⟩ = false) (hf1 : w.frozen? ⟨tb, 1, none⟩ = false) :
    Calls Tryz.prog 46 #[e.val, .iface 93 (.pointer (some ⟨tb, 0, none⟩))] w fun ev w' => FaultPost w tb (Err.faultOf e) ev w' := by
  have h29 := @run_callFunc_extern Tryz.prog 65 _ (fun args => ReflectliteValue.unpack (args.getD 0 (.tuple #[]))) Tryz.func65 (by kernel_rfl) (by kernel_rfl) (by kernel_rfl) (by kernel_rfl)
  have h30 := @run_callFunc_extern Tryz.prog 66 _ (ReflectliteValue.methodAny (ReflectliteValue.valueError "reflectlite.Value.Type" 0) (fun t _ _ _ => ReflectliteType.toType t)) Tryz.func66 (by kernel_rfl) (by kernel_rfl) (by kernel_rfl) (by kernel_rfl)
  have h31 := @run_callFunc_extern Tryz.prog 67 _ (ReflectliteValue.method (ReflectliteValue.valueError "reflectlite.Value.IsNil" 0) ReflectliteValue.isNil) Tryz.func67 (by kernel_rfl) (by kernel_rfl) (by kernel_rfl) (by kernel_rfl)
  have h54 := @run_callFunc_extern Tryz.prog 101 _ (ReflectliteType.abiMethod fun t => do pure (.int .u8 (← Rtype.kind t))) Tryz.func101 (by kernel_rfl) (by kernel_rfl) (by kernel_rfl) (by kernel_rfl)
  have h83 := @run_callFunc_extern Tryz.prog 135 _ (ReflectliteType.method ReflectliteType.elem) Tryz.func135 (by kernel_rfl) (by kernel_rfl) (by kernel_rfl) (by kernel_rfl)
  have h84 := @run_callFunc_extern Tryz.prog 136 _ (ReflectliteType.relation "Implements" ReflectliteType.implements_) Tryz.func136 (by kernel_rfl) (by kernel_rfl) (by kernel_rfl) (by kernel_rfl)
  have v1 := valueOfPFault
  have v2 := typePFault
  have v3 := kindPFault
  have v4 := kindFault
  have v5 := elemPFault
  have v6 := implementsFault
  have mK := m_kind
  have mE := m_elem
  have mI := m_implements
  have e1 := eg_val e
  have e2 := eq_val e
  have hlt := lt_of_cell ht
  have hlg := lt_of_cell hg
  have hb : Below w.heap.size w ((w.alloc (.cells #[.pointer (some ⟨tb, 0, none⟩)] 93)).alloc (.cells #[hnd 93, .pointer (some ⟨w.heap.size, 0, none⟩), .int .u64 150] 114)) := ((Below.refl _ _).alloc (Nat.le_refl _) _).alloc (by simp) _
  have hc := asAt_Fault e tb x y w he ht ht1 hf hf1
  have n8 := isNilPFault ⟨w.heap.size, 0, none⟩ ⟨tb, 0, none⟩ ((w.alloc (.cells #[.pointer (some ⟨tb, 0, none⟩)] 93)).alloc (.cells #[hnd 93, .pointer (some ⟨w.heap.size, 0, none⟩), .int .u64 150] 114)) (by rw [World.cell?_alloc_lt _ _ ⟨w.heap.size, 0, none⟩ (by simp)]; simp)
  have hg2 : ((w.alloc (.cells #[.pointer (some ⟨tb, 0, none⟩)] 93)).alloc (.cells #[hnd 93, .pointer (some ⟨w.heap.size, 0, none⟩), .int .u64 150] 114)).cell? ⟨0, 0, none⟩ = some (rt 33) := by
    rw [World.cell?_alloc_lt _ _ ⟨0, 0, none⟩ (by simp <;> omega), World.cell?_alloc_lt _ _ ⟨0, 0, none⟩ hlg]; exact hg
  have HB := Lib.hid hb
  clear hg hb he ht hf
  go_enter Tryz.func46, Tryz.ntmps46
  go_wp2_with (go_at_call 68; refine (hc _).mono ?_; intro ev w1 hp; obtain rfl := hp.ret; have HP := Lib.hid hp; clear hp)
  go_ret
  exact HP.out
theorem asAt_Within (e : Err) (tb : Nat) (x : Value) (w : World) (he : e.In w) (ht : w.cell? ⟨tb, 0, none⟩ = some x) (hf : w.frozen? ⟨tb, 0, none⟩ = false) (t : Value) :
    Calls Tryz.prog 68 #[e.val, t, vOf 94 ⟨w.heap.size, 0, none⟩ 150, rt 70] ((w.alloc (.cells #[.pointer (some ⟨tb, 0, none⟩)] 94)).alloc (.cells #[hnd 94, .pointer (some ⟨w.heap.size, 0, none⟩), .int .u64 150] 114)) fun ev w' => WithinPost w tb (Err.withinOf e) ev w' := by
  have hb : Below w.heap.size w ((w.alloc (.cells #[.pointer (some ⟨tb, 0, none⟩)] 94)).alloc (.cells #[hnd 94, .pointer (some ⟨w.heap.size, 0, none⟩), .int .u64 150] 114)) := ((Below.refl _ _).alloc (Nat.le_refl _) _).alloc (by simp) _
  have hl := lt_of_cell ht
  have hc := bcell hb
  exact (as_Within e w.heap.size tb t x _ (he.kept hb (Nat.le_refl _)) (by rw [World.cell?_alloc_lt _ _ ⟨w.heap.size, 0, none⟩ (by simp)]; simp) (by rw [hc.1 _ _ hl]; exact ht) (by rw [hc.2 _ _ hl]; exact hf)).mono fun ev w' h => h.up hb
set_option maxRecDepth 100000 in
set_option maxHeartbeats 2000000 in
theorem As_Within (e : Err) (tb : Nat) (x : Value) (w : World) (he : e.In w) (hg : w.cell? ⟨0, 0, none⟩ = some (rt 33)) (ht : w.cell? ⟨tb, 0, none⟩ = some x) (hf : w.frozen? ⟨tb, 0, none⟩ = false) :
    Calls Tryz.prog 46 #[e.val, .iface 94 (.pointer (some ⟨tb, 0, none⟩))] w fun ev w' => WithinPost w tb (Err.withinOf e) ev w' := by
  have h29 := @run_callFunc_extern Tryz.prog 65 _ (fun args => ReflectliteValue.unpack (args.getD 0 (.tuple #[]))) Tryz.func65 (by kernel_rfl) (by kernel_rfl) (by kernel_rfl) (by kernel_rfl)
  have h30 := @run_callFunc_extern Tryz.prog 66 _ (ReflectliteValue.methodAny (ReflectliteValue.valueError "reflectlite.Value.Type" 0) (fun t _ _ _ => ReflectliteType.toType t)) Tryz.func66 (by kernel_rfl) (by kernel_rfl) (by kernel_rfl) (by kernel_rfl)
  have h31 := @run_callFunc_extern Tryz.prog 67 _ (ReflectliteValue.method (ReflectliteValue.valueError "reflectlite.Value.IsNil" 0) ReflectliteValue.isNil) Tryz.func67 (by kernel_rfl) (by kernel_rfl) (by kernel_rfl) (by kernel_rfl)
  have h54 := @run_callFunc_extern Tryz.prog 101 _ (ReflectliteType.abiMethod fun t => do pure (.int .u8 (← Rtype.kind t))) Tryz.func101 (by kernel_rfl) (by kernel_rfl) (by kernel_rfl) (by kernel_rfl)
  have h83 := @run_callFunc_extern Tryz.prog 135 _ (ReflectliteType.method ReflectliteType.elem) Tryz.func135 (by kernel_rfl) (by kernel_rfl) (by kernel_rfl) (by kernel_rfl)
  have h84 := @run_callFunc_extern Tryz.prog 136 _ (ReflectliteType.relation "Implements" ReflectliteType.implements_) Tryz.func136 (by kernel_rfl) (by kernel_rfl) (by kernel_rfl) (by kernel_rfl)
  have v1 := valueOfPWithin
  have v2 := typePWithin
  have v3 := kindPWithin
  have v4 := kindWithin
  have v5 := elemPWithin
  have v6 := implementsWithin
  have mK := m_kind
  have mE := m_elem
  have mI := m_implements
  have e1 := eg_val e
  have e2 := eq_val e
  have hlt := lt_of_cell ht
  have hlg := lt_of_cell hg
  have hb : Below w.heap.size w ((w.alloc (.cells #[.pointer (some ⟨tb, 0, none⟩)] 94)).alloc (.cells #[hnd 94, .pointer (some ⟨w.heap.size, 0, none⟩), .int .u64 150] 114)) := ((Below.refl _ _).alloc (Nat.le_refl _) _).alloc (by simp) _
  have hc := asAt_Within e tb x w he ht hf
  have n8 := isNilPWithin ⟨w.heap.size, 0, none⟩ ⟨tb, 0, none⟩ ((w.alloc (.cells #[.pointer (some ⟨tb, 0, none⟩)] 94)).alloc (.cells #[hnd 94, .pointer (some ⟨w.heap.size, 0, none⟩), .int .u64 150] 114)) (by rw [World.cell?_alloc_lt _ _ ⟨w.heap.size, 0, none⟩ (by simp)]; simp)
  have hg2 : ((w.alloc (.cells #[.pointer (some ⟨tb, 0, none⟩)] 94)).alloc (.cells #[hnd 94, .pointer (some ⟨w.heap.size, 0, none⟩), .int .u64 150] 114)).cell? ⟨0, 0, none⟩ = some (rt 33) := by
    rw [World.cell?_alloc_lt _ _ ⟨0, 0, none⟩ (by simp <;> omega), World.cell?_alloc_lt _ _ ⟨0, 0, none⟩ hlg]; exact hg
  have HB := Lib.hid hb
  clear hg hb he ht hf
  go_enter Tryz.func46, Tryz.ntmps46
  go_wp2_with (go_at_call 68; refine (hc _).mono ?_; intro ev w1 hp; obtain rfl := hp.ret; have HP := Lib.hid hp; clear hp)
  go_ret
  exact HP.out
end Go.Proofs.YtnfjbjmdempafaaGreatDoor
namespace Go.Proofs.YtnfjbjmdempafaaGreatDoor
theorem rec_Code (w : World) : CallsD Tryz.prog 45 #[] .returning w fun e u' w' => u' = .returning ∧ e = .returned (.tuple #[]) ∧ w' = w := by
  refine callsD_of_wpS Tryz.func45 rfl fun c₀ cs hu => ?_
  apply wpS_region
  simp [wpOpsS, go_sem, recoverD, hu, Tryz.ntmps45]
  cases c₀
  simp_all [bodyPostS, results, Tryz.results45]
theorem rec_Fault (w : World) : CallsD Tryz.prog 47 #[] .returning w fun e u' w' => u' = .returning ∧ e = .returned (.tuple #[]) ∧ w' = w := by
  refine callsD_of_wpS Tryz.func47 rfl fun c₀ cs hu => ?_
  apply wpS_region
  simp [wpOpsS, go_sem, recoverD, hu, Tryz.ntmps47]
  cases c₀
  simp_all [bodyPostS, results, Tryz.results47]
theorem rec_Within (w : World) : CallsD Tryz.prog 48 #[] .returning w fun e u' w' => u' = .returning ∧ e = .returned (.tuple #[]) ∧ w' = w := by
  refine callsD_of_wpS Tryz.func48 rfl fun c₀ cs hu => ?_
  apply wpS_region
  simp [wpOpsS, go_sem, recoverD, hu, Tryz.ntmps48]
  cases c₀
  simp_all [bodyPostS, results, Tryz.results48]
end Go.Proofs.YtnfjbjmdempafaaGreatDoor
namespace Go.Proofs.YtnfjbjmdempafaaGreatDoor
open Go.RowKit Go.Extern.Stop Go.Stop Go.Extern
theorem AsNew_Code_some (e : Err) (c : Int) (w : World) (hc : Err.codeOf e = some c) (he : e.In w) (hg : w.cell? ⟨0, 0, none⟩ = some (rt 33)) :
    Calls Tryz.prog 46 #[e.val, .iface 92 (.pointer (some ⟨w.heap.size, 0, none⟩))] (w.alloc (.cells #[.int .i64 0] 35)) fun ev w' => ev = .returned (.bool true) ∧ w'.cell? ⟨w.heap.size, 0, none⟩ = some (.int .i64 c) ∧ Below w.heap.size w w' ∧ w.heap.size < w'.heap.size ∧ ∀ o, w'.frozen? ⟨w.heap.size, o, none⟩ = false := by
  have hb0 : Below w.heap.size w (w.alloc (.cells #[.int .i64 0] 35)) := (Below.refl _ _).alloc (Nat.le_refl _) _
  have hlg := lt_of_cell hg
  refine (As_Code e w.heap.size (.int .i64 0) (w.alloc (.cells #[.int .i64 0] 35)) (he.kept hb0 (Nat.le_refl _)) (by rw [World.cell?_alloc_lt _ _ ⟨0, 0, none⟩ hlg]; exact hg) (by simp) (by simp)).mono ?_
  intro ev w' h
  rw [hc] at h
  obtain ⟨h1, w1, h2, rfl⟩ := h
  have hz := h2.size
  simp at hz
  refine ⟨h1, ?_, ?_, ?_, fun o => ?_⟩
  · exact World.cell?_setCell_same' _ _ _ (by rw [(bcell h2).1 _ _ (by simp)]; simp)
  · exact (hb0.trans (h2.mono (by simp))).setCell (by simp) _
  · simp; omega
  · rw [World.frozen?_setCell, (bcell h2).2 _ _ (by simp)]; simp
theorem AsNew_Fault_some (e : Err) (c p : Int) (w : World) (hc : Err.faultOf e = some (c, p)) (he : e.In w) (hg : w.cell? ⟨0, 0, none⟩ = some (rt 33)) :
    Calls Tryz.prog 46 #[e.val, .iface 93 (.pointer (some ⟨w.heap.size, 0, none⟩))] (w.alloc (.cells #[.int .i64 0, .int .i64 0] 67)) fun ev w' => ev = .returned (.bool true) ∧ w'.cell? ⟨w.heap.size, 0, none⟩ = some (.int .i64 c) ∧ w'.cell? ⟨w.heap.size, 1, none⟩ = some (.int .i64 p) ∧ Below w.heap.size w w' ∧ w.heap.size < w'.heap.size ∧ ∀ o, w'.frozen? ⟨w.heap.size, o, none⟩ = false := by
  have hb0 : Below w.heap.size w (w.alloc (.cells #[.int .i64 0, .int .i64 0] 67)) := (Below.refl _ _).alloc (Nat.le_refl _) _
  have hlg := lt_of_cell hg
  refine (As_Fault e w.heap.size (.int .i64 0) (.int .i64 0) (w.alloc (.cells #[.int .i64 0, .int .i64 0] 67)) (he.kept hb0 (Nat.le_refl _)) (by rw [World.cell?_alloc_lt _ _ ⟨0, 0, none⟩ hlg]; exact hg) (by simp) (by simp) (by simp) (by simp)).mono ?_
  intro ev w' h
  rw [hc] at h
  obtain ⟨h1, w1, h2, rfl⟩ := h
  have hz := h2.size
  simp at hz
  refine ⟨h1, ?_, ?_, ?_, ?_, fun o => ?_⟩
  · rw [World.cell?_setCell_other _ _ _ _ (by simp), World.cell?_setCell_same' _ _ _ (by rw [(bcell h2).1 _ _ (by simp)]; simp)]
  · exact World.cell?_setCell_same' _ _ _ (by rw [World.cell?_setCell_other _ _ _ _ (by simp), (bcell h2).1 _ _ (by simp)]; simp)
  · exact ((hb0.trans (h2.mono (by simp))).setCell (by simp) _).setCell (by simp) _
  · simp; omega
  · rw [World.frozen?_setCell, World.frozen?_setCell, (bcell h2).2 _ _ (by simp)]; simp
theorem AsNew_Within_some (e : Err) (b : Nat) (w : World) (hc : Err.withinOf e = some b) (he : e.In w) (hg : w.cell? ⟨0, 0, none⟩ = some (rt 33)) :
    Calls Tryz.prog 46 #[e.val, .iface 94 (.pointer (some ⟨w.heap.size, 0, none⟩))] (w.alloc (.cells #[.pointer none] 70)) fun ev w' => ev = .returned (.bool true) ∧ w'.cell? ⟨w.heap.size, 0, none⟩ = some (.pointer (some ⟨b, 0, none⟩)) ∧ Below w.heap.size w w' ∧ w.heap.size < w'.heap.size ∧ ∀ o, w'.frozen? ⟨w.heap.size, o, none⟩ = false := by
  have hb0 : Below w.heap.size w (w.alloc (.cells #[.pointer none] 70)) := (Below.refl _ _).alloc (Nat.le_refl _) _
  have hlg := lt_of_cell hg
  refine (As_Within e w.heap.size (.pointer none) (w.alloc (.cells #[.pointer none] 70)) (he.kept hb0 (Nat.le_refl _)) (by rw [World.cell?_alloc_lt _ _ ⟨0, 0, none⟩ hlg]; exact hg) (by simp) (by simp)).mono ?_
  intro ev w' h
  rw [hc] at h
  obtain ⟨h1, w1, h2, rfl⟩ := h
  have hz := h2.size
  simp at hz
  refine ⟨h1, ?_, ?_, ?_, fun o => ?_⟩
  · exact World.cell?_setCell_same' _ _ _ (by rw [(bcell h2).1 _ _ (by simp)]; simp)
  · exact (hb0.trans (h2.mono (by simp))).setCell (by simp) _
  · simp; omega
  · rw [World.frozen?_setCell, (bcell h2).2 _ _ (by simp)]; simp
end Go.Proofs.YtnfjbjmdempafaaGreatDoor
namespace Go.Proofs.YtnfjbjmdempafaaGreatDoor
open Go.RowKit Go.Extern.Stop Go.Stop Go.Extern
set_option maxHeartbeats 1000000 in
theorem find_Code_some (e : Err) (c : Int) (w : World) (hc : Err.codeOf e = some c) (he : e.In w) (hg : w.cell? ⟨0, 0, none⟩ = some (rt 33)) :
    Calls Tryz.prog 30 #[e.val] w fun ev w' => ev = .returned (.tuple #[.int .i64 c, .bool true]) ∧ Below w.heap.size w w' := by
  have hA := AsNew_Code_some e c w hc he hg
  clear hc he hg
  go_enter_defers Tryz.func30, Tryz.ntmps30
  go_wp2_with (go_at_call 46; refine hA.mono ?_; rintro ev w1 ⟨rfl, h1, hb, hz, hf⟩; have HB := Lib.hid hb; clear hb)
  refine leaves_cons (f := 45) (args := #[]) (by simp) (by simp [go_sem]) ?_
  refine (rec_Code _).mono ?_
  rintro e u' w'' ⟨rfl, rfl, rfl⟩
  simp [Leaves, settle, results, Tryz.results30, go_sem, HB.out]
set_option maxHeartbeats 1000000 in
theorem find_Within_some (e : Err) (b : Nat) (w : World) (hc : Err.withinOf e = some b) (he : e.In w) (hg : w.cell? ⟨0, 0, none⟩ = some (rt 33)) :
    Calls Tryz.prog 32 #[e.val] w fun ev w' => ev = .returned (.tuple #[.pointer (some ⟨b, 0, none⟩), .bool true]) ∧ Below w.heap.size w w' := by
  have hA := AsNew_Within_some e b w hc he hg
  clear hc he hg
  go_enter_defers Tryz.func32, Tryz.ntmps32
  go_wp2_with (go_at_call 46; refine hA.mono ?_; rintro ev w1 ⟨rfl, h1, hb, hz, hf⟩; have HB := Lib.hid hb; clear hb)
  refine leaves_cons (f := 48) (args := #[]) (by simp) (by simp [go_sem]) ?_
  refine (rec_Within _).mono ?_
  rintro e u' w'' ⟨rfl, rfl, rfl⟩
  simp [Leaves, settle, results, Tryz.results32, go_sem, HB.out]
end Go.Proofs.YtnfjbjmdempafaaGreatDoor
namespace Go.Proofs.YtnfjbjmdempafaaGreatDoor
open Go.RowKit Go.Extern.Stop Go.Stop Go.Extern
set_option maxHeartbeats 1000000 in
theorem find_Fault_some (e : Err) (c p : Int) (w : World) (hc : e.faultOf = some (c, p)) (he : e.In w) (hg : w.cell? ⟨0, 0, none⟩ = some (rt 33)) :
    Calls Tryz.prog 31 #[e.val] w fun ev w' => ev = .returned (.tuple #[.agg #[.int .i64 c, .int .i64 p], .bool true]) ∧ Below w.heap.size w w' := by
  have hlg := lt_of_cell hg
  have hb0 : Below w.heap.size w (w.alloc (.cells #[.int .i64 0, .int .i64 0] 67)) := (Below.refl _ _).alloc (Nat.le_refl _) _
  have hA := AsNew_Fault_some e c p (w.alloc (.cells #[.int .i64 0, .int .i64 0] 67)) hc (he.kept hb0 (Nat.le_refl _)) (by rw [World.cell?_alloc_lt _ _ ⟨0, 0, none⟩ hlg]; exact hg)
  have hs : (w.alloc (.cells #[.int .i64 0, .int .i64 0] 67)).heap.size = w.heap.size + 1 := by simp
  rw [hs] at hA
  clear hc he hg hlg hs
  have HB0 := Lib.hid hb0
  clear hb0
  go_enter_defers Tryz.func31, Tryz.ntmps31
  go_wp2_with (go_at_call 46; refine hA.mono ?_; rintro ev w1 ⟨rfl, h0, h1, hb, hz, hf⟩; have r0 : w1.cell? ⟨w.heap.size, 0, none⟩ = some (.int .i64 0) := (by rw [(bcell hb).1 _ _ (by simp <;> omega)]; simp); have r1 : w1.cell? ⟨w.heap.size, 1, none⟩ = some (.int .i64 0) := (by rw [(bcell hb).1 _ _ (by simp <;> omega)]; simp); have rf0 : w1.frozen? ⟨w.heap.size, 0, none⟩ = false := (by rw [(bcell hb).2 _ _ (by simp <;> omega)]; simp); have rf1 : w1.frozen? ⟨w.heap.size, 1, none⟩ = false := (by rw [(bcell hb).2 _ _ (by simp <;> omega)]; simp); replace hb := HB0.out.trans (hb.mono (by simp <;> omega)); have HB := Lib.hid hb; clear hb)
  refine leaves_cons (f := 47) (args := #[]) (by simp) (by simp [go_sem]) ?_
  refine (rec_Fault _).mono ?_
  rintro e u' w'' ⟨rfl, rfl, hw⟩
  have c0 : w''.cell? ⟨w.heap.size, 0, none⟩ = some (.int .i64 c) := by rw [hw]; simp [go_sem, r0, World.cell?_setCell_other]
  have c1 : w''.cell? ⟨w.heap.size, 1, none⟩ = some (.int .i64 p) := by rw [hw]; exact World.cell?_setCell_same' _ _ _ (by rw [World.cell?_setCell_other _ _ _ _ (by simp), World.cell?_setCell_same' _ _ _ (by rw [World.cell?_setCell_other _ _ _ _ (by simp), r1]; rfl)]; rfl)
  have hb : Below w.heap.size w w'' := by rw [hw]; exact (((HB.out.setCell (Nat.le_refl _) _).setCell (Nat.le_refl _) _).setCell (Nat.le_refl _) _).setCell (Nat.le_refl _) _
  clear hw
  simp [Leaves, settle, results, Tryz.results31, go_sem, c0, c1, hb]
end Go.Proofs.YtnfjbjmdempafaaGreatDoor
namespace Go.Proofs.YtnfjbjmdempafaaGreatDoor
open Go.RowKit
theorem Code_some (e : Err) (c : Int) (w : World) (hc : e.codeOf = some c) (he : e.In w) (hg : w.cell? ⟨0, 0, none⟩ = some (rt 33)) :
    Calls Tryz.prog 12 #[e.val] w fun ev w' => ev = .returned (.tuple #[.int .i64 c, .bool true]) ∧ Below w.heap.size w w' := by
  have hA := find_Code_some e c w hc he hg
  clear hc he hg
  go_enter Tryz.func12, Tryz.ntmps12
  go_wp2_with (go_at_call 30; refine hA.mono ?_; rintro ev w1 ⟨rfl, hb⟩; have HB := Lib.hid hb; clear hb)
  go_ret2
  exact ⟨rfl, HB.out⟩
theorem At_some (e : Err) (c p : Int) (w : World) (hc : e.faultOf = some (c, p)) (he : e.In w) (hg : w.cell? ⟨0, 0, none⟩ = some (rt 33)) :
    Calls Tryz.prog 13 #[e.val] w fun ev w' => ev = .returned (.tuple #[.int .i64 p, .bool true]) ∧ Below w.heap.size w w' := by
  have hA := find_Fault_some e c p w hc he hg
  clear hc he hg
  go_enter Tryz.func13, Tryz.ntmps13
  go_wp2_with (go_at_call 31; refine hA.mono ?_; rintro ev w1 ⟨rfl, hb⟩; have HB := Lib.hid hb; clear hb)
  go_ret2
  exact ⟨rfl, HB.out.alloc HB.out.size _⟩
theorem Rule_within (b : Nat) (r : ByteArray) (e : Err) (w : World) (he : (Err.within b r e).In w) (hg : w.cell? ⟨0, 0, none⟩ = some (rt 33)) :
    Calls Tryz.prog 14 #[.iface 70 (.pointer (some ⟨b, 0, none⟩))] w fun ev w' => ev = .returned (.tuple #[.string r, .bool true]) ∧ Below w.heap.size w w' := by
  have hA := find_Within_some (Err.within b r e) b w rfl he hg
  simp only [Err.val] at hA
  have h0 := he.1
  have hl := lt_of_cell h0
  clear he hg
  have H0 := Lib.hid h0
  clear h0
  go_enter Tryz.func14, Tryz.ntmps14
  go_wp2_with (go_at_call 32; refine hA.mono ?_; rintro ev w1 ⟨rfl, hb⟩; have h1 : w1.cell? ⟨b, 0, none⟩ = some (.string r) := (by rw [(bcell hb).1 _ _ hl]; exact H0.out); have HB := Lib.hid hb; clear hb)
  go_ret2
  exact ⟨rfl, HB.out⟩
end Go.Proofs.YtnfjbjmdempafaaGreatDoor
