/- errors.As where the target is a variable of one of the three types that this program asks for, and where the error is nil. -/
import Derived.Test.YtbhejkjgebhpoaaDoorErrAsCode
import Derived.Test.YtbhejkjgebhpoaaDoorErrAsFault
import Derived.Test.YtbhejkjgebhpoaaDoorErrAsWithin
namespace Go.Proofs.YtbhejkjgebhpoaaDoor
open Go.RowKit Go.Extern.Stop Go.Stop Go.Extern
theorem As_nil (t : Value) (w : World) : Calls Tryd.prog 45 #[.nilIface, t] w fun e w' => e = .returned (.bool false) ∧ w' = w := by
  go_enter Tryd.func45, Tryd.ntmps45
  go_wp2
  go_ret
  exact ⟨rfl, rfl⟩
theorem CodePost.ret {w w' : World} {tb : Nat} {r : Option Int} {ev : Ending} (h : CodePost w tb r ev w') : ev = .returned (.bool r.isSome) := by
  cases r with
  | none => exact h.1
  | some c => exact h.1
theorem FaultPost.ret {w w' : World} {tb : Nat} {r : Option (Int × Int)} {ev : Ending} (h : FaultPost w tb r ev w') : ev = .returned (.bool r.isSome) := by
  cases r with
  | none => exact h.1
  | some c => exact h.1
theorem WithinPost.ret {w w' : World} {tb : Nat} {r : Option Nat} {ev : Ending} (h : WithinPost w tb r ev w') : ev = .returned (.bool r.isSome) := by
  cases r with
  | none => exact h.1
  | some c => exact h.1
theorem CodePost.up {w w1 w' : World} {tb : Nat} {r : Option Int} {ev : Ending} (hb : Below w.heap.size w w1) (h : CodePost w1 tb r ev w') : CodePost w tb r ev w' := by
  cases r with
  | none => exact ⟨h.1, hb.trans (h.2.mono hb.size)⟩
  | some c =>
    obtain ⟨h1, w2, h2, h3⟩ := h
    exact ⟨h1, w2, hb.trans (h2.mono hb.size), h3⟩
theorem FaultPost.up {w w1 w' : World} {tb : Nat} {r : Option (Int × Int)} {ev : Ending} (hb : Below w.heap.size w w1) (h : FaultPost w1 tb r ev w') : FaultPost w tb r ev w' := by
  cases r with
  | none => exact ⟨h.1, hb.trans (h.2.mono hb.size)⟩
  | some c =>
    obtain ⟨h1, w2, h2, h3⟩ := h
    exact ⟨h1, w2, hb.trans (h2.mono hb.size), h3⟩
theorem WithinPost.up {w w1 w' : World} {tb : Nat} {r : Option Nat} {ev : Ending} (hb : Below w.heap.size w w1) (h : WithinPost w1 tb r ev w') : WithinPost w tb r ev w' := by
  cases r with
  | none => exact ⟨h.1, hb.trans (h.2.mono hb.size)⟩
  | some c =>
    obtain ⟨h1, w2, h2, h3⟩ := h
    exact ⟨h1, w2, hb.trans (h2.mono hb.size), h3⟩
theorem asAt_Code (e : Err) (tb : Nat) (x : Value) (w : World) (he : e.In w) (ht : w.cell? ⟨tb, 0, none⟩ = some x) (hf : w.frozen? ⟨tb, 0, none⟩ = false) (t : Value) :
    Calls Tryd.prog 54 #[e.val, t, vOf 81 ⟨w.heap.size, 0, none⟩ 150, rt 33] ((w.alloc (.cells #[.pointer (some ⟨tb, 0, none⟩)] 81)).alloc (.cells #[hnd 81, .pointer (some ⟨w.heap.size, 0, none⟩), .int .u64 150] 90)) fun ev w' => CodePost w tb (Err.codeOf e) ev w' := by
  have hb : Below w.heap.size w ((w.alloc (.cells #[.pointer (some ⟨tb, 0, none⟩)] 81)).alloc (.cells #[hnd 81, .pointer (some ⟨w.heap.size, 0, none⟩), .int .u64 150] 90)) := ((Below.refl _ _).alloc (Nat.le_refl _) _).alloc (by simp) _
  have hl := lt_of_cell ht
  have hc := bcell hb
  exact (as_Code e w.heap.size tb t x _ (he.kept hb (Nat.le_refl _)) (by rw [World.cell?_alloc_lt _ _ ⟨w.heap.size, 0, none⟩ (by simp)]; simp) (by rw [hc.1 _ _ hl]; exact ht) (by rw [hc.2 _ _ hl]; exact hf)).mono fun ev w' h => h.up hb
set_option maxRecDepth 100000 in
set_option maxHeartbeats 2000000 in
theorem As_Code (e : Err) (tb : Nat) (x : Value) (w : World) (he : e.In w) (hg : w.cell? ⟨0, 0, none⟩ = some (rt 29)) (ht : w.cell? ⟨tb, 0, none⟩ = some x) (hf : w.frozen? ⟨tb, 0, none⟩ = false) :
    Calls Tryd.prog 45 #[e.val, .iface 81 (.pointer (some ⟨tb, 0, none⟩))] w fun ev w' => CodePost w tb (Err.codeOf e) ev w' := by
  have h29 := @run_callFunc_extern Tryd.prog 51 _ (fun args => ReflectliteValue.unpack (args.getD 0 (.tuple #[]))) Tryd.func51 (by kernel_rfl) (by kernel_rfl) (by kernel_rfl) (by kernel_rfl)
  have h30 := @run_callFunc_extern Tryd.prog 52 _ (ReflectliteValue.methodAny (ReflectliteValue.valueError "reflectlite.Value.Type" 0) (fun t _ _ _ => ReflectliteType.toType t)) Tryd.func52 (by kernel_rfl) (by kernel_rfl) (by kernel_rfl) (by kernel_rfl)
  have h31 := @run_callFunc_extern Tryd.prog 53 _ (ReflectliteValue.method (ReflectliteValue.valueError "reflectlite.Value.IsNil" 0) ReflectliteValue.isNil) Tryd.func53 (by kernel_rfl) (by kernel_rfl) (by kernel_rfl) (by kernel_rfl)
  have h54 := @run_callFunc_extern Tryd.prog 74 _ (ReflectliteType.abiMethod fun t => do pure (.int .u8 (← Rtype.kind t))) Tryd.func74 (by kernel_rfl) (by kernel_rfl) (by kernel_rfl) (by kernel_rfl)
  have h83 := @run_callFunc_extern Tryd.prog 102 _ (ReflectliteType.method ReflectliteType.elem) Tryd.func102 (by kernel_rfl) (by kernel_rfl) (by kernel_rfl) (by kernel_rfl)
  have h84 := @run_callFunc_extern Tryd.prog 103 _ (ReflectliteType.relation "Implements" ReflectliteType.implements_) Tryd.func103 (by kernel_rfl) (by kernel_rfl) (by kernel_rfl) (by kernel_rfl)
  have v1 := valueOfPCode
  have v2 := typePCode
  have v3 := kindPCode
  have v4 := kindCode
  have v5 := elemPCode
  have v6 := implementsCode
  have mK := m_kind
  have mE := m_elem
  have mI := m_implements
  have e1 := eg_val e
  have e2 := eq_val e
  have hlt := lt_of_cell ht
  have hlg := lt_of_cell hg
  have hb : Below w.heap.size w ((w.alloc (.cells #[.pointer (some ⟨tb, 0, none⟩)] 81)).alloc (.cells #[hnd 81, .pointer (some ⟨w.heap.size, 0, none⟩), .int .u64 150] 90)) := ((Below.refl _ _).alloc (Nat.le_refl _) _).alloc (by simp) _
  have hc := asAt_Code e tb x w he ht hf
  have n8 := isNilPCode ⟨w.heap.size, 0, none⟩ ⟨tb, 0, none⟩ ((w.alloc (.cells #[.pointer (some ⟨tb, 0, none⟩)] 81)).alloc (.cells #[hnd 81, .pointer (some ⟨w.heap.size, 0, none⟩), .int .u64 150] 90)) (by rw [World.cell?_alloc_lt _ _ ⟨w.heap.size, 0, none⟩ (by simp)]; simp)
  have hg2 : ((w.alloc (.cells #[.pointer (some ⟨tb, 0, none⟩)] 81)).alloc (.cells #[hnd 81, .pointer (some ⟨w.heap.size, 0, none⟩), .int .u64 150] 90)).cell? ⟨0, 0, none⟩ = some (rt 29) := by
    rw [World.cell?_alloc_lt _ _ ⟨0, 0, none⟩ (by simp <;> omega), World.cell?_alloc_lt _ _ ⟨0, 0, none⟩ hlg]; exact hg
  have HB := Lib.hid hb
  clear hg hb he ht hf
  go_enter Tryd.func45, Tryd.ntmps45
  go_wp2_with (go_at_call 54; refine (hc _).mono ?_; intro ev w1 hp; obtain rfl := hp.ret; have HP := Lib.hid hp; clear hp)
  go_ret
  exact HP.out
theorem asAt_Fault (e : Err) (tb : Nat) (x y : Value) (w : World) (he : e.In w) (ht : w.cell? ⟨tb, 0, none⟩ = some x) (ht1 : w.cell? ⟨tb, 1, none⟩ = some y) (hf : w.frozen? ⟨tb, 0, none⟩ = false) (hf1 : w.frozen? ⟨tb, 1, none⟩ = false) (t : Value) :
    Calls Tryd.prog 54 #[e.val, t, vOf 83 ⟨w.heap.size, 0, none⟩ 150, rt 65] ((w.alloc (.cells #[.pointer (some ⟨tb, 0, none⟩)] 83)).alloc (.cells #[hnd 83, .pointer (some ⟨w.heap.size, 0, none⟩), .int .u64 150] 90)) fun ev w' => FaultPost w tb (Err.faultOf e) ev w' := by
  have hb : Below w.heap.size w ((w.alloc (.cells #[.pointer (some ⟨tb, 0, none⟩)] 83)).alloc (.cells #[hnd 83, .pointer (some ⟨w.heap.size, 0, none⟩), .int .u64 150] 90)) := ((Below.refl _ _).alloc (Nat.le_refl _) _).alloc (by simp) _
  have hl := lt_of_cell ht
  have hc := bcell hb
  exact (as_Fault e w.heap.size tb t x y _ (he.kept hb (Nat.le_refl _)) (by rw [World.cell?_alloc_lt _ _ ⟨w.heap.size, 0, none⟩ (by simp)]; simp) (by rw [hc.1 _ _ hl]; exact ht) (by rw [hc.1 _ _ hl]; exact ht1) (by rw [hc.2 _ _ hl]; exact hf) (by rw [hc.2 _ _ hl]; exact hf1)).mono fun ev w' h => h.up hb
set_option maxRecDepth 100000 in
set_option maxHeartbeats 2000000 in
theorem As_Fault (e : Err) (tb : Nat) (x y : Value) (w : World) (he : e.In w) (hg : w.cell? ⟨0, 0, none⟩ = some (rt 29)) (ht : w.cell? ⟨tb, 0, none⟩ = some x) (ht1 : w.cell? ⟨tb, 1, none⟩ = some y) (hf : w.frozen? ⟨tb, 0, none⟩ = false) (hf1 : w.frozen? ⟨tb, 1, none⟩ = false) :
    Calls Tryd.prog 45 #[e.val, .iface 83 (.pointer (some ⟨tb, 0, none⟩))] w fun ev w' => FaultPost w tb (Err.faultOf e) ev w' := by
  have h29 := @run_callFunc_extern Tryd.prog 51 _ (fun args => ReflectliteValue.unpack (args.getD 0 (.tuple #[]))) Tryd.func51 (by kernel_rfl) (by kernel_rfl) (by kernel_rfl) (by kernel_rfl)
  have h30 := @run_callFunc_extern Tryd.prog 52 _ (ReflectliteValue.methodAny (ReflectliteValue.valueError "reflectlite.Value.Type" 0) (fun t _ _ _ => ReflectliteType.toType t)) Tryd.func52 (by kernel_rfl) (by kernel_rfl) (by kernel_rfl) (by kernel_rfl)
  have h31 := @run_callFunc_extern Tryd.prog 53 _ (ReflectliteValue.method (ReflectliteValue.valueError "reflectlite.Value.IsNil" 0) ReflectliteValue.isNil) Tryd.func53 (by kernel_rfl) (by kernel_rfl) (by kernel_rfl) (by kernel_rfl)
  have h54 := @run_callFunc_extern Tryd.prog 74 _ (ReflectliteType.abiMethod fun t => do pure (.int .u8 (← Rtype.kind t))) Tryd.func74 (by kernel_rfl) (by kernel_rfl) (by kernel_rfl) (by kernel_rfl)
  have h83 := @run_callFunc_extern Tryd.prog 102 _ (ReflectliteType.method ReflectliteType.elem) Tryd.func102 (by kernel_rfl) (by kernel_rfl) (by kernel_rfl) (by kernel_rfl)
  have h84 := @run_callFunc_extern Tryd.prog 103 _ (ReflectliteType.relation "Implements" ReflectliteType.implements_) Tryd.func103 (by kernel_rfl) (by kernel_rfl) (by kernel_rfl) (by kernel_rfl)
  have v1 := valueOfPFault
  have v2 := typePFault
  have v3 := kindPFault
  have v4 := kindFault
  have v5 := elemPFault
  have v6 := implementsFault
  have mK := m_kind
  have mE := m_elem
  have mI := m_implements
  have e1 := eg_val e
  have e2 := eq_val e
  have hlt := lt_of_cell ht
  have hlg := lt_of_cell hg
  have hb : Below w.heap.size w ((w.alloc (.cells #[.pointer (some ⟨tb, 0, none⟩)] 83)).alloc (.cells #[hnd 83, .pointer (some ⟨w.heap.size, 0, none⟩), .int .u64 150] 90)) := ((Below.refl _ _).alloc (Nat.le_refl _) _).alloc (by simp) _
  have hc := asAt_Fault e tb x y w he ht ht1 hf hf1
  have n8 := isNilPFault ⟨w.heap.size, 0, none⟩ ⟨tb, 0, none⟩ ((w.alloc (.cells #[.pointer (some ⟨tb, 0, none⟩)] 83)).alloc (.cells #[hnd 83, .pointer (some ⟨w.heap.size, 0, none⟩), .int .u64 150] 90)) (by rw [World.cell?_alloc_lt _ _ ⟨w.heap.size, 0, none⟩ (by simp)]; simp)
  have hg2 : ((w.alloc (.cells #[.pointer (some ⟨tb, 0, none⟩)] 83)).alloc (.cells #[hnd 83, .pointer (some ⟨w.heap.size, 0, none⟩), .int .u64 150] 90)).cell? ⟨0, 0, none⟩ = some (rt 29) := by
    rw [World.cell?_alloc_lt _ _ ⟨0, 0, none⟩ (by simp <;> omega), World.cell?_alloc_lt _ _ ⟨0, 0, none⟩ hlg]; exact hg
  have HB := Lib.hid hb
  clear hg hb he ht hf
  go_enter Tryd.func45, Tryd.ntmps45
  go_wp2_with (go_at_call 54; refine (hc _).mono ?_; intro ev w1 hp; obtain rfl := hp.ret; have HP := Lib.hid hp; clear hp)
  go_ret
  exact HP.out
theorem asAt_Within (e : Err) (tb : Nat) (x : Value) (w : World) (he : e.In w) (ht : w.cell? ⟨tb, 0, none⟩ = some x) (hf : w.frozen? ⟨tb, 0, none⟩ = false) (t : Value) :
    Calls Tryd.prog 54 #[e.val, t, vOf 82 ⟨w.heap.size, 0, none⟩ 150, rt 59] ((w.alloc (.cells #[.pointer (some ⟨tb, 0, none⟩)] 82)).alloc (.cells #[hnd 82, .pointer (some ⟨w.heap.size, 0, none⟩), .int .u64 150] 90)) fun ev w' => WithinPost w tb (Err.withinOf e) ev w' := by
  have hb : Below w.heap.size w ((w.alloc (.cells #[.pointer (some ⟨tb, 0, none⟩)] 82)).alloc (.cells #[hnd 82, .pointer (some ⟨w.heap.size, 0, none⟩), .int .u64 150] 90)) := ((Below.refl _ _).alloc (Nat.le_refl _) _).alloc (by simp) _
  have hl := lt_of_cell ht
  have hc := bcell hb
  exact (as_Within e w.heap.size tb t x _ (he.kept hb (Nat.le_refl _)) (by rw [World.cell?_alloc_lt _ _ ⟨w.heap.size, 0, none⟩ (by simp)]; simp) (by rw [hc.1 _ _ hl]; exact ht) (by rw [hc.2 _ _ hl]; exact hf)).mono fun ev w' h => h.up hb
set_option maxRecDepth 100000 in
set_option maxHeartbeats 2000000 in
theorem As_Within (e : Err) (tb : Nat) (x : Value) (w : World) (he : e.In w) (hg : w.cell? ⟨0, 0, none⟩ = some (rt 29)) (ht : w.cell? ⟨tb, 0, none⟩ = some x) (hf : w.frozen? ⟨tb, 0, none⟩ = false) :
    Calls Tryd.prog 45 #[e.val, .iface 82 (.pointer (some ⟨tb, 0, none⟩))] w fun ev w' => WithinPost w tb (Err.withinOf e) ev w' := by
  have h29 := @run_callFunc_extern Tryd.prog 51 _ (fun args => ReflectliteValue.unpack (args.getD 0 (.tuple #[]))) Tryd.func51 (by kernel_rfl) (by kernel_rfl) (by kernel_rfl) (by kernel_rfl)
  have h30 := @run_callFunc_extern Tryd.prog 52 _ (ReflectliteValue.methodAny (ReflectliteValue.valueError "reflectlite.Value.Type" 0) (fun t _ _ _ => ReflectliteType.toType t)) Tryd.func52 (by kernel_rfl) (by kernel_rfl) (by kernel_rfl) (by kernel_rfl)
  have h31 := @run_callFunc_extern Tryd.prog 53 _ (ReflectliteValue.method (ReflectliteValue.valueError "reflectlite.Value.IsNil" 0) ReflectliteValue.isNil) Tryd.func53 (by kernel_rfl) (by kernel_rfl) (by kernel_rfl) (by kernel_rfl)
  have h54 := @run_callFunc_extern Tryd.prog 74 _ (ReflectliteType.abiMethod fun t => do pure (.int .u8 (← Rtype.kind t))) Tryd.func74 (by kernel_rfl) (by kernel_rfl) (by kernel_rfl) (by kernel_rfl)
  have h83 := @run_callFunc_extern Tryd.prog 102 _ (ReflectliteType.method ReflectliteType.elem) Tryd.func102 (by kernel_rfl) (by kernel_rfl) (by kernel_rfl) (by kernel_rfl)
  have h84 := @run_callFunc_extern Tryd.prog 103 _ (ReflectliteType.relation "Implements" ReflectliteType.implements_) Tryd.func103 (by kernel_rfl) (by kernel_rfl) (by kernel_rfl) (by kernel_rfl)
  have v1 := valueOfPWithin
  have v2 := typePWithin
  have v3 := kindPWithin
  have v4 := kindWithin
  have v5 := elemPWithin
  have v6 := implementsWithin
  have mK := m_kind
  have mE := m_elem
  have mI := m_implements
  have e1 := eg_val e
  have e2 := eq_val e
  have hlt := lt_of_cell ht
  have hlg := lt_of_cell hg
  have hb : Below w.heap.size w ((w.alloc (.cells #[.pointer (some ⟨tb, 0, none⟩)] 82)).alloc (.cells #[hnd 82, .pointer (some ⟨w.heap.size, 0, none⟩), .int .u64 150] 90)) := ((Below.refl _ _).alloc (Nat.le_refl _) _).alloc (by simp) _
  have hc := asAt_Within e tb x w he ht hf
  have n8 := isNilPWithin ⟨w.heap.size, 0, none⟩ ⟨tb, 0, none⟩ ((w.alloc (.cells #[.pointer (some ⟨tb, 0, none⟩)] 82)).alloc (.cells #[hnd 82, .pointer (some ⟨w.heap.size, 0, none⟩), .int .u64 150] 90)) (by rw [World.cell?_alloc_lt _ _ ⟨w.heap.size, 0, none⟩ (by simp)]; simp)
  have hg2 : ((w.alloc (.cells #[.pointer (some ⟨tb, 0, none⟩)] 82)).alloc (.cells #[hnd 82, .pointer (some ⟨w.heap.size, 0, none⟩), .int .u64 150] 90)).cell? ⟨0, 0, none⟩ = some (rt 29) := by
    rw [World.cell?_alloc_lt _ _ ⟨0, 0, none⟩ (by simp <;> omega), World.cell?_alloc_lt _ _ ⟨0, 0, none⟩ hlg]; exact hg
  have HB := Lib.hid hb
  clear hg hb he ht hf
  go_enter Tryd.func45, Tryd.ntmps45
  go_wp2_with (go_at_call 54; refine (hc _).mono ?_; intro ev w1 hp; obtain rfl := hp.ret; have HP := Lib.hid hp; clear hp)
  go_ret
  exact HP.out
end Go.Proofs.YtbhejkjgebhpoaaDoor
