/- errors.As where the target is a variable of one of the three types that this program asks for, and where the error is nil. -/
import Derived.Test.YtipokoalcbaolaaDoorErrAsCode
import Derived.Test.YtipokoalcbaolaaDoorErrAsFault
import Derived.Test.YtipokoalcbaolaaDoorErrAsWithin
namespace Go.Proofs.YtipokoalcbaolaaDoor
open Go.RowKit Go.Extern.Stop Go.Stop Go.Extern
theorem As_nil (t : Value) (w : World) : Calls Tryd.prog 41 #[.nilIface, t] w fun e w' => e = .returned (.bool false) ∧ w' = w := by
  go_enter Tryd.func41, Tryd.ntmps41
  go_wp2
  go_ret
  exact ⟨rfl, rfl⟩
theorem CodePost.ret {w w' : World} {tb : Nat} {r : Option Int} {ev : Ending} (h : CodePost w tb r ev w') : ev = .returned (.bool r.isSome) := by
  cases r with
  | none => exact h.1
  | some c => exact h.1
theorem FaultPost.ret {w w' : World} {tb : Nat} {r : Option (Int × Int)} {ev : Ending} (h : FaultPost w tb r ev w') : ev = .returned (.bool r.isSome) := by
  cases r with
  | none => exact h.1
  | some c => exact h.1
theorem WithinPost.ret {w w' : World} {tb : Nat} {r : Option Nat} {ev : Ending} (h : WithinPost w tb r ev w') : ev = .returned (.bool r.isSome) := by
  cases r with
  | none => exact h.1
  | some c => exact h.1
theorem CodePost.up {w w1 w' : World} {tb : Nat} {r : Option Int} {ev : Ending} (hb : Below w.heap.size w w1) (h : CodePost w1 tb r ev w') : CodePost w tb r ev w' := by
  cases r with
  | none => exact ⟨h.1, hb.trans (h.2.mono hb.size)⟩
  | some c =>
    obtain ⟨h1, w2, h2, h3⟩ := h
    exact ⟨h1, w2, hb.trans (h2.mono hb.size), h3⟩
theorem FaultPost.up {w w1 w' : World} {tb : Nat} {r : Option (Int × Int)} {ev : Ending} (hb : Below w.heap.size w w1) (h : FaultPost w1 tb r ev w') : FaultPost w tb r ev w' := by
  cases r with
  | none => exact ⟨h.1, hb.trans (h.2.mono hb.size)⟩
  | some c =>
    obtain ⟨h1, w2, h2, h3⟩ := h
    exact ⟨h1, w2, hb.trans (h2.mono hb.size), h3⟩
theorem WithinPost.up {w w1 w' : World} {tb : Nat} {r : Option Nat} {ev : Ending} (hb : Below w.heap.size w w1) (h : WithinPost w1 tb r ev w') : WithinPost w tb r ev w' := by
  cases r with
  | none => exact ⟨h.1, hb.trans (h.2.mono hb.size)⟩
  | some c =>
    obtain ⟨h1, w2, h2, h3⟩ := h
    exact ⟨h1, w2, hb.trans (h2.mono hb.size), h3⟩
theorem asAt_Code (e : Err) (tb : Nat) (x : Value) (w : World) (he : e.In w) (ht : w.cell? ⟨tb, 0, none⟩ = some x) (hf : w.frozen? ⟨tb, 0, none⟩ = false) (t : Value) :
    Calls Tryd.prog 56 #[e.val, t, vOf 79 ⟨w.heap.size, 0, none⟩ 150, rt 50] ((w.alloc (.cells #[.pointer (some ⟨tb, 0, none⟩)] 79)).alloc (.cells #[hnd 79, .pointer (some ⟨w.heap.size, 0, none⟩), .int .u64 150] 96)) fun ev w' => CodePost w tb (Err.codeOf e) ev w' := by
  have hb : Below w.heap.size w ((w.alloc (.cells #[.pointer (some ⟨tb, 0, none⟩)] 79)).alloc (.cells #[hnd 79, .pointer (some ⟨w.heap.size, 0, none⟩), .int .u64 150] 96)) := ((Below.refl _ _).alloc (Nat.le_refl _) _).alloc (by simp) _
  have hl := lt_of_cell ht
  have hc := bcell hb
  exact (as_Code e w.heap.size tb t x _ (he.kept hb (Nat.le_refl _)) (by rw [World.cell?_alloc_lt _ _ ⟨w.heap.size, 0, none⟩ (by simp)]; simp) (by rw [hc.1 _ _ hl]; exact ht) (by rw [hc.2 _ _ hl]; exact hf)).mono fun ev w' h => h.up hb
set_option maxRecDepth 100000 in
set_option maxHeartbeats 2000000 in
theorem As_Code (e : Err) (tb : Nat) (x : Value) (w : World) (he : e.In w) (hg : w.cell? ⟨1, 0, none⟩ = some (rt 25)) (ht : w.cell? ⟨tb, 0, none⟩ = some x) (hf : w.frozen? ⟨tb, 0, none⟩ = false) :
    Calls Tryd.prog 41 #[e.val, .iface 79 (.pointer (some ⟨tb, 0, none⟩))] w fun ev w' => CodePost w tb (Err.codeOf e) ev w' := by
  have h29 := @run_callFunc_extern Tryd.prog 53 _ (fun args => ReflectliteValue.unpack (args.getD 0 (.tuple #[]))) Tryd.func53 (by kernel_rfl) (by kernel_rfl) (by kernel_rfl) (by kernel_rfl)
  have h30 := @run_callFunc_extern Tryd.prog 54 _ (ReflectliteValue.methodAny (ReflectliteValue.valueError "reflectlite.Value.Type" 0) (fun t _ _ _ => ReflectliteType.toType t)) Tryd.func54 (by kernel_rfl) (by kernel_rfl) (by kernel_rfl) (by kernel_rfl)
  have h31 := @run_callFunc_extern Tryd.prog 55 _ (ReflectliteValue.method (ReflectliteValue.valueError "reflectlite.Value.IsNil" 0) ReflectliteValue.isNil) Tryd.func55 (by kernel_rfl) (by kernel_rfl) (by kernel_rfl) (by kernel_rfl)
  have h54 := @run_callFunc_extern Tryd.prog 83 _ (ReflectliteType.abiMethod fun t => do pure (.int .u8 (← Rtype.kind t))) Tryd.func83 (by kernel_rfl) (by kernel_rfl) (by kernel_rfl) (by kernel_rfl)
  have h83 := @run_callFunc_extern Tryd.prog 95 _ (ReflectliteType.method ReflectliteType.elem) Tryd.func95 (by kernel_rfl) (by kernel_rfl) (by kernel_rfl) (by kernel_rfl)
  have h84 := @run_callFunc_extern Tryd.prog 96 _ (ReflectliteType.relation "Implements" ReflectliteType.implements_) Tryd.func96 (by kernel_rfl) (by kernel_rfl) (by kernel_rfl) (by kernel_rfl)
  have v1 := valueOfPCode
  have v2 := typePCode
  have v3 := kindPCode
  have v4 := kindCode
  have v5 := elemPCode
  have v6 := implementsCode
  have mK := m_kind
  have mE := m_elem
  have mI := m_implements
  have e1 := eg_val e
  have e2 := eq_val e
  have hlt := lt_of_cell ht
  have hlg := lt_of_cell hg
  have hb : Below w.heap.size w ((w.alloc (.cells #[.pointer (some ⟨tb, 0, none⟩)] 79)).alloc (.cells #[hnd 79, .pointer (some ⟨w.heap.size, 0, none⟩), .int .u64 150] 96)) := ((Below.refl _ _).alloc (Nat.le_refl _) _).alloc (by simp) _
  have hc := asAt_Code e tb x w he ht hf
  have n8 := isNilPCode ⟨w.heap.size, 0, none⟩ ⟨tb, 0, none⟩ ((w.alloc (.cells #[.pointer (some ⟨tb, 0, none⟩)] 79)).alloc (.cells #[hnd 79, .pointer (some ⟨w.heap.size, 0, none⟩), .int .u64 150] 96)) (by rw [World.cell?_alloc_lt _ _ ⟨w.heap.size, 0, none⟩ (by simp)]; simp)
  have hg2 : ((w.alloc (.cells #[.pointer (some ⟨tb, 0, none⟩)] 79)).alloc (.cells #[hnd 79, .pointer (some ⟨w.heap.size, 0, none⟩), .int .u64 150] 96)).cell? ⟨1, 0, none⟩ = some (rt 25) := by
    rw [World.cell?_alloc_lt _ _ ⟨1, 0, none⟩ (by simp <;> omega), World.cell?_alloc_lt _ _ ⟨1, 0, none⟩ hlg]; exact hg
  have HB := Lib.hid hb
  clear hg hb he ht hf
  go_enter Tryd.func41, Tryd.ntmps41
  go_wp2_with (go_at_call 56; refine (hc _).mono ?_; intro ev w1 hp; obtain rfl := hp.ret; have HP := Lib.hid hp; clear hp)
  go_ret
  exact HP.out
theorem asAt_Fault (e : Err) (tb : Nat) (x y : Value) (w : World) (he : e.In w) (ht : w.cell? ⟨tb, 0, none⟩ = some x) (ht1 : w.cell? ⟨tb, 1, none⟩ = some y) (hf : w.frozen? ⟨tb, 0, none⟩ = false) (hf1 : w.frozen? ⟨tb, 1, none⟩ = false) (t : Value) :
    Calls Tryd.prog 56 #[e.val, t, vOf 80 ⟨w.heap.size, 0, none⟩ 150, rt 68] ((w.alloc (.cells #[.pointer (some ⟨tb, 0, none⟩)] 80)).alloc (.cells #[hnd 80, .pointer (some ⟨w.heap.size, 0, none⟩), .int .u64 150] 96)) fun ev w' => FaultPost w tb (Err.faultOf e) ev w' := by
  have hb : Below w.heap.size w ((w.alloc (.cells #[.pointer (some ⟨tb, 0, none⟩)] 80)).alloc (.cells #[hnd 80, .pointer (some ⟨w.heap.size, 0, none⟩), .int .u64 150] 96)) := ((Below.refl _ _).alloc (Nat.le_refl _) _).alloc (by simp) _
  have hl := lt_of_cell ht
  have hc := bcell hb
  exact (as_Fault e w.heap.size tb t x y _ (he.kept hb (Nat.le_refl _)) (by rw [World.cell?_alloc_lt _ _ ⟨w.heap.size, 0, none⟩ (by simp)]; simp) (by rw [hc.1 _ _ hl]; exact ht) (by rw [hc.1 _ _ hl]; exact ht1) (by rw [hc.2 _ _ hl]; exact hf) (by rw [hc.2 _ _ hl]; exact hf1)).mono fun ev w' h => h.up hb
set_option maxRecDepth 100000 in
set_option maxHeartbeats 2000000 in
theorem As_Fault (e : Err) (tb : Nat) (x y : Value) (w : World) (he : e.In w) (hg : w.cell? ⟨1, 0, none⟩ = some (rt 25)) (ht : w.cell? ⟨tb, 0, none⟩ = some x) (ht1 : w.cell? ⟨tb, 1, none⟩ = some y) (hf : w.frozen? ⟨tb, 0, none⟩ = false) (hf1 : w.frozen? ⟨tb, 1, none⟩ = false) :
    Calls Tryd.prog 41 #[e.val, .iface 80 (.pointer (some ⟨tb, 0, none⟩))] w fun ev w' => FaultPost w tb (Err.faultOf e) ev w' := by
  have h29 := @run_callFunc_extern Tryd.prog 53 _ (fun args => ReflectliteValue.unpack (args.getD 0 (.tuple #[]))) Tryd.func53 (by kernel_rfl) (by kernel_rfl) (by kernel_rfl) (by kernel_rfl)
  have h30 := @run_callFunc_extern Tryd.prog 54 _ (ReflectliteValue.methodAny (ReflectliteValue.valueError "reflectlite.Value.Type" 0) (fun t _ _ _ => ReflectliteType.toType t)) Tryd.func54 (by kernel_rfl) (by kernel_rfl) (by kernel_rfl) (by kernel_rfl)
  have h31 := @run_callFunc_extern Tryd.prog 55 _ (ReflectliteValue.method (ReflectliteValue.valueError "reflectlite.Value.IsNil" 0) ReflectliteValue.isNil) Tryd.func55 (by kernel_rfl) (by kernel_rfl) (by kernel_rfl) (by kernel_rfl)
  have h54 := @run_callFunc_extern Tryd.prog 83 _ (ReflectliteType.abiMethod fun t => do pure (.int .u8 (← Rtype.kind t))) Tryd.func83 (by kernel_rfl) (by kernel_rfl) (by kernel_rfl) (by kernel_rfl)
  have h83 := @run_callFunc_extern Tryd.prog 95 _ (ReflectliteType.method ReflectliteType.elem) Tryd.func95 (by kernel_rfl) (by kernel_rfl) (by kernel_rfl) (by kernel_rfl)
  have h84 := @run_callFunc_extern Tryd.prog 96 _ (ReflectliteType.relation "Implements" ReflectliteType.implements_) Tryd.func96 (by kernel_rfl) (by kernel_rfl) (by kernel_rfl) (by kernel_rfl)
  have v1 := valueOfPFault
  have v2 := typePFault
  have v3 := kindPFault
  have v4 := kindFault
  have v5 := elemPFault
  have v6 := implementsFault
  have mK := m_kind
  have mE := m_elem
  have mI := m_implements
  have e1 := eg_val e
  have e2 := eq_val e
  have hlt := lt_of_cell ht
  have hlg := lt_of_cell hg
  have hb : Below w.heap.size w ((w.alloc (.cells #[.pointer (some ⟨tb, 0, none⟩)] 80)).alloc (.cells #[hnd 80, .pointer (some ⟨w.heap.size, 0, none⟩), .int .u64 150] 96)) := ((Below.refl _ _).alloc (Nat.le_refl _) _).alloc (by simp) _
  have hc := asAt_Fault e tb x y w he ht ht1 hf hf1
  have n8 := isNilPFault ⟨w.heap.size, 0, none⟩ ⟨tb, 0, none⟩ ((w.alloc (.cells #[.pointer (some ⟨tb, 0, none⟩)] 80)).alloc (.cells #[hnd 80, .pointer (some ⟨w.heap.size, 0, none⟩), .int .u64 150] 96)) (by rw [World.cell?_alloc_lt _ _ ⟨w.heap.size, 0, none⟩ (by simp)]; simp)
  have hg2 : ((w.alloc (.cells #[.pointer (some ⟨tb, 0, none⟩)] 80)).alloc (.cells #[hnd 80, .pointer (some ⟨w.heap.size, 0, none⟩), .int .u64 150] 96)).cell? ⟨1, 0, none⟩ = some (rt 25) := by
    rw [World.cell?_alloc_lt _ _ ⟨1, 0, none⟩ (by simp <;> omega), World.cell?_alloc_lt _ _ ⟨1, 0, none⟩ hlg]; exact hg
  have HB := Lib.hid hb
  clear hg hb he ht hf
  go_enter Tryd.func41, Tryd.ntmps41
  go_wp2_with (go_at_call 56; refine (hc _).mono ?_; intro ev w1 hp; obtain rfl := hp.ret; have HP := Lib.hid hp; clear hp)
  go_ret
  exact HP.out
end Go.Proofs.YtipokoalcbaolaaDoor
