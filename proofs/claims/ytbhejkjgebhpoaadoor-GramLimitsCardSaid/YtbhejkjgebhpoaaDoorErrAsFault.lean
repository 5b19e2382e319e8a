/- The walk of errors.as where the target is a variable of the type of kind Fault: whatever error stands before it, however often it is wrapped. -/
import Derived.Test.YtbhejkjgebhpoaaDoorErrUnwrap
namespace Go.Proofs.YtbhejkjgebhpoaaDoor
open Go.RowKit Go.Extern.Stop Go.Stop Go.Extern
set_option maxHeartbeats 2000000 in
theorem as_Fault (e : Err) (a tb : Nat) (t x y : Value) (w : World) (he : e.In w) (ha : w.cell? ⟨a, 0, none⟩ = some (.pointer (some ⟨tb, 0, none⟩))) (ht : w.cell? ⟨tb, 0, none⟩ = some x) (ht1 : w.cell? ⟨tb, 1, none⟩ = some y) (hf : w.frozen? ⟨tb, 0, none⟩ = false) (hf1 : w.frozen? ⟨tb, 1, none⟩ = false) :
    Calls Tryd.prog 54 #[e.val, t, vOf 83 ⟨a, 0, none⟩ 150, rt 65] w fun ev w' => FaultPost w tb (Err.faultOf e) ev w' := by
  have h33 := @run_callFunc_extern Tryd.prog 57 _ ReflectliteType.typeOf Tryd.func57 (by kernel_rfl) (by kernel_rfl) (by kernel_rfl) (by kernel_rfl)
  have h81 := @run_callFunc_extern Tryd.prog 100 _ (ReflectliteType.relation "AssignableTo" ReflectliteType.assignableTo) Tryd.func100 (by kernel_rfl) (by kernel_rfl) (by kernel_rfl) (by kernel_rfl)
  have h38 := @run_callFunc_extern Tryd.prog 58 _ (ReflectliteValue.method (ReflectliteValue.valueError "reflectlite.Value.Elem" 0) ReflectliteValue.elem) Tryd.func58 (by kernel_rfl) (by kernel_rfl) (by kernel_rfl) (by kernel_rfl)
  have h39 := @run_callFunc_extern Tryd.prog 59 _ ReflectliteValue.set Tryd.func59 (by kernel_rfl) (by kernel_rfl) (by kernel_rfl) (by kernel_rfl)
  have h29 := @run_callFunc_extern Tryd.prog 51 _ (fun args => ReflectliteValue.unpack (args.getD 0 (.tuple #[]))) Tryd.func51 (by kernel_rfl) (by kernel_rfl) (by kernel_rfl) (by kernel_rfl)
  have mA := m_assignable
  have hla := lt_of_cell ha
  have hlt := lt_of_cell ht
  have HA := Lib.hid ha
  have HT := Lib.hid ht
  have HF := Lib.hid hf
  have HE := Lib.hid he
  clear he ha ht hf
  have HT1 := Lib.hid ht1
  have HF1 := Lib.hid hf1
  clear ht1 hf1
  go_enter Tryd.func54, Tryd.ntmps54
  go_wp2
  go_loopg [0] e.deep (fun k err wr => AsRel Err.faultOf (w.alloc (.cells #[hnd 83, .pointer (some ⟨a, 0, none⟩), .int .u64 150] 90)) (Err.faultOf e) k err wr)
  case atStart => exact ⟨e, rfl, rfl, HE.out.kept ((Below.refl _ _).alloc (Nat.le_refl _) _) (Nat.le_refl _), rfl, Below.refl _ _⟩
  case round =>
    obtain ⟨d, hk, rfl, hd, hr, hb⟩ := hrel
    have hb0 : Below w.heap.size w wr := ((Below.refl w.heap.size w).alloc (Nat.le_refl _) _).trans (hb.mono (by simp))
    cases d with
    | code c =>
      have tC := typeOfCode
      have aC := assignCodeToFault
      have nC := noAsCode
      have uC := noUnwrapCode
      have lC := noUnwrapLCode
      have HB := Lib.hid hb0
      have HR := Lib.hid hr
      clear hb hb0 hr hk hd
      simp only [Err.val]
      go_wp2
      go_ret
      rw [← HR.out]
      exact ⟨rfl, HB.out⟩
    | fault c p =>
      have tC := typeOfFault
      have aC := assignFaultToFault
      have hbc := bcell hb
      have bx0 : wr.cell? ⟨w.heap.size, 0, none⟩ = some (hnd 83) := by rw [hbc.1 _ _ (by simp)]; simp
      have bx1 : wr.cell? ⟨w.heap.size, 1, none⟩ = some (.pointer (some ⟨a, 0, none⟩)) := by rw [hbc.1 _ _ (by simp)]; simp
      have bx2 : wr.cell? ⟨w.heap.size, 2, none⟩ = some (.int .u64 150) := by rw [hbc.1 _ _ (by simp)]; simp
      have hz : w.heap.size < wr.heap.size := by have := hb.size; simp at this; omega
      have vC := valueOfFault
      have el := elemVFault ⟨a, 0, none⟩ ⟨tb, 0, none⟩ wr (by rw [hbc.1 _ _ (by simp; omega), World.cell?_alloc_lt _ _ ⟨a, 0, none⟩ hla]; exact HA.out)
      have st := setFault tb wr.heap.size c p x y (wr.alloc (.cells #[.int .i64 c, .int .i64 p] 65)) (by simp) (by simp)
        (by rw [World.cell?_alloc_lt _ _ ⟨tb, 0, none⟩ (by simp; omega), hbc.1 _ _ (by simp; omega), World.cell?_alloc_lt _ _ ⟨tb, 0, none⟩ hlt]; exact HT.out)
        (by rw [World.cell?_alloc_lt _ _ ⟨tb, 1, none⟩ (by simp; omega), hbc.1 _ _ (by simp; omega), World.cell?_alloc_lt _ _ ⟨tb, 1, none⟩ hlt]; exact HT1.out)
        (by rw [World.frozen?_alloc_old _ _ ⟨tb, 0, none⟩ (by simp; omega), hbc.2 _ _ (by simp; omega), World.frozen?_alloc_old _ _ ⟨tb, 0, none⟩ (by simp; omega)]; exact HF.out)
        (by rw [World.frozen?_alloc_old _ _ ⟨tb, 1, none⟩ (by simp; omega), hbc.2 _ _ (by simp; omega), World.frozen?_alloc_old _ _ ⟨tb, 1, none⟩ (by simp; omega)]; exact HF1.out)
      have HB := Lib.hid hb0
      have HR := Lib.hid hr
      clear hb hb0 hr hk hd hbc
      simp only [Err.val]
      go_wp2
      go_ret
      rw [← HR.out]
      exact ⟨rfl, _, HB.out.alloc (Nat.le_of_lt hz) _, rfl⟩
    | within b r d =>
      have tC := typeOfWithin
      have aC := assignWithinToFault
      have nC := noAsWithin
      have uC := hasUnwrapWithin
      obtain ⟨hd0, hd1, hd2⟩ := hd
      have HB := Lib.hid hb
      have HR := Lib.hid hr
      have HK := Lib.hid hk
      have HD := Lib.hid hd2
      clear hb hb0 hr hk hd0 hd2
      simp only [Err.val]
      have e1 := eg_val d
      have e2 := eq_val d
      go_wp2_with (go_at_call 93; refine (unwrap_within _ d _ hd1).mono ?_; rintro ev w1 ⟨rfl, rfl⟩)
      go_roundg d.deep
      case measure => rw [← HK.out]; exact Nat.lt_succ_self _
      case rel => exact ⟨d, rfl, rfl, HD.out, HR.out, HB.out⟩
end Go.Proofs.YtbhejkjgebhpoaaDoor
