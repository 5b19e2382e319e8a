/- The library's errors.Is at a target that is a code, whatever error stands before it; and at a target that is a fault, where that very fault stands before it. -/
import Derived.Test.YtjkmbfpjkppmnaaDoorErrEq
import Derived.Test.YtjkmbfpjkppmnaaDoorErrUnwrap
namespace Go.Proofs.YtjkmbfpjkppmnaaDoor
open Go.RowKit Go.Extern.Stop Go.Stop Go.Extern
/-- Is the first code in the chain this one? -/
def Err.isCode (c : Int) (e : Err) : Bool := match e.codeOf with
  | some c' => c' == c
  | none => false
theorem ret_bool {a b : Bool} (h : a = b) : Ending.returned (.bool a) = .returned (.bool b) := by rw [h]
set_option maxHeartbeats 2000000 in
theorem is_Code (e : Err) (c : Int) (w : World) (he : e.In w) :
    Calls Tryd.prog 34 #[e.val, .iface 30 (.int .i64 c), .bool true] w fun ev w' => ev = .returned (.bool (e.isCode c)) ∧ Below w.heap.size w w' := by
  have HE := Lib.hid he
  clear he
  have g0 := eg_iface .eql
  go_enter Tryd.func34, Tryd.ntmps34
  go_wp2
  go_loopg [0] e.deep (fun k err wr => AsRel (Err.isCode c) w (e.isCode c) k err wr)
  case atStart => exact ⟨e, rfl, rfl, HE.out, rfl, Below.refl _ _⟩
  case round =>
    obtain ⟨d, hk, rfl, hd, hr, hb⟩ := hrel
    cases d with
    | code c' =>
      have nC := noIsCode
      have uC := noUnwrapCode
      have lC := noUnwrapLCode
      have HB := Lib.hid hb
      have HR := Lib.hid hr
      clear hb hr hk hd
      simp only [Err.val]
      by_cases hcc : c' = c
      · subst hcc
        have q := fun w => (eql_Code c' c' w).trans (by rw [show (c' == c') = true from by simp])
        go_wp2
        go_ret
        exact ⟨ret_bool (by rw [← HR.out]; simp [Err.isCode, Err.codeOf]), HB.out⟩
      · have hf : (c' == c) = false := by simpa using hcc
        have q := fun w => (eql_Code c' c w).trans (by rw [hf])
        have HC := Lib.hid hf
        clear hcc hf
        go_wp2
        go_ret
        exact ⟨ret_bool (by rw [← HR.out]; simp [Err.isCode, Err.codeOf, HC.out]), HB.out⟩
    | fault c' p =>
      have nC := noIsFault
      have uC := hasUnwrapFault
      have HB := Lib.hid hb
      have HR := Lib.hid hr
      have HK := Lib.hid hk
      clear hb hr hk hd
      simp only [Err.val]
      have q := eql_types 41 30 (.agg #[.int .i64 c', .int .i64 p]) (.int .i64 c) (by decide)
      have e1 := eg_val (.code c')
      have e2 := eq_val (.code c')
      simp only [Err.val] at e1 e2
      go_wp2_with (go_at_call 73; refine (unwrap_fault _ _ _).mono ?_; rintro ev w1 ⟨rfl, hb1⟩; have HB1 := Lib.hid hb1; clear hb1)
      go_roundg 0
      case measure => rw [← HK.out]; exact Nat.zero_lt_one
      case rel => exact ⟨.code c', rfl, rfl, trivial, HR.out, HB.out.trans (HB1.out.mono HB.out.size)⟩
    | text b s =>
      have nC := noIsText
      have uC := noUnwrapText
      have lC := noUnwrapLText
      have HB := Lib.hid hb
      have HR := Lib.hid hr
      clear hb hr hk hd
      simp only [Err.val]
      have q := eql_types 83 30 (.pointer (some ⟨b, 0, none⟩)) (.int .i64 c) (by decide)
      go_wp2
      go_ret
      exact ⟨ret_bool (by rw [← HR.out]; rfl), HB.out⟩
    | within b r d =>
      have nC := noIsWithin
      have uC := hasUnwrapWithin
      obtain ⟨hd0, hd1, hd2⟩ := hd
      have HB := Lib.hid hb
      have HR := Lib.hid hr
      have HK := Lib.hid hk
      have HD := Lib.hid hd2
      clear hb hr hk hd0 hd2
      simp only [Err.val]
      have q := eql_types 60 30 (.pointer (some ⟨b, 0, none⟩)) (.int .i64 c) (by decide)
      have e1 := eg_val d
      have e2 := eq_val d
      go_wp2_with (go_at_call 75; refine (unwrap_within _ d _ hd1).mono ?_; rintro ev w1 ⟨rfl, rfl⟩)
      go_roundg d.deep
      case measure => rw [← HK.out]; exact Nat.lt_succ_self _
      case rel => exact ⟨d, rfl, rfl, HD.out, HR.out, HB.out⟩
theorem is_FaultSame (c p : Int) (w : World) :
    Calls Tryd.prog 34 #[.iface 41 (.agg #[.int .i64 c, .int .i64 p]), .iface 41 (.agg #[.int .i64 c, .int .i64 p]), .bool true] w fun ev w' => ev = .returned (.bool true) ∧ w' = w := by
  have g0 := eg_iface .eql
  have q := fun w => (eql_Fault c p c p w).trans (by rw [show (c == c && p == p) = true from by simp])
  go_enter Tryd.func34, Tryd.ntmps34
  go_wp2
  refine wp_loop_rounds 1 ?_
  rw [rounds_succ]
  go_wp2
  go_ret
  exact ⟨rfl, rfl⟩
theorem comparable_Code (w : World) : (callFunc 82 #[.agg #[hnd 30]]).run Tryd.prog w = .ok (.value (.bool true)) w := by
  have h82 := @run_callFunc_extern Tryd.prog 82 _ (ReflectliteType.method (fun t => do Rtype.noPackHeld "Comparable" t; pure (.bool (← typeInfo t).comparable))) Tryd.func82 (by kernel_rfl) (by kernel_rfl) (by kernel_rfl) (by kernel_rfl)
  have k : (ReflectliteType.method (fun t => do Rtype.noPackHeld "Comparable" t; pure (.bool (← typeInfo t).comparable)) #[.agg #[hnd 30]]).run Tryd.prog w = .ok (.bool true) w := by kernel_rfl
  exact (h82 _ _).trans (by rw [k]; rfl)
theorem comparable_Fault (w : World) : (callFunc 82 #[.agg #[hnd 41]]).run Tryd.prog w = .ok (.value (.bool true)) w := by
  have h82 := @run_callFunc_extern Tryd.prog 82 _ (ReflectliteType.method (fun t => do Rtype.noPackHeld "Comparable" t; pure (.bool (← typeInfo t).comparable))) Tryd.func82 (by kernel_rfl) (by kernel_rfl) (by kernel_rfl) (by kernel_rfl)
  have k : (ReflectliteType.method (fun t => do Rtype.noPackHeld "Comparable" t; pure (.bool (← typeInfo t).comparable)) #[.agg #[hnd 41]]).run Tryd.prog w = .ok (.bool true) w := by kernel_rfl
  exact (h82 _ _).trans (by rw [k]; rfl)
set_option maxHeartbeats 2000000 in
theorem Is_Code (e : Err) (c : Int) (w : World) (he : e.In w) :
    Calls Tryd.prog 18 #[e.val, .iface 30 (.int .i64 c)] w fun ev w' => ev = .returned (.bool (e.isCode c)) ∧ Below w.heap.size w w' := by
  have h33 := @run_callFunc_extern Tryd.prog 33 _ ReflectliteType.typeOf Tryd.func33 (by kernel_rfl) (by kernel_rfl) (by kernel_rfl) (by kernel_rfl)
  have tC := typeOfCode
  have kC := comparable_Code
  have mC := m_comparable
  have e1 := eg_val e
  have e2 := eq_val e
  have hc := is_Code e c w he
  clear he
  go_enter Tryd.func18, Tryd.ntmps18
  go_wp2_with (go_at_call 34; refine hc.mono ?_; rintro ev w1 ⟨rfl, hb⟩; have HB := Lib.hid hb; clear hb)
  go_ret
  exact ⟨rfl, HB.out⟩
theorem Is_FaultSame (c p : Int) (w : World) :
    Calls Tryd.prog 18 #[.iface 41 (.agg #[.int .i64 c, .int .i64 p]), .iface 41 (.agg #[.int .i64 c, .int .i64 p])] w fun ev w' => ev = .returned (.bool true) ∧ w' = w := by
  have h33 := @run_callFunc_extern Tryd.prog 33 _ ReflectliteType.typeOf Tryd.func33 (by kernel_rfl) (by kernel_rfl) (by kernel_rfl) (by kernel_rfl)
  have tC := typeOfFault
  have kC := comparable_Fault
  have mC := m_comparable
  go_enter Tryd.func18, Tryd.ntmps18
  go_wp2_with (go_at_call 34; refine (is_FaultSame c p _).mono ?_; rintro ev w1 ⟨rfl, hw⟩; obtain rfl := hw.symm)
  go_ret
  exact ⟨rfl, rfl⟩
end Go.Proofs.YtjkmbfpjkppmnaaDoor
