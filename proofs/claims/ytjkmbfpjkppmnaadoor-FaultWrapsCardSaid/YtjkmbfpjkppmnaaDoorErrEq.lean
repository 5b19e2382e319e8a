/- '==' between errors of this program: two codes, two faults, errors of different dynamic types. No walk. -/
import Derived.Test.YtjkmbfpjkppmnaaDoorErr
import Derived.LaidEql
import Derived.Stop.Asserts
import Derived.Laws.StructEq
namespace Go.Proofs.YtjkmbfpjkppmnaaDoor
section
variable {P : Program} (w : World)
/-- Two interface values of one dynamic type that can be compared: as what they hold. -/
theorem run_equalIn_iface_same (d : Nat) {ti tn : TypeId} {ms : Array (String × TypeId)} {i : TypeInfo} (v u : Value) (hi : P.underlying ti = some (.interface ms)) (hinfo : P.info? tn = some i) (hcomp : i.comparable = true) :
    (Op.equalIn (d + 1) ti (.iface tn v) (.iface tn u)).run P w = (Op.equalIn d tn v u).run P w := by
  conv => lhs; unfold Op.equalIn
  simp [run_underlying hi, typeInfo, hinfo, hcomp]
theorem run_eql_iface_same {ti tn : TypeId} {ms : Array (String × TypeId)} {i : TypeInfo} (v u : Value) (b : Bool) (hi : P.underlying ti = some (.interface ms)) (hinfo : P.info? tn = some i) (hcomp : i.comparable = true)
    (h : (Op.equalIn 9999 tn v u).run P w = .ok b w) : (binOp .eql ti (.iface tn v) (.iface tn u)).run P w = .ok (.bool b) w := by
  have h1 : (Op.equal ti (.iface tn v) (.iface tn u)).run P w = .ok b w := (run_equalIn_iface_same w 9999 v u hi hinfo hcomp).trans h
  simp [binOp, h1]
end
theorem und_error : ∃ ms, Tryd.prog.underlying 28 = some (.interface ms) := ⟨_, Tryd.underlying28⟩
theorem info_Code : (Tryd.prog.info? 30).map (·.comparable) = some true := by kernel_rfl
theorem info_Fault : (Tryd.prog.info? 41).map (·.comparable) = some true := by kernel_rfl
theorem eql_Code (a b : Int) (w : World) : (binOp .eql 28 (.iface 30 (.int .i64 a)) (.iface 30 (.int .i64 b))).run Tryd.prog w = .ok (.bool (a == b)) w := by
  obtain ⟨ms, hu⟩ := und_error
  obtain ⟨i, hi, hc⟩ := Option.map_eq_some_iff.1 info_Code
  exact run_eql_iface_same w _ _ _ hu hi hc (run_equalIn_int w 9998 30 .i64 .i64 a b Tryd.underlying30)
theorem ptA0 (x y : Value) (w : World) : (Go.part 30 #[x, y] 0).run Tryd.prog w = .ok x w := by kernel_rfl
theorem ptA1 (x y : Value) (w : World) : (Go.part 3 #[x, y] 1).run Tryd.prog w = .ok y w := by kernel_rfl
theorem flds : (Tryd.prog.fieldsOf 41).toList.map (fun f => (f.name, f.type, f.offset)) = [("Code", 30, 0), ("At", 3, 1)] := by kernel_rfl
theorem eqIn_Fault (c p c' p' : Int) (w : World) : (Op.equalIn 9999 41 (.agg #[.int .i64 c, .int .i64 p]) (.agg #[.int .i64 c', .int .i64 p'])).run Tryd.prog w = .ok (c == c' && p == p') w := by
  have e1 := run_equalIn_int (P := Tryd.prog) w 9997 30 .i64 .i64 c c' Tryd.underlying30
  have e2 := run_equalIn_int (P := Tryd.prog) w 9997 3 .i64 .i64 p p' Tryd.underlying3
  rw [run_equalIn_struct w 9998 41 _ _ (by kernel_rfl) (by kernel_rfl)]
  have hf := flds
  revert hf
  generalize (Tryd.prog.fieldsOf 41).toList = fs
  intro hf
  have hl : fs.length = 2 := by simpa using congrArg List.length hf
  obtain ⟨f, g, rfl⟩ : ∃ f g, fs = [f, g] := by
    match fs, hl with
    | [f, g], _ => exact ⟨f, g, rfl⟩
  simp only [List.map_cons, List.map_nil, List.cons.injEq, Prod.mk.injEq, and_true] at hf
  obtain ⟨⟨n1, t1, o1⟩, n2, t2, o2⟩ := hf
  have d1 : f.name ≠ "_" := by rw [n1]; decide
  have d2 : g.name ≠ "_" := by rw [n2]; decide
  simp only [Op.eqFields, d1, d2, ne_eq, not_false_eq_true, if_true, t1, t2, o1, o2, Sem.run_bind, ptA0, Result.andThen_ok, e1]
  generalize (c == c') = r1
  generalize (p == p') = r2 at e2 ⊢
  cases r1
  · simp
  · simp only [Bool.not_true, Bool.false_eq_true, if_false, Sem.run_bind, ptA1, Result.andThen_ok, e2, Bool.true_and]
    cases r2 <;> simp
theorem eql_Fault (c p c' p' : Int) (w : World) : (binOp .eql 28 (.iface 41 (.agg #[.int .i64 c, .int .i64 p])) (.iface 41 (.agg #[.int .i64 c', .int .i64 p']))).run Tryd.prog w = .ok (.bool (c == c' && p == p')) w := by
  obtain ⟨ms, hu⟩ := und_error
  obtain ⟨i, hi, hc⟩ := Option.map_eq_some_iff.1 info_Fault
  exact run_eql_iface_same w _ _ _ hu hi hc (eqIn_Fault c p c' p' w)
theorem eql_types (tx ty : TypeId) (vx vy : Value) (hne : tx ≠ ty) (w : World) : (binOp .eql 28 (.iface tx vx) (.iface ty vy)).run Tryd.prog w = .ok (.bool false) w := by
  obtain ⟨ms, hu⟩ := und_error
  exact run_eql_iface_types tx ty vx vy hu hne w
theorem eg_iface (op : BinOp) (x y : Operand) (t : TypeId) (v : Value) (t' : TypeId) (u : Value) (w : World) : (eqGuard op 28 x y (.iface t v) (.iface t' u)).run Tryd.prog w = .ok () w := by
  cases op <;> rfl
end Go.Proofs.YtjkmbfpjkppmnaaDoor
