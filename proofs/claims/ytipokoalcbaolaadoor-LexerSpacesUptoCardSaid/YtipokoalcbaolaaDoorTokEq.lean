/- '==' between two tokens, of the program's type and of the reference's. No walk. -/
import Derived.Test.YtipokoalcbaolaaDoorSetEq
import Derived.Laws.StructEq
namespace Go.Proofs.YtipokoalcbaolaaDoor
open Go.RowKit
theorem eq_u64' (a b : Int) (w : World) : (Op.equalIn 9998 32 (.int .u64 a) (.int .u64 b)).run Tryd.prog w = .ok (a == b) w := by kernel_rfl
theorem eq_set' (a b c d x y z u : Int) (w : World) :
    (Op.equalIn 9999 34 (.agg #[.int .u64 a, .int .u64 b, .int .u64 c, .int .u64 d]) (.agg #[.int .u64 x, .int .u64 y, .int .u64 z, .int .u64 u])).run Tryd.prog w = .ok (a == x && (b == y && (c == z && d == u))) w := by
  obtain ⟨i, hi⟩ := info_u64
  rw [run_equalIn_array w 9998 _ _ und_set hi, show List.range 4 = [0, 1, 2, 3] from rfl]
  have e1 := eq_u64' a x
  have e2 := eq_u64' b y
  have e3 := eq_u64' c z
  have e4 := eq_u64' d u
  generalize (a == x) = r1 at *
  generalize (b == y) = r2 at *
  generalize (c == z) = r3 at *
  generalize (d == u) = r4 at *
  cases r1 <;> cases r2 <;> cases r3 <;> cases r4 <;> simp [Op.eqItems, cells_u64, pt0, pt1, pt2, pt3, e1, e2, e3, e4]
theorem pk0 (x0 x1 x2 x3 x4 x5 x6 : Value) (w : World) : (Go.part 3 #[x0, x1, x2, x3, x4, x5, x6] 0).run Tryd.prog w = .ok x0 w := by kernel_rfl
theorem pk1 (x0 x1 x2 x3 x4 x5 x6 : Value) (w : World) : (Go.part 3 #[x0, x1, x2, x3, x4, x5, x6] 1).run Tryd.prog w = .ok x1 w := by kernel_rfl
theorem pk2 (x0 x1 x2 x3 x4 x5 x6 : Value) (w : World) : (Go.part 9 #[x0, x1, x2, x3, x4, x5, x6] 2).run Tryd.prog w = .ok x2 w := by kernel_rfl
theorem pk3 (x0 x1 x2 x3 x4 x5 x6 : Value) (w : World) : (Go.part 34 #[x0, x1, x2, x3, x4, x5, x6] 3).run Tryd.prog w = .ok (.agg #[x3, x4, x5, x6]) w := by kernel_rfl
theorem flds_lTok : (Tryd.prog.fieldsOf 37).toList.map (fun f => (f.name, f.type, f.offset)) = [("Kind", 3, 0), ("At", 3, 1), ("Text", 9, 2), ("Set", 34, 3)] := by kernel_rfl
theorem eqIn_lTok (k p a b c d k' p' a' b' c' d' : Int) (s s' : ByteArray) (w : World) :
    (Op.equalIn 10000 37 (.agg #[.int .i64 k, .int .i64 p, .string s, .int .u64 a, .int .u64 b, .int .u64 c, .int .u64 d]) (.agg #[.int .i64 k', .int .i64 p', .string s', .int .u64 a', .int .u64 b', .int .u64 c', .int .u64 d'])).run Tryd.prog w
      = .ok (k == k' && (p == p' && (s.toList == s'.toList && (a == a' && (b == b' && (c == c' && d == d')))))) w := by
  have e1 := run_equalIn_int (P := Tryd.prog) w 9998 3 .i64 .i64 k k' Tryd.underlying3
  have e2 := run_equalIn_int (P := Tryd.prog) w 9998 3 .i64 .i64 p p' Tryd.underlying3
  have e3 := run_equalIn_string (P := Tryd.prog) w 9998 9 s s' Tryd.underlying9
  have e4 := eq_set' a b c d a' b' c' d' w
  rw [run_equalIn_struct w 9999 37 _ _ (by kernel_rfl) (by kernel_rfl)]
  have hf := flds_lTok
  revert hf
  generalize (Tryd.prog.fieldsOf 37).toList = fs
  intro hf
  have hl : fs.length = 4 := by simpa using congrArg List.length hf
  obtain ⟨f, g, h, i, rfl⟩ : ∃ f g h i, fs = [f, g, h, i] := by
    match fs, hl with
    | [f, g, h, i], _ => exact ⟨f, g, h, i, rfl⟩
  simp only [List.map_cons, List.map_nil, List.cons.injEq, Prod.mk.injEq, and_true] at hf
  obtain ⟨⟨n1, t1, o1⟩, ⟨n2, t2, o2⟩, ⟨n3, t3, o3⟩, n4, t4, o4⟩ := hf
  have d1 : f.name ≠ "_" := by rw [n1]; decide
  have d2 : g.name ≠ "_" := by rw [n2]; decide
  have d3 : h.name ≠ "_" := by rw [n3]; decide
  have d4 : i.name ≠ "_" := by rw [n4]; decide
  simp only [Op.eqFields, d1, d2, d3, d4, ne_eq, not_false_eq_true, if_true, t1, t2, t3, t4, o1, o2, o3, o4, Sem.run_bind, pk0, Result.andThen_ok, e1]
  generalize (k == k') = r1
  generalize (p == p') = r2 at e2 ⊢
  generalize (s.toList == s'.toList) = r3 at e3 ⊢
  generalize (a == a' && (b == b' && (c == c' && d == d'))) = r4 at e4 ⊢
  cases r1
  · simp
  · simp only [Bool.not_true, Bool.false_eq_true, if_false, Sem.run_bind, pk1, Result.andThen_ok, e2, Bool.true_and]
    cases r2
    · simp
    · simp only [Bool.not_true, Bool.false_eq_true, if_false, Sem.run_bind, pk2, Result.andThen_ok, e3, Bool.true_and]
      cases r3
      · simp
      · simp only [Bool.not_true, Bool.false_eq_true, if_false, Sem.run_bind, pk3, Result.andThen_ok, e4, Bool.true_and]
        cases r4 <;> simp
theorem eql_lTok (k p a b c d k' p' a' b' c' d' : Int) (s s' : ByteArray) (w : World) :
    (binOp .eql 37 (.agg #[.int .i64 k, .int .i64 p, .string s, .int .u64 a, .int .u64 b, .int .u64 c, .int .u64 d]) (.agg #[.int .i64 k', .int .i64 p', .string s', .int .u64 a', .int .u64 b', .int .u64 c', .int .u64 d'])).run Tryd.prog w
      = .ok (.bool (k == k' && (p == p' && (s.toList == s'.toList && (a == a' && (b == b' && (c == c' && d == d'))))))) w := by
  have h : (Op.equal 37 (.agg #[.int .i64 k, .int .i64 p, .string s, .int .u64 a, .int .u64 b, .int .u64 c, .int .u64 d]) (.agg #[.int .i64 k', .int .i64 p', .string s', .int .u64 a', .int .u64 b', .int .u64 c', .int .u64 d'])).run Tryd.prog w = _ := eqIn_lTok k p a b c d k' p' a' b' c' d' s s' w
  simp [binOp, h]
theorem gt_lTok : Tryd.prog.eqGuardType Tryd.prog.depth 37 = false := by kernel_rfl
theorem flds_rTok : (Tryd.prog.fieldsOf 36).toList.map (fun f => (f.name, f.type, f.offset)) = [("Kind", 3, 0), ("At", 3, 1), ("Text", 9, 2), ("Set", 34, 3)] := by kernel_rfl
theorem eqIn_rTok (k p a b c d k' p' a' b' c' d' : Int) (s s' : ByteArray) (w : World) :
    (Op.equalIn 10000 36 (.agg #[.int .i64 k, .int .i64 p, .string s, .int .u64 a, .int .u64 b, .int .u64 c, .int .u64 d]) (.agg #[.int .i64 k', .int .i64 p', .string s', .int .u64 a', .int .u64 b', .int .u64 c', .int .u64 d'])).run Tryd.prog w
      = .ok (k == k' && (p == p' && (s.toList == s'.toList && (a == a' && (b == b' && (c == c' && d == d')))))) w := by
  have e1 := run_equalIn_int (P := Tryd.prog) w 9998 3 .i64 .i64 k k' Tryd.underlying3
  have e2 := run_equalIn_int (P := Tryd.prog) w 9998 3 .i64 .i64 p p' Tryd.underlying3
  have e3 := run_equalIn_string (P := Tryd.prog) w 9998 9 s s' Tryd.underlying9
  have e4 := eq_set' a b c d a' b' c' d' w
  rw [run_equalIn_struct w 9999 36 _ _ (by kernel_rfl) (by kernel_rfl)]
  have hf := flds_rTok
  revert hf
  generalize (Tryd.prog.fieldsOf 36).toList = fs
  intro hf
  have hl : fs.length = 4 := by simpa using congrArg List.length hf
  obtain ⟨f, g, h, i, rfl⟩ : ∃ f g h i, fs = [f, g, h, i] := by
    match fs, hl with
    | [f, g, h, i], _ => exact ⟨f, g, h, i, rfl⟩
  simp only [List.map_cons, List.map_nil, List.cons.injEq, Prod.mk.injEq, and_true] at hf
  obtain ⟨⟨n1, t1, o1⟩, ⟨n2, t2, o2⟩, ⟨n3, t3, o3⟩, n4, t4, o4⟩ := hf
  have d1 : f.name ≠ "_" := by rw [n1]; decide
  have d2 : g.name ≠ "_" := by rw [n2]; decide
  have d3 : h.name ≠ "_" := by rw [n3]; decide
  have d4 : i.name ≠ "_" := by rw [n4]; decide
  simp only [Op.eqFields, d1, d2, d3, d4, ne_eq, not_false_eq_true, if_true, t1, t2, t3, t4, o1, o2, o3, o4, Sem.run_bind, pk0, Result.andThen_ok, e1]
  generalize (k == k') = r1
  generalize (p == p') = r2 at e2 ⊢
  generalize (s.toList == s'.toList) = r3 at e3 ⊢
  generalize (a == a' && (b == b' && (c == c' && d == d'))) = r4 at e4 ⊢
  cases r1
  · simp
  · simp only [Bool.not_true, Bool.false_eq_true, if_false, Sem.run_bind, pk1, Result.andThen_ok, e2, Bool.true_and]
    cases r2
    · simp
    · simp only [Bool.not_true, Bool.false_eq_true, if_false, Sem.run_bind, pk2, Result.andThen_ok, e3, Bool.true_and]
      cases r3
      · simp
      · simp only [Bool.not_true, Bool.false_eq_true, if_false, Sem.run_bind, pk3, Result.andThen_ok, e4, Bool.true_and]
        cases r4 <;> simp
theorem eql_rTok (k p a b c d k' p' a' b' c' d' : Int) (s s' : ByteArray) (w : World) :
    (binOp .eql 36 (.agg #[.int .i64 k, .int .i64 p, .string s, .int .u64 a, .int .u64 b, .int .u64 c, .int .u64 d]) (.agg #[.int .i64 k', .int .i64 p', .string s', .int .u64 a', .int .u64 b', .int .u64 c', .int .u64 d'])).run Tryd.prog w
      = .ok (.bool (k == k' && (p == p' && (s.toList == s'.toList && (a == a' && (b == b' && (c == c' && d == d'))))))) w := by
  have h : (Op.equal 36 (.agg #[.int .i64 k, .int .i64 p, .string s, .int .u64 a, .int .u64 b, .int .u64 c, .int .u64 d]) (.agg #[.int .i64 k', .int .i64 p', .string s', .int .u64 a', .int .u64 b', .int .u64 c', .int .u64 d'])).run Tryd.prog w = _ := eqIn_rTok k p a b c d k' p' a' b' c' d' s s' w
  simp [binOp, h]
theorem gt_rTok : Tryd.prog.eqGuardType Tryd.prog.depth 36 = false := by kernel_rfl
end Go.Proofs.YtipokoalcbaolaaDoor
