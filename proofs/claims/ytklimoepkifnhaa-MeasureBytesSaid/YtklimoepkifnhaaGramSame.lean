/- gram.sameNode, slices.EqualFunc on nodes, gram.Same. -/
import Derived.Test.YtklimoepkifnhaaGramEq
namespace Go.Proofs.Ytklimoepkifnhaa
open Go.RowKit
theorem setEq_is (x0 x1 x2 x3 y0 y1 y2 y3 : Int) : (x0 == y0 && (x1 == y1 && (x2 == y2 && x3 == y3))) = decide (x0 = y0 ∧ x1 = y1 ∧ x2 = y2 ∧ x3 = y3) := by
  rw [Bool.eq_iff_iff]; simp
theorem nodeAt_box (w : World) (n : PN) (kv : Value) (t : TypeId) : Below w.heap.size w (w.alloc (.cells #[.int .i64 n.op, kv, .int .i64 n.rule, .int .u64 n.s0, .int .u64 n.s1, .int .u64 n.s2, .int .u64 n.s3] t)) := (Below.refl _ _).alloc (Nat.le_refl _) _
theorem two_new (w : World) (o o' : Obj) : Below w.heap.size w ((w.alloc o).alloc o') := ((Below.refl _ _).alloc (Nat.le_refl _) _).alloc (by simp) _
theorem two_then {w w1 : World} {o o' : Obj} {n : Nat} (hb : Below ((w.alloc o).alloc o').heap.size ((w.alloc o).alloc o') w1) (hn : n ≤ w.heap.size) : Below n w w1 :=
  ((two_new w o o').trans (hb.mono (by simp; omega))).mono hn
theorem nodeV_eq (n : PN) (kv : Value) : nodeV n kv = .agg #[.int .i64 n.op, kv, .int .i64 n.rule, .int .u64 n.s0, .int .u64 n.s1, .int .u64 n.s2, .int .u64 n.s3] := rfl
end Go.Proofs.Ytklimoepkifnhaa
