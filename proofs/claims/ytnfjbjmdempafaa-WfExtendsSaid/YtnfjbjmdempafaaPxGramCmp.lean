/- '==' between two sets and between two rules, as operations of a walk. No walk. -/
import Derived.ChangeKeysEq
import Derived.Laws.StructEq
import Derived.OwnWalkIn
import Derived.TacticsInMore
import Derived.BigQuiet
import Derived.Test.YtnfjbjmdempafaaPxBase
namespace Go.Proofs.Ytnfjbjmdempafaa
open Go.RowKit
theorem geq_u64 (k : Nat) (a b : Int) (w : World) : (Op.equalIn (k + 1) 31 (.int .u64 a) (.int .u64 b)).run Try.prog w = .ok (a == b) w := run_equalIn_int (P := Try.prog) w k 31 .u64 .u64 a b Try.underlying31
theorem gpt0 (x y z u : Value) (w : World) : (Go.part 31 #[x, y, z, u] 0).run Try.prog w = .ok x w := by kernel_rfl
theorem gpt1 (x y z u : Value) (w : World) : (Go.part 31 #[x, y, z, u] 1).run Try.prog w = .ok y w := by kernel_rfl
theorem gpt2 (x y z u : Value) (w : World) : (Go.part 31 #[x, y, z, u] 2).run Try.prog w = .ok z w := by kernel_rfl
theorem gpt3 (x y z u : Value) (w : World) : (Go.part 31 #[x, y, z, u] 3).run Try.prog w = .ok u w := by kernel_rfl
theorem gcells_u64 : Try.prog.cellsOf 31 = 1 := by kernel_rfl
theorem gund_set : Try.prog.underlying 33 = some (.array 4 31) := by kernel_rfl
theorem ginfo_u64 : ∃ i, Try.prog.info? 31 = some i := Option.isSome_iff_exists.1 (by kernel_rfl)
theorem geq_set (k : Nat) (a b c d x y z u : Int) (w : World) :
    (Op.equalIn (k + 2) 33 (.agg #[.int .u64 a, .int .u64 b, .int .u64 c, .int .u64 d]) (.agg #[.int .u64 x, .int .u64 y, .int .u64 z, .int .u64 u])).run Try.prog w = .ok (a == x && (b == y && (c == z && d == u))) w := by
  obtain ⟨i, hi⟩ := ginfo_u64
  rw [run_equalIn_array w (k + 1) _ _ gund_set hi, show List.range 4 = [0, 1, 2, 3] from rfl]
  have e1 := geq_u64 k a x
  have e2 := geq_u64 k b y
  have e3 := geq_u64 k c z
  have e4 := geq_u64 k d u
  generalize (a == x) = r1 at *
  generalize (b == y) = r2 at *
  generalize (c == z) = r3 at *
  generalize (d == u) = r4 at *
  cases r1 <;> cases r2 <;> cases r3 <;> cases r4 <;> simp [Op.eqItems, gcells_u64, gpt0, gpt1, gpt2, gpt3, e1, e2, e3, e4]
theorem geql_set (a b c d x y z u : Int) (w : World) :
    (binOp .eql 33 (.agg #[.int .u64 a, .int .u64 b, .int .u64 c, .int .u64 d]) (.agg #[.int .u64 x, .int .u64 y, .int .u64 z, .int .u64 u])).run Try.prog w = .ok (.bool (a == x && (b == y && (c == z && d == u)))) w := by
  have h : (Op.equal 33 (.agg #[.int .u64 a, .int .u64 b, .int .u64 c, .int .u64 d]) (.agg #[.int .u64 x, .int .u64 y, .int .u64 z, .int .u64 u])).run Try.prog w = _ := geq_set 9998 a b c d x y z u w
  simp [binOp, h]
theorem gneq_set (a b c d x y z u : Int) (w : World) :
    (binOp .neq 33 (.agg #[.int .u64 a, .int .u64 b, .int .u64 c, .int .u64 d]) (.agg #[.int .u64 x, .int .u64 y, .int .u64 z, .int .u64 u])).run Try.prog w = .ok (.bool (!(a == x && (b == y && (c == z && d == u))))) w := by
  have h : (Op.equal 33 (.agg #[.int .u64 a, .int .u64 b, .int .u64 c, .int .u64 d]) (.agg #[.int .u64 x, .int .u64 y, .int .u64 z, .int .u64 u])).run Try.prog w = _ := geq_set 9998 a b c d x y z u w
  simp [binOp, h]
theorem ggt_set : Try.prog.eqGuardType Try.prog.depth 33 = false := by kernel_rfl
theorem gexec_agg {o : Oper} {a : Act} {w : World} (op : BinOp) (t u : TypeId) (x y : Operand) (ho : o.op = .binOp op t x y u) (xs ys : Array Value) (hx : a.eval x = .agg xs) (hy : a.eval y = .agg ys)
    (hm : Try.prog.eqGuardType Try.prog.depth t = false) (v : Value) (hv : (binOp op t (.agg xs) (.agg ys)).run Try.prog w = .ok v w) : (execOp a.eval o).run Try.prog w = .ok (.value v) w := by
  have hg := run_eqGuard_agg w op t x y xs ys hm
  unfold execOp
  rw [ho]
  show ((eqGuard op t x y (a.eval x) (a.eval y) >>= fun _ => binOp op t (a.eval x) (a.eval y)) >>= fun s => pure (Next.value s)).run Try.prog w = _
  rw [hx, hy, Sem.run_bind, Sem.run_bind, hg, Result.andThen_ok, hv, Result.andThen_ok]
  rfl
/-- A comparison of two aggregates in a walk. -/
theorem gwpList_agg {ops : Array Oper} {rest : List Oper} {o : Oper} {a : Act} {w : World} {Q : Exit → Act → World → Prop} (op : BinOp) (t u : TypeId) (x y : Operand) (ho : o.op = .binOp op t x y u)
    (hw : Region.wanted o (yielded ops a.tmps) = true) (xs ys : Array Value) (hx : a.eval x = .agg xs) (hy : a.eval y = .agg ys)
    (hm : Try.prog.eqGuardType Try.prog.depth t = false) (v : Value) (hv : (binOp op t (.agg xs) (.agg ys)).run Try.prog w = .ok v w) (h : wpList Try.prog ops Q rest (a.put o.dst v) w) : wpList Try.prog ops Q (o :: rest) a w :=
  wpList_step fun K hK => by
    rw [if_pos hw]
    show o.upon Try.prog a K Q ((execOp a.eval o).run Try.prog w)
    rw [gexec_agg op t u x y ho xs ys hx hy hm v hv]
    exact hK _ _ h
/-- The same in a region that only reads. -/
theorem gwpQuiet_agg {ops : Array Oper} {C : World → Prop} {Q : Act → Prop} {rest : List Oper} {o : Oper} {a : Act} (op : BinOp) (t u : TypeId) (x y : Operand) (ho : o.op = .binOp op t x y u)
    (hw : Region.wanted o (yielded ops a.tmps) = true) (xs ys : Array Value) (hx : a.eval x = .agg xs) (hy : a.eval y = .agg ys)
    (hm : Try.prog.eqGuardType Try.prog.depth t = false) (v : Value) (hv : ∀ w, (binOp op t (.agg xs) (.agg ys)).run Try.prog w = .ok v w) (h : wpQuiet Try.prog ops C Q rest (a.put o.dst v)) : wpQuiet Try.prog ops C Q (o :: rest) a :=
  wpQuiet_step fun K hK => by
    rw [if_pos hw]
    refine ⟨v, fun w _ => ?_, hK _ h⟩
    show Oper.quietUpon Try.prog C w v ((execOp a.eval o).run Try.prog w)
    rw [gexec_agg op t u x y ho xs ys hx hy hm v (hv w)]
    exact ⟨rfl, rfl⟩
end Go.Proofs.Ytnfjbjmdempafaa
