/- Two sets are equal in Go's sense exactly if their four words are; the same for two runs. -/
import Derived.Test.YtklimoepkifnhaaSetRef3
import Derived.ChangeKeysEq
import Derived.WalkKit
import Derived.Laws.StructEq
import Derived.OwnWalkIn
import Derived.TacticsInMore
namespace Go.Proofs.Ytklimoepkifnhaa
theorem eq_u64 (a b : Int) (w : World) : (Op.equalIn 9999 33 (.int .u64 a) (.int .u64 b)).run Try.prog w = .ok (a == b) w := by kernel_rfl
theorem eq_u8 (a b : Int) (w : World) : (Op.equalIn 9999 5 (.int .u8 a) (.int .u8 b)).run Try.prog w = .ok (a == b) w := by kernel_rfl
theorem pt0 (x y z u : Value) (w : World) : (Go.part 33 #[x, y, z, u] 0).run Try.prog w = .ok x w := by kernel_rfl
theorem pt1 (x y z u : Value) (w : World) : (Go.part 33 #[x, y, z, u] 1).run Try.prog w = .ok y w := by kernel_rfl
theorem pt2 (x y z u : Value) (w : World) : (Go.part 33 #[x, y, z, u] 2).run Try.prog w = .ok z w := by kernel_rfl
theorem pt3 (x y z u : Value) (w : World) : (Go.part 33 #[x, y, z, u] 3).run Try.prog w = .ok u w := by kernel_rfl
theorem qt0 (x y : Value) (w : World) : (Go.part 5 #[x, y] 0).run Try.prog w = .ok x w := by kernel_rfl
theorem qt1 (x y : Value) (w : World) : (Go.part 5 #[x, y] 1).run Try.prog w = .ok y w := by kernel_rfl
theorem cells_u64 : Try.prog.cellsOf 33 = 1 := by kernel_rfl
theorem cells_u8 : Try.prog.cellsOf 5 = 1 := by kernel_rfl
theorem und_set : Try.prog.underlying 35 = some (.array 4 33) := by kernel_rfl
theorem und_run : Try.prog.underlying 43 = some (.array 2 5) := by kernel_rfl
theorem info_u64 : ∃ i, Try.prog.info? 33 = some i := Option.isSome_iff_exists.1 (by kernel_rfl)
theorem info_u8 : ∃ i, Try.prog.info? 5 = some i := Option.isSome_iff_exists.1 (by kernel_rfl)
theorem eq_set (a b c d x y z u : Int) (w : World) :
    (Op.equalIn 10000 35 (.agg #[.int .u64 a, .int .u64 b, .int .u64 c, .int .u64 d]) (.agg #[.int .u64 x, .int .u64 y, .int .u64 z, .int .u64 u])).run Try.prog w = .ok (a == x && (b == y && (c == z && d == u))) w := by
  obtain ⟨i, hi⟩ := info_u64
  rw [run_equalIn_array w 9999 _ _ und_set hi, show List.range 4 = [0, 1, 2, 3] from rfl]
  have e1 := eq_u64 a x
  have e2 := eq_u64 b y
  have e3 := eq_u64 c z
  have e4 := eq_u64 d u
  generalize (a == x) = r1 at *
  generalize (b == y) = r2 at *
  generalize (c == z) = r3 at *
  generalize (d == u) = r4 at *
  cases r1 <;> cases r2 <;> cases r3 <;> cases r4 <;> simp [Op.eqItems, cells_u64, pt0, pt1, pt2, pt3, e1, e2, e3, e4]
theorem eq_run (a b x y : Int) (w : World) :
    (Op.equalIn 10000 43 (.agg #[.int .u8 a, .int .u8 b]) (.agg #[.int .u8 x, .int .u8 y])).run Try.prog w = .ok (a == x && b == y) w := by
  obtain ⟨i, hi⟩ := info_u8
  rw [run_equalIn_array w 9999 _ _ und_run hi, show List.range 2 = [0, 1] from rfl]
  have e1 := eq_u8 a x
  have e2 := eq_u8 b y
  generalize (a == x) = r1 at *
  generalize (b == y) = r2 at *
  cases r1 <;> cases r2 <;> simp [Op.eqItems, cells_u8, qt0, qt1, e1, e2]
theorem eql_set (a b c d x y z u : Int) (w : World) :
    (binOp .eql 35 (.agg #[.int .u64 a, .int .u64 b, .int .u64 c, .int .u64 d]) (.agg #[.int .u64 x, .int .u64 y, .int .u64 z, .int .u64 u])).run Try.prog w = .ok (.bool (a == x && (b == y && (c == z && d == u)))) w := by
  have h : (Op.equal 35 (.agg #[.int .u64 a, .int .u64 b, .int .u64 c, .int .u64 d]) (.agg #[.int .u64 x, .int .u64 y, .int .u64 z, .int .u64 u])).run Try.prog w = _ := eq_set a b c d x y z u w
  simp [binOp, h]
theorem neq_set (a b c d x y z u : Int) (w : World) :
    (binOp .neq 35 (.agg #[.int .u64 a, .int .u64 b, .int .u64 c, .int .u64 d]) (.agg #[.int .u64 x, .int .u64 y, .int .u64 z, .int .u64 u])).run Try.prog w = .ok (.bool (!(a == x && (b == y && (c == z && d == u))))) w := by
  have h : (Op.equal 35 (.agg #[.int .u64 a, .int .u64 b, .int .u64 c, .int .u64 d]) (.agg #[.int .u64 x, .int .u64 y, .int .u64 z, .int .u64 u])).run Try.prog w = _ := eq_set a b c d x y z u w
  simp [binOp, h]
theorem eql_run (a b x y : Int) (w : World) : (binOp .eql 43 (.agg #[.int .u8 a, .int .u8 b]) (.agg #[.int .u8 x, .int .u8 y])).run Try.prog w = .ok (.bool (a == x && b == y)) w := by
  have h : (Op.equal 43 (.agg #[.int .u8 a, .int .u8 b]) (.agg #[.int .u8 x, .int .u8 y])).run Try.prog w = _ := eq_run a b x y w
  simp [binOp, h]
theorem neq_run (a b x y : Int) (w : World) : (binOp .neq 43 (.agg #[.int .u8 a, .int .u8 b]) (.agg #[.int .u8 x, .int .u8 y])).run Try.prog w = .ok (.bool (!(a == x && b == y))) w := by
  have h : (Op.equal 43 (.agg #[.int .u8 a, .int .u8 b]) (.agg #[.int .u8 x, .int .u8 y])).run Try.prog w = _ := eq_run a b x y w
  simp [binOp, h]
/- two arrays are compared, as an operation of a walk: laws that name the operation outright -/
theorem exec_agg {o : Oper} {a : Act} {w : World} (op : BinOp) (t u : TypeId) (x y : Operand) (ho : o.op = .binOp op t x y u) (xs ys : Array Value) (hx : a.eval x = .agg xs) (hy : a.eval y = .agg ys)
    (hm : Try.prog.eqGuardType Try.prog.depth t = false) (v : Value) (hv : (binOp op t (.agg xs) (.agg ys)).run Try.prog w = .ok v w) : (execOp a.eval o).run Try.prog w = .ok (.value v) w := by
  have hg := run_eqGuard_agg w op t x y xs ys hm
  unfold execOp
  rw [ho]
  show ((eqGuard op t x y (a.eval x) (a.eval y) >>= fun _ => binOp op t (a.eval x) (a.eval y)) >>= fun s => pure (Next.value s)).run Try.prog w = _
  rw [hx, hy, Sem.run_bind, Sem.run_bind, hg, Result.andThen_ok, hv, Result.andThen_ok]
  rfl
theorem wpList_agg {ops : Array Oper} {rest : List Oper} {o : Oper} {a : Act} {w : World} {Q : Exit → Act → World → Prop} (op : BinOp) (t u : TypeId) (x y : Operand) (ho : o.op = .binOp op t x y u)
    (hw : Region.wanted o (yielded ops a.tmps) = true) (xs ys : Array Value) (hx : a.eval x = .agg xs) (hy : a.eval y = .agg ys)
    (hm : Try.prog.eqGuardType Try.prog.depth t = false) (v : Value) (hv : (binOp op t (.agg xs) (.agg ys)).run Try.prog w = .ok v w) (h : wpList Try.prog ops Q rest (a.put o.dst v) w) : wpList Try.prog ops Q (o :: rest) a w :=
  wpList_step fun K hK => by
    rw [if_pos hw]
    show o.upon Try.prog a K Q ((execOp a.eval o).run Try.prog w)
    rw [exec_agg op t u x y ho xs ys hx hy hm v hv]
    exact hK _ _ h
theorem gt_set : Try.prog.eqGuardType Try.prog.depth 35 = false := by kernel_rfl
theorem gt_run : Try.prog.eqGuardType Try.prog.depth 43 = false := by kernel_rfl
theorem wpListIn_agg {F : Fence} {n : Nat} {ops : Array Oper} {rest : List Oper} {o : Oper} {a : Act} {w : World} {Q : Exit → Act → World → Prop} (hF : F.round = none) (op : BinOp) (t u : TypeId) (x y : Operand) (ho : o.op = .binOp op t x y u)
    (hw : Region.wanted o (yielded ops a.tmps) = true) (xs ys : Array Value) (hx : a.eval x = .agg xs) (hy : a.eval y = .agg ys) (ha : o.about Try.prog w a.eval = none)
    (hm : Try.prog.eqGuardType Try.prog.depth t = false) (v : Value) (hv : (binOp op t (.agg xs) (.agg ys)).run Try.prog w = .ok v w) (h : wpListIn F n Try.prog ops Q rest (a.put o.dst v) w) : wpListIn F n Try.prog ops Q (o :: rest) a w :=
  wpListIn_step fun K hK => by
    rw [if_pos hw]
    refine ⟨(fun f hf => by rw [ha] at hf; cases hf), ?_⟩
    show o.uponIn F n Try.prog a K Q ((o.semAt F.round a.eval).run Try.prog w)
    rw [hF, show o.semAt none a.eval = execOp a.eval o from rfl, exec_agg op t u x y ho xs ys hx hy hm v hv]
    exact hK _ _ h
end Go.Proofs.Ytklimoepkifnhaa
