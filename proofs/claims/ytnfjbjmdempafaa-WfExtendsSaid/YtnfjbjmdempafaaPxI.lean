/- '==' between facts. -/
import Derived.Test.YtnfjbjmdempafaaPxGramCmp
import Derived.Test.YtnfjbjmdempafaaPxFS
namespace Go.Proofs.Ytnfjbjmdempafaa
open Go.RowKit
def eqFc (f g : Fc) : Bool := f.nul == g.nul && (f.eat == g.eat && f.fai == g.fai)
theorem eqFc_is (f g : Fc) : eqFc f g = decide (f = g) := by
  rw [Bool.eq_iff_iff, decide_eq_true_iff, ← Fc.eq_iff]; unfold eqFc; simp
theorem feqR (f g : Fc) (w : World) : (Op.equal 37 (factV f) (factV g)).run Try.prog w = .ok (eqFc f g) w := by
  obtain ⟨a, b, c⟩ := f; obtain ⟨x, y, z⟩ := g
  cases a <;> cases b <;> cases c <;> cases x <;> cases y <;> cases z <;> kernel_rfl
theorem feqF (f g : Fc) (w : World) : (Op.equal 85 (factV f) (factV g)).run Try.prog w = .ok (eqFc f g) w := by
  obtain ⟨a, b, c⟩ := f; obtain ⟨x, y, z⟩ := g
  cases a <;> cases b <;> cases c <;> cases x <;> cases y <;> cases z <;> kernel_rfl
theorem eqlR (f g : Fc) (w : World) : (binOp .eql 37 (.agg #[.bool f.nul, .bool f.eat, .bool f.fai]) (.agg #[.bool g.nul, .bool g.eat, .bool g.fai])).run Try.prog w = .ok (.bool (decide (f = g))) w := by
  rw [← eqFc_is]; have h := feqR f g w; unfold factV at h; simp [binOp, h]
theorem neqR (f g : Fc) (w : World) : (binOp .neq 37 (.agg #[.bool f.nul, .bool f.eat, .bool f.fai]) (.agg #[.bool g.nul, .bool g.eat, .bool g.fai])).run Try.prog w = .ok (.bool (!decide (f = g))) w := by
  rw [← eqFc_is]; have h := feqR f g w; unfold factV at h; simp [binOp, h]
theorem eqlF (f g : Fc) (w : World) : (binOp .eql 85 (.agg #[.bool f.nul, .bool f.eat, .bool f.fai]) (.agg #[.bool g.nul, .bool g.eat, .bool g.fai])).run Try.prog w = .ok (.bool (decide (f = g))) w := by
  rw [← eqFc_is]; have h := feqF f g w; unfold factV at h; simp [binOp, h]
theorem gtR : Try.prog.eqGuardType Try.prog.depth 37 = false := by kernel_rfl
theorem gtF : Try.prog.eqGuardType Try.prog.depth 85 = false := by kernel_rfl
end Go.Proofs.Ytnfjbjmdempafaa
