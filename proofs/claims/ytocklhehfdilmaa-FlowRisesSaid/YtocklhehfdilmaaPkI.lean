/- '==' between facts. '==' between facts, as a rule for walks in regions. -/
import Derived.Test.YtocklhehfdilmaaPkGramCmp
import Derived.Test.YtocklhehfdilmaaPkFlowMem
namespace Go.Proofs.Ytocklhehfdilmaa
open Go.RowKit
def eqFc (f g : Fc) : Bool := f.nul == g.nul && (f.eat == g.eat && f.fai == g.fai)
theorem eqFc_is (f g : Fc) : eqFc f g = decide (f = g) := by
  rw [Bool.eq_iff_iff, decide_eq_true_iff, ← Fc.eq_iff]; unfold eqFc; simp
theorem feqR (f g : Fc) (w : World) : (Op.equal 35 (factV f) (factV g)).run Try.prog w = .ok (eqFc f g) w := by
  obtain ⟨a, b, c⟩ := f; obtain ⟨x, y, z⟩ := g
  cases a <;> cases b <;> cases c <;> cases x <;> cases y <;> cases z <;> kernel_rfl
theorem feqF (f g : Fc) (w : World) : (Op.equal 36 (factV f) (factV g)).run Try.prog w = .ok (eqFc f g) w := by
  obtain ⟨a, b, c⟩ := f; obtain ⟨x, y, z⟩ := g
  cases a <;> cases b <;> cases c <;> cases x <;> cases y <;> cases z <;> kernel_rfl
theorem eqlR (f g : Fc) (w : World) : (binOp .eql 35 (.agg #[.bool f.nul, .bool f.eat, .bool f.fai]) (.agg #[.bool g.nul, .bool g.eat, .bool g.fai])).run Try.prog w = .ok (.bool (decide (f = g))) w := by
  rw [← eqFc_is]; have h := feqR f g w; unfold factV at h; simp [binOp, h]
theorem neqR (f g : Fc) (w : World) : (binOp .neq 35 (.agg #[.bool f.nul, .bool f.eat, .bool f.fai]) (.agg #[.bool g.nul, .bool g.eat, .bool g.fai])).run Try.prog w = .ok (.bool (!decide (f = g))) w := by
  rw [← eqFc_is]; have h := feqR f g w; unfold factV at h; simp [binOp, h]
theorem eqlF (f g : Fc) (w : World) : (binOp .eql 36 (.agg #[.bool f.nul, .bool f.eat, .bool f.fai]) (.agg #[.bool g.nul, .bool g.eat, .bool g.fai])).run Try.prog w = .ok (.bool (decide (f = g))) w := by
  rw [← eqFc_is]; have h := feqF f g w; unfold factV at h; simp [binOp, h]
theorem gtR : Try.prog.eqGuardType Try.prog.depth 35 = false := by kernel_rfl
theorem gtF : Try.prog.eqGuardType Try.prog.depth 36 = false := by kernel_rfl
end Go.Proofs.Ytocklhehfdilmaa
namespace Go.Proofs.Ytocklhehfdilmaa
open Go.RowKit
def fcOf : Value → Option Fc
  | .agg xs => match xs.toList with
    | [.bool a, .bool b, .bool c] => some ⟨a, b, c⟩
    | _ => none
  | _ => none
theorem fcOf_some {v : Value} {f : Fc} (h : fcOf v = some f) : v = factV f := by
  unfold fcOf at h
  split at h
  · split at h
    · rename_i xs _ a b c e
      obtain rfl := Option.some.inj h
      have : xs = #[.bool a, .bool b, .bool c] := Array.toList_inj.1 e
      rw [this]; rfl
    · cases h
  · cases h
def eqFv (x y : Value) : Option Bool := match fcOf x, fcOf y with
  | some f, some g => some (eqFc f g)
  | _, _ => none
theorem eqFv_mk (a b c x y z : Bool) : eqFv (.agg #[.bool a, .bool b, .bool c]) (.agg #[.bool x, .bool y, .bool z]) = some (eqFc ⟨a, b, c⟩ ⟨x, y, z⟩) := rfl
theorem eqFc_self (f : Fc) : eqFc f f = true := by rw [eqFc_is, decide_eq_true rfl]
def orElseF (o : Option Bool) (w : World) (x : Result Next) : Result Next := match o with
  | some b => .ok (.value (.bool b)) w
  | none => x
theorem orElseF_some (b : Bool) (w : World) (x : Result Next) : orElseF (some b) w x = .ok (.value (.bool b)) w := rfl
/-- what stood there, out of the walk's sight -/
def stuckF (P : Program) (a : Act) (o : Oper) (w : World) : Result Next := (execOp a.eval o).run P w
theorem exec_eqlF (a : Act) (dst : Option Tmp) (x y : Operand) (u ty : TypeId) (pos : String) (after : Array Edge) (guard : Option (Nat × Bool)) (w : World) :
    (execOp a.eval ⟨dst, .binOp .eql 36 x y u, ty, pos, after, guard⟩).run Try.prog w = orElseF (eqFv (a.eval x) (a.eval y)) w (stuckF Try.prog a ⟨dst, .binOp .eql 36 x y u, ty, pos, after, guard⟩ w) := by
  unfold orElseF
  split
  · rename_i b h
    unfold eqFv at h
    split at h
    · rename_i f g hx hy
      have hx := fcOf_some hx
      have hy := fcOf_some hy
      injection h with h
      subst h
      rw [eqFc_is]
      exact gexec_agg .eql 36 u x y rfl _ _ hx hy gtF _ (eqlF f g w)
    · cases h
  · rfl
theorem exec_eqlR (a : Act) (dst : Option Tmp) (x y : Operand) (u ty : TypeId) (pos : String) (after : Array Edge) (guard : Option (Nat × Bool)) (w : World) :
    (execOp a.eval ⟨dst, .binOp .eql 35 x y u, ty, pos, after, guard⟩).run Try.prog w = orElseF (eqFv (a.eval x) (a.eval y)) w (stuckF Try.prog a ⟨dst, .binOp .eql 35 x y u, ty, pos, after, guard⟩ w) := by
  unfold orElseF
  split
  · rename_i b h
    unfold eqFv at h
    split at h
    · rename_i f g hx hy
      have hx := fcOf_some hx
      have hy := fcOf_some hy
      injection h with h
      subst h
      rw [eqFc_is]
      exact gexec_agg .eql 35 u x y rfl _ _ hx hy gtR _ (eqlR f g w)
    · cases h
  · rfl
end Go.Proofs.Ytocklhehfdilmaa
