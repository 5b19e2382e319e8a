/- Rules for the walk: a comparison of two sets, or of two runs, as one operation. -/
import Derived.Test.YtklimoepkifnhaaSetEq
namespace Go.Proofs.Ytklimoepkifnhaa
/-- the numbers of an array of integers of one kind -/
def nums (k : IntKind) : List Value → Option (List Int)
  | [] => some []
  | .int k' n :: r => if k' = k then (nums k r).map (n :: ·) else none
  | _ :: _ => none
theorem nums_some {k : IntKind} : ∀ {l : List Value} {ns : List Int}, nums k l = some ns → l = ns.map (Value.int k)
  | [], ns, h => by cases h; rfl
  | v :: r, ns, h => by
    cases v <;> simp only [nums] at h <;> try cases h
    split at h
    · rename_i e
      subst e
      cases hr : nums _ r with
      | none => rw [hr] at h; cases h
      | some m => rw [hr] at h; cases h; rw [nums_some hr]; rfl
    · cases h
def numsOf (k : IntKind) : Value → Option (List Int)
  | .agg cs => nums k cs.toList
  | _ => none
theorem numsOf_some {k : IntKind} {v : Value} {ns : List Int} (h : numsOf k v = some ns) : v = .agg (ns.map (Value.int k)).toArray := by
  cases v <;> simp only [numsOf] at h <;> try cases h
  rw [← nums_some h]
/-- what the comparison of two sets gives, where both are four words -/
def eq4 (x y : Value) : Option Bool :=
  match numsOf .u64 x, numsOf .u64 y with
  | some [a, b, c, d], some [a', b', c', d'] => some (a == a' && (b == b' && (c == c' && d == d')))
  | _, _ => none
def eq2 (x y : Value) : Option Bool :=
  match numsOf .u8 x, numsOf .u8 y with
  | some [a, b], some [a', b'] => some (a == a' && b == b')
  | _, _ => none
theorem eq4_mk (a b c d a' b' c' d' : Int) : eq4 (.agg #[.int .u64 a, .int .u64 b, .int .u64 c, .int .u64 d]) (.agg #[.int .u64 a', .int .u64 b', .int .u64 c', .int .u64 d']) = some (a == a' && (b == b' && (c == c' && d == d'))) := rfl
theorem eq2_mk (a b a' b' : Int) : eq2 (.agg #[.int .u8 a, .int .u8 b]) (.agg #[.int .u8 a', .int .u8 b']) = some (a == a' && b == b') := rfl
/-- the answer, or, where the rule does not serve, what stood there -/
def orElse (r : Option Bool) (w : World) (f : Bool → Bool) (x : Result Next) : Result Next :=
  match r with
  | some b => .ok (.value (.bool (f b))) w
  | none => x
theorem orElse_some (b : Bool) (w : World) (f : Bool → Bool) (x : Result Next) : orElse (some b) w f x = .ok (.value (.bool (f b))) w := rfl
/-- what stood there, out of the walk's sight -/
def stuckRun (P : Program) (a : Act) (o : Oper) (w : World) : Result Next := (execOp a.eval o).run P w
theorem exec_eql4 (a : Act) (dst : Option Tmp) (x y : Operand) (u ty : TypeId) (pos : String) (after : Array Edge) (guard : Option (Nat × Bool)) (w : World) :
    (execOp a.eval ⟨dst, .binOp .eql 35 x y u, ty, pos, after, guard⟩).run Try.prog w = orElse (eq4 (a.eval x) (a.eval y)) w id (stuckRun Try.prog a ⟨dst, .binOp .eql 35 x y u, ty, pos, after, guard⟩ w) := by
  unfold orElse
  split
  · rename_i b h
    unfold eq4 at h
    split at h
    · rename_i hx hy
      have hx := numsOf_some hx
      have hy := numsOf_some hy
      injection h with h
      subst h
      exact exec_agg .eql 35 u x y rfl _ _ hx hy gt_set _ (eql_set _ _ _ _ _ _ _ _ _)
    · cases h
  · rfl
theorem exec_neq4 (a : Act) (dst : Option Tmp) (x y : Operand) (u ty : TypeId) (pos : String) (after : Array Edge) (guard : Option (Nat × Bool)) (w : World) :
    (execOp a.eval ⟨dst, .binOp .neq 35 x y u, ty, pos, after, guard⟩).run Try.prog w = orElse (eq4 (a.eval x) (a.eval y)) w not (stuckRun Try.prog a ⟨dst, .binOp .neq 35 x y u, ty, pos, after, guard⟩ w) := by
  unfold orElse
  split
  · rename_i b h
    unfold eq4 at h
    split at h
    · rename_i hx hy
      have hx := numsOf_some hx
      have hy := numsOf_some hy
      injection h with h
      subst h
      exact exec_agg .neq 35 u x y rfl _ _ hx hy gt_set _ (neq_set _ _ _ _ _ _ _ _ _)
    · cases h
  · rfl
theorem exec_eql2 (a : Act) (dst : Option Tmp) (x y : Operand) (u ty : TypeId) (pos : String) (after : Array Edge) (guard : Option (Nat × Bool)) (w : World) :
    (execOp a.eval ⟨dst, .binOp .eql 43 x y u, ty, pos, after, guard⟩).run Try.prog w = orElse (eq2 (a.eval x) (a.eval y)) w id (stuckRun Try.prog a ⟨dst, .binOp .eql 43 x y u, ty, pos, after, guard⟩ w) := by
  unfold orElse
  split
  · rename_i b h
    unfold eq2 at h
    split at h
    · rename_i hx hy
      have hx := numsOf_some hx
      have hy := numsOf_some hy
      injection h with h
      subst h
      exact exec_agg .eql 43 u x y rfl _ _ hx hy gt_run _ (eql_run _ _ _ _ _)
    · cases h
  · rfl
theorem exec_neq2 (a : Act) (dst : Option Tmp) (x y : Operand) (u ty : TypeId) (pos : String) (after : Array Edge) (guard : Option (Nat × Bool)) (w : World) :
    (execOp a.eval ⟨dst, .binOp .neq 43 x y u, ty, pos, after, guard⟩).run Try.prog w = orElse (eq2 (a.eval x) (a.eval y)) w not (stuckRun Try.prog a ⟨dst, .binOp .neq 43 x y u, ty, pos, after, guard⟩ w) := by
  unfold orElse
  split
  · rename_i b h
    unfold eq2 at h
    split at h
    · rename_i hx hy
      have hx := numsOf_some hx
      have hy := numsOf_some hy
      injection h with h
      subst h
      exact exec_agg .neq 43 u x y rfl _ _ hx hy gt_run _ (neq_run _ _ _ _ _)
    · cases h
  · rfl
end Go.Proofs.Ytklimoepkifnhaa
