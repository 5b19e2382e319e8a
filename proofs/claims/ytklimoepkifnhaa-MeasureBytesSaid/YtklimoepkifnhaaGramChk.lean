/- gram.checkNodes, gram.Check. -/
import Derived.Test.YtklimoepkifnhaaGramOrder
import Derived.Test.YtklimoepkifnhaaGramMade
import Derived.Laws.EntriesVeiled
namespace Go.Proofs.Ytklimoepkifnhaa
open Go.RowKit
theorem rmade_any (n : PN) (ka : Option Addr) (kc R : Nat) (w : World) (hl : n.kids.length ≤ 9223372036854775807) :
    Calls Try.prog 44 #[.agg #[.int .i64 n.op, .slice ka n.kids.length kc, .int .i64 n.rule, .int .u64 n.s0, .int .u64 n.s1, .int .u64 n.s2, .int .u64 n.s3], .int .i64 (R : Int)] w fun e w' => e = .returned (.bool (madeB n R)) ∧ Below w.heap.size w w' := by
  rw [made5_is, setZ_is]; exact rm_any _ _ _ _ _ _ _ _ _ _ w hl
theorem nodeBad_is {ns : List PN} {R k : Nat} {n : PN} (h : ns[k]? = some n) : nodeBad ns R k = !madeB n R := by unfold nodeBad; rw [h]
/-- A check that finds nothing wrong. -/
def OkAt (f : Nat) (w : World) (g : Value) : Prop := ∀ W, Below w.heap.size w W → Calls Try.prog f #[g] W fun e w' => e = .returned .nilIface ∧ Below W.heap.size W w'
theorem chkL_eq (rs : List PR) (ns : List PN) : chkL rs ns = if 1000 < rs.length ∨ 10000 < ns.length then .large else
  if rs.length = 0 then .rules 0 else
  match fbad (nameBad rs) rs.length 0 with
  | some i => .rules i
  | none => match fbad (nodeBad ns rs.length) ns.length 0 with
    | some i => .nodes i
    | none => if ordR ns rs (-1) then (match fbad (deepBad ns) ns.length 0 with
        | some i => .deep i
        | none => .ok) else .order := rfl
end Go.Proofs.Ytklimoepkifnhaa
