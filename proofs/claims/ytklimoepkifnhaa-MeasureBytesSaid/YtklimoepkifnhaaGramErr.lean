/- fault.New and fault.Within at a fault; gram.checkSize, checkNodes, checkDepths, checkNames. -/
import Derived.Test.YtklimoepkifnhaaGramDep
import Derived.Test.YtklimoepkifnhaaGramDeps
import Derived.Test.YtklimoepkifnhaaLexStr
import Derived.Test.YtklimoepkifnhaaErr
import Derived.Maps.OwnOps
import Derived.Maps.OwnSet
namespace Go.Proofs.Ytklimoepkifnhaa
open Go.RowKit
open Go.Maps
/-- The text of a part's name. -/
def sRules : ByteArray := ⟨#[114, 117, 108, 101, 115]⟩
def sNodes : ByteArray := ⟨#[110, 111, 100, 101, 115]⟩
/-- Block b is the set of the names that seen tells. -/
def SeenAt (w : World) (b n : Nat) (seen : ByteArray → Bool) : Prop := ∃ D : DataW Unit, w.ownsMap Try.prog 9 (plainElem Try.prog 4) b n D ∧ Maps.IsMap D ∧ ∀ s : ByteArray, D.atKey (.string s.data.toList) (.lit (.bool false)) = .lit (.bool (seen s))
theorem law_str : Keyed Try.prog 9 := string_keyed Try.underlying9
set_option maxRecDepth 100000 in
theorem zero_bool (w : World) : (zeroValue 4).run Try.prog w = .ok (.bool false) w := by kernel_rfl
set_option maxRecDepth 100000 in
theorem plainElem_bool_inv {v : Value} {z : DataW Unit × List MemPlace} (h : plainElem Try.prog 4 v = some z) : ∃ x, v = .bool x ∧ z = (.lit (.bool x), []) := by
  unfold plainElem at h
  rw [Try.underlying4] at h
  cases v <;> simp at h
  exact ⟨_, rfl, h.symm⟩
set_option maxRecDepth 100000 in
theorem SeenAt.made (w : World) : SeenAt (w.alloc (.map #[] 0)) w.heap.size 0 (fun _ => false) :=
  ⟨.map [], World.ownsMap_made _ _ _ _, Maps.isMap_empty, fun _ => rfl⟩
theorem SeenAt.alloc {w : World} {b n : Nat} {seen : ByteArray → Bool} (h : SeenAt w b n seen) (o : Obj) : SeenAt (w.alloc o) b n seen := by
  obtain ⟨D, h1, h2, h3⟩ := h
  exact ⟨D, h1.alloc o, h2, h3⟩
set_option maxRecDepth 100000 in
theorem SeenAt.put {w : World} {D : DataW Unit} {b n : Nat} {seen seen' : ByteArray → Bool} (s : ByteArray) (h1 : w.ownsMap Try.prog 9 (plainElem Try.prog 4) b n (D.put (.string s.data.toList) (.lit (.bool true)))) (h2 : Maps.IsMap D) (h3 : ∀ s : ByteArray, D.atKey (.string s.data.toList) (.lit (.bool false)) = .lit (.bool (seen s)))
    (h : ∀ x, seen' x = (seen x || decide (s = x))) : SeenAt w b n seen' := by
  refine ⟨_, h1, h2.put _ _, fun x => ?_⟩
  rw [h x]
  by_cases e : s = x
  · subst e
    rw [Maps.atKey_put_same h2 (show WideAt.IsKeyLit (.string _) from trivial)]; simp
  · rw [Maps.atKey_put_other (by intro he; injection he with he; exact e (ByteArray.ext (Array.ext' he)).symm), h3 x, decide_eq_false e, Bool.or_false]
def seenL (rs : List PR) (k : Nat) (s : ByteArray) : Bool := (rs.take k).any (fun x => decide (x.name = s))
theorem seenL_succ {rs : List PR} {k : Nat} {r : PR} (h : rs[k]? = some r) (s : ByteArray) : seenL rs (k + 1) s = (seenL rs k s || decide (r.name = s)) := by
  unfold seenL; rw [take_snoc' rs k r h, List.any_append]; simp
theorem nameBad_is {rs : List PR} {k : Nat} {r : PR} (h : rs[k]? = some r) : nameBad rs k = (seenL rs k r.name || !nameB (bts r.name)) := by
  unfold nameBad; rw [h]; rfl
end Go.Proofs.Ytklimoepkifnhaa
