/- fault.New and fault.Within at a fault; gram.checkSize, checkNodes, checkDepths, checkNames. gram.checkOrder. -/
import Derived.Maps.OwnOps
import Derived.Maps.OwnSet
import Derived.Laws.OwnMore
import Derived.Deep.Cut
import Derived.Lib.SmallJoins
import Derived.Test.YtocklhehfdilmaaPkC
import Derived.Test.YtocklhehfdilmaaPkE
namespace Go.Proofs.Ytocklhehfdilmaa
open Go.RowKit
open Go.Maps
/-- Block b is the set of the names that seen tells. -/
def SeenAt (w : World) (b n : Nat) (seen : ByteArray → Bool) : Prop := ∃ D : DataW Unit, w.ownsMap Try.prog 9 (plainElem Try.prog 4) b n D ∧ Maps.IsMap D ∧ ∀ s : ByteArray, D.atKey (.string s.data.toList) (.lit (.bool false)) = .lit (.bool (seen s))
set_option maxRecDepth 100000 in
theorem SeenAt.made (w : World) : SeenAt (w.alloc (.map #[] 0)) w.heap.size 0 (fun _ => false) :=
  ⟨.map [], World.ownsMap_made _ _ _ _, Maps.isMap_empty, fun _ => rfl⟩
theorem SeenAt.alloc {w : World} {b n : Nat} {seen : ByteArray → Bool} (h : SeenAt w b n seen) (o : Obj) : SeenAt (w.alloc o) b n seen := by
  obtain ⟨D, h1, h2, h3⟩ := h
  exact ⟨D, h1.alloc o, h2, h3⟩
set_option maxRecDepth 100000 in
theorem SeenAt.put {w : World} {D : DataW Unit} {b n : Nat} {seen seen' : ByteArray → Bool} (s : ByteArray) (h1 : w.ownsMap Try.prog 9 (plainElem Try.prog 4) b n (D.put (.string s.data.toList) (.lit (.bool true)))) (h2 : Maps.IsMap D) (h3 : ∀ s : ByteArray, D.atKey (.string s.data.toList) (.lit (.bool false)) = .lit (.bool (seen s)))
    (h : ∀ x, seen' x = (seen x || decide (s = x))) : SeenAt w b n seen' := by
  refine ⟨_, h1, h2.put _ _, fun x => ?_⟩
  rw [h x]
  by_cases e : s = x
  · subst e
    rw [Maps.atKey_put_same h2 (show WideAt.IsKeyLit (.string _) from trivial)]; simp
  · rw [Maps.atKey_put_other (by intro he; injection he with he; exact e (ByteArray.ext (Array.ext' he)).symm), h3 x, decide_eq_false e, Bool.or_false]
def seenL (rs : List PR) (k : Nat) (s : ByteArray) : Bool := (rs.take k).any (fun x => decide (x.name = s))
theorem seenL_succ {rs : List PR} {k : Nat} {r : PR} (h : rs[k]? = some r) (s : ByteArray) : seenL rs (k + 1) s = (seenL rs k s || decide (r.name = s)) := by
  unfold seenL; rw [take_snoc' rs k r h, List.any_append]; simp
theorem nameBad_is {rs : List PR} {k : Nat} {r : PR} (h : rs[k]? = some r) : nameBad rs k = (seenL rs k r.name || !nameB (bts r.name)) := by
  unfold nameBad; rw [h]; rfl
end Go.Proofs.Ytocklhehfdilmaa
namespace Go.Proofs.Ytocklhehfdilmaa
open Go.RowKit
theorem intsV_length (l : List Int) : (intsV l).length = l.length := by unfold intsV; rw [List.length_map]
theorem intsV_append (l m : List Int) : intsV (l ++ m) = intsV l ++ intsV m := by unfold intsV; rw [List.map_append]
/-- An own row, cut behind its first elements. -/
theorem ownsRow_cut {w : World} {base : Nat} {e : TypeId} {a : Option Addr} {n cap k : Nat} {xs : List Value} (h : w.ownsRow base e 1 (.slice a n cap) n xs) (hk : k ≤ n) : w.ownsRow base e 1 (.slice a k cap) k (xs.take k) := by
  obtain ⟨h1, h2⟩ := h
  rcases h2 with ⟨h0, h3⟩ | ⟨g', cap', cur, hv, hg, hh, hn, hcap, hsz, htake⟩
  · injection h0 with e1 e2 e3
    subst e1 e2 e3
    obtain rfl : k = 0 := by omega
    exact ⟨by simp, .inl ⟨rfl, rfl⟩⟩
  · injection hv with e1 e2 e3
    subst e1 e3
    refine ⟨by rw [List.length_take]; omega, .inr ⟨g', cap, cur, rfl, hg, hh, by omega, hcap, hsz, ?_⟩⟩
    rw [← htake, List.take_take, Nat.mul_one, Nat.mul_one, Nat.min_eq_left hk]
theorem ownsRow_sliceI {w : World} {base : Nat} {e : TypeId} {v : Value} {n : Nat} {xs : List Value} (h : w.ownsRow base e 1 v n xs) : ∃ a cap, v = .slice a n cap ∧ n ≤ cap ∧ (n = 0 ∨ ∃ g, a = some ⟨g, 0, none⟩) ∧ (a = none ∨ ∃ g, a = some ⟨g, 0, none⟩) := by
  obtain ⟨h1, h2⟩ := h
  rcases h2 with ⟨h0, h3⟩ | ⟨g', cap', cur, hv, hg, hh, hn, hcap, hsz, htake⟩
  · subst h3; exact ⟨none, 0, h0, Nat.le_refl _, .inl rfl, .inl rfl⟩
  · exact ⟨_, cap', hv, hn, .inr ⟨g', rfl⟩, .inr ⟨g', rfl⟩⟩
end Go.Proofs.Ytocklhehfdilmaa
