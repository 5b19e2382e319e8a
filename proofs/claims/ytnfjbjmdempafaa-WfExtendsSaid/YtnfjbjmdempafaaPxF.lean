/- What an error of this program may be, as a tree; the value that stands for it; and that it lies in memory as it did as long as old memory stays as it was. No wa -/
import Derived.Test.YtnfjbjmdempafaaProg
import Derived.WalkKit
import Derived.ProofKit
import Derived.Maps.OwnOps
import Derived.Maps.OwnSet
import Derived.Laws.OwnMore
import Derived.Deep.Cut
import Derived.Lib.SmallJoins
import Derived.Test.YtnfjbjmdempafaaPxBase
import Derived.Test.YtnfjbjmdempafaaPxC
namespace Go.Proofs.Ytnfjbjmdempafaa
open Go.RowKit
/-- An error: a code, a fault, a text of package errors, or one that Within has made. -/
inductive Err where
  | code (c : Int)
  | fault (c p : Int)
  | within (b : Nat) (r : ByteArray) (e : Err)
def Err.val : Err → Value
  | .code c => .iface 75 (.int .i64 c)
  | .fault c p => .iface 97 (.agg #[.int .i64 c, .int .i64 p])
  | .within b _ _ => .iface 91 (.pointer (some ⟨b, 0, none⟩))
/-- The dynamic type, and what the interface value holds. -/
def Err.ty : Err → Nat
  | .code _ => 75
  | .fault _ _ => 97
  | .within _ _ _ => 91
/-- How many errors stand behind it in its chain, a fault's code among them. -/
def Err.deep : Err → Nat
  | .code _ => 0
  | .fault _ _ => 1
  | .within _ _ e => e.deep + 1
def Err.In (_w : World) : Err → Prop
  | .code _ => True
  | .fault _ _ => True
  | .within b r e => _w.cell? ⟨b, 0, none⟩ = some (.string r) ∧ _w.cell? ⟨b, 1, none⟩ = some e.val ∧ e.In _w
theorem Err.In.kept {e : Err} {n : Nat} {w w1 : World} (h : e.In w) (_hb : Below n w w1) (_hn : w.heap.size ≤ n) : e.In w1 := by
  induction e with
  | code c => trivial
  | fault c p => trivial
  | within b r e ih =>
    obtain ⟨h0, h1, h2⟩ := h
    have hl := lt_of_cell h0
    exact ⟨by rw [(bcell _hb).1 _ _ (by omega)]; exact h0, by rw [(bcell _hb).1 _ _ (by omega)]; exact h1, ih h2⟩
end Go.Proofs.Ytnfjbjmdempafaa
namespace Go.Proofs.Ytnfjbjmdempafaa
open Go.RowKit
open Go.Maps
theorem gNew_any (c p : Int) (w : World) :
    Calls Try.prog 39 #[.int .i64 c, .int .i64 p] w fun ev w' => ev = .returned (.iface 97 (.agg #[.int .i64 c, .int .i64 p])) ∧ w = w' := by
  go_enter Try.func39, Try.ntmps39
  go_wp2
  go_ret
  exact ⟨rfl, rfl⟩
theorem gWithin_any (r : ByteArray) (c p : Int) (w : World) :
    Calls Try.prog 37 #[.string r, .iface 97 (.agg #[.int .i64 c, .int .i64 p])] w fun ev w' => ev = .returned (.iface 91 (.pointer (some ⟨w.heap.size, 0, none⟩))) ∧ w' = w.alloc (.cells #[.string r, .iface 97 (.agg #[.int .i64 c, .int .i64 p])] 93) := by
  go_enter Try.func37, Try.ntmps37
  go_wp2
  go_ret
  exact ⟨rfl, rfl⟩
/-- The error that a part's check makes. -/
def PartErr (part : ByteArray) (c p : Int) (w : World) (e : Ending) (w' : World) : Prop := (∃ b, e = .returned (.iface 91 (.pointer (some ⟨b, 0, none⟩))) ∧ (Err.within b part (.fault c p)).In w') ∧ Below w.heap.size w w'
theorem PartErr.mk {part : ByteArray} {c p : Int} {W w : World} {n : Nat} (hn : n = W.heap.size) (hb : Below w.heap.size w W) : PartErr part c p w (.returned (.iface 91 (.pointer (some ⟨n, 0, none⟩)))) (W.alloc (.cells #[.string part, .iface 97 (.agg #[.int .i64 c, .int .i64 p])] 93)) := by
  subst hn
  refine ⟨⟨_, rfl, ?_⟩, hb.alloc hb.size _⟩
  refine ⟨by simp, by simp [Err.val], trivial⟩
/-- What a check returns that looks for the first that is wrong. -/
def FirstIs (o : Option Nat) (part : ByteArray) (c : Int) (w : World) (e : Ending) (w' : World) : Prop := match o with
  | none => e = .returned .nilIface ∧ Below w.heap.size w w'
  | some p => PartErr part c (p : Int) w e w'
theorem FirstIs.nil {o : Option Nat} {part : ByteArray} {c : Int} {w w' : World} (h : o = .none) (hb : Below w.heap.size w w') : FirstIs o part c w (.returned .nilIface) w' := by subst h; exact ⟨rfl, hb⟩
/-- Block b is the set of the names that seen tells. -/
def SeenAt (w : World) (b n : Nat) (seen : ByteArray → Bool) : Prop := ∃ D : DataW Unit, w.ownsMap Try.prog 9 (plainElem Try.prog 4) b n D ∧ Maps.IsMap D ∧ ∀ s : ByteArray, D.atKey (.string s.data.toList) (.lit (.bool false)) = .lit (.bool (seen s))
set_option maxRecDepth 100000 in
theorem SeenAt.made (w : World) : SeenAt (w.alloc (.map #[] 0)) w.heap.size 0 (fun _ => false) :=
  ⟨.map [], World.ownsMap_made _ _ _ _, Maps.isMap_empty, fun _ => rfl⟩
theorem SeenAt.alloc {w : World} {b n : Nat} {seen : ByteArray → Bool} (h : SeenAt w b n seen) (o : Obj) : SeenAt (w.alloc o) b n seen := by
  obtain ⟨D, h1, h2, h3⟩ := h
  exact ⟨D, h1.alloc o, h2, h3⟩
set_option maxRecDepth 100000 in
theorem SeenAt.put {w : World} {D : DataW Unit} {b n : Nat} {seen seen' : ByteArray → Bool} (s : ByteArray) (h1 : w.ownsMap Try.prog 9 (plainElem Try.prog 4) b n (D.put (.string s.data.toList) (.lit (.bool true)))) (h2 : Maps.IsMap D) (h3 : ∀ s : ByteArray, D.atKey (.string s.data.toList) (.lit (.bool false)) = .lit (.bool (seen s)))
    (h : ∀ x, seen' x = (seen x || decide (s = x))) : SeenAt w b n seen' := by
  refine ⟨_, h1, h2.put _ _, fun x => ?_⟩
  rw [h x]
  by_cases e : s = x
  · subst e
    rw [Maps.atKey_put_same h2 (show WideAt.IsKeyLit (.string _) from trivial)]; simp
  · rw [Maps.atKey_put_other (by intro he; injection he with he; exact e (ByteArray.ext (Array.ext' he)).symm), h3 x, decide_eq_false e, Bool.or_false]
def seenL (rs : List PR) (k : Nat) (s : ByteArray) : Bool := (rs.take k).any (fun x => decide (x.name = s))
theorem seenL_succ {rs : List PR} {k : Nat} {r : PR} (h : rs[k]? = some r) (s : ByteArray) : seenL rs (k + 1) s = (seenL rs k s || decide (r.name = s)) := by
  unfold seenL; rw [take_snoc' rs k r h, List.any_append]; simp
theorem nameBad_is {rs : List PR} {k : Nat} {r : PR} (h : rs[k]? = some r) : nameBad rs k = (seenL rs k r.name || !nameB (bts r.name)) := by
  unfold nameBad; rw [h]; rfl
end Go.Proofs.Ytnfjbjmdempafaa
namespace Go.Proofs.Ytnfjbjmdempafaa
open Go.RowKit
theorem intsV_length (l : List Int) : (intsV l).length = l.length := by unfold intsV; rw [List.length_map]
theorem intsV_append (l m : List Int) : intsV (l ++ m) = intsV l ++ intsV m := by unfold intsV; rw [List.map_append]
/-- An own row, cut behind its first elements. -/
theorem ownsRow_cut {w : World} {base : Nat} {e : TypeId} {a : Option Addr} {n cap k : Nat} {xs : List Value} (h : w.ownsRow base e 1 (.slice a n cap) n xs) (hk : k ≤ n) : w.ownsRow base e 1 (.slice a k cap) k (xs.take k) := by
  obtain ⟨h1, h2⟩ := h
  rcases h2 with ⟨h0, h3⟩ | ⟨g', cap', cur, hv, hg, hh, hn, hcap, hsz, htake⟩
  · injection h0 with e1 e2 e3
    subst e1 e2 e3
    obtain rfl : k = 0 := by omega
    exact ⟨by simp, .inl ⟨rfl, rfl⟩⟩
  · injection hv with e1 e2 e3
    subst e1 e3
    refine ⟨by rw [List.length_take]; omega, .inr ⟨g', cap, cur, rfl, hg, hh, by omega, hcap, hsz, ?_⟩⟩
    rw [← htake, List.take_take, Nat.mul_one, Nat.mul_one, Nat.min_eq_left hk]
theorem ownsRow_sliceI {w : World} {base : Nat} {e : TypeId} {v : Value} {n : Nat} {xs : List Value} (h : w.ownsRow base e 1 v n xs) : ∃ a cap, v = .slice a n cap ∧ n ≤ cap ∧ (n = 0 ∨ ∃ g, a = some ⟨g, 0, none⟩) ∧ (a = none ∨ ∃ g, a = some ⟨g, 0, none⟩) := by
  obtain ⟨h1, h2⟩ := h
  rcases h2 with ⟨h0, h3⟩ | ⟨g', cap', cur, hv, hg, hh, hn, hcap, hsz, htake⟩
  · subst h3; exact ⟨none, 0, h0, Nat.le_refl _, .inl rfl, .inl rfl⟩
  · exact ⟨_, cap', hv, hn, .inr ⟨g', rfl⟩, .inr ⟨g', rfl⟩⟩
/-- What the check of the order returns. -/
def OrdIs (b : Bool) (w : World) (e : Ending) (w' : World) : Prop := e = .returned (if b then .nilIface else .iface 75 (.int .i64 10)) ∧ Below w.heap.size w w'
theorem OrdIs.no {b : Bool} {w w' : World} (h : b = false) (hb : Below w.heap.size w w') : OrdIs b w (.returned (.iface 75 (.int .i64 10))) w' := by subst h; exact ⟨rfl, hb⟩
end Go.Proofs.Ytnfjbjmdempafaa
