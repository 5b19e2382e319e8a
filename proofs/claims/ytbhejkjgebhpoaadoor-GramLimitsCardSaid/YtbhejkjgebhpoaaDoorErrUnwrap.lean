/- The two methods Unwrap of this program's errors, and what the comparison of an error with nil gives. -/
import Derived.Test.YtbhejkjgebhpoaaDoorSetFault
import Derived.Deep.LoopGhost
import Derived.Outline
import Derived.Handy
namespace Go.Proofs.YtbhejkjgebhpoaaDoor
open Go.RowKit Go.Extern.Stop Go.Stop Go.Extern
theorem unwrap_within (b : Nat) (e : Err) (w : World) (h : w.cell? ⟨b, 1, none⟩ = some e.val) :
    Calls Tryd.prog 93 #[.pointer (some ⟨b, 0, none⟩)] w fun ev w' => ev = .returned e.val ∧ w' = w := by
  go_enter Tryd.func93, Tryd.ntmps93
  go_wp2
  go_ret
  exact ⟨rfl, rfl⟩
theorem unwrap_fault (c p : Int) (w : World) :
    Calls Tryd.prog 95 #[.agg #[.int .i64 c, .int .i64 p]] w fun ev w' => ev = .returned (.iface 33 (.int .i64 c)) ∧ Below w.heap.size w w' := by
  go_enter Tryd.func95, Tryd.ntmps95
  go_wp2
  go_ret
  exact ⟨rfl, by go_grown⟩
theorem eg_val (d : Err) (x y : Operand) (w : World) : (eqGuard .eql 29 x y d.val .nilIface).run Tryd.prog w = .ok () w := by
  cases d <;> rfl
theorem eq_val (d : Err) (w : World) : (binOp .eql 29 d.val .nilIface).run Tryd.prog w = .ok (.bool false) w := by
  cases d <;> kernel_rfl
theorem val_not_nil (d : Err) : ∃ t v, d.val = .iface t v := d.val_ne
/-- What holds at the head of a round of errors.as and of errors.is: the error at hand has in its chain what the first one had. -/
def AsRel {α : Type} (f : Err → α) (w : World) (r : α) (k : Nat) (err : Value) (wr : World) : Prop :=
  ∃ d : Err, d.deep = k ∧ err = d.val ∧ d.In wr ∧ f d = r ∧ Below w.heap.size w wr
/-- How errors.as ends: nothing found, or a value laid into the target's cells. -/
def CodePost (w : World) (tb : Nat) (r : Option Int) (ev : Ending) (w' : World) : Prop :=
  match r with
  | none => ev = .returned (.bool false) ∧ Below w.heap.size w w'
  | some c => ev = .returned (.bool true) ∧ ∃ w1, Below w.heap.size w w1 ∧ w' = w1.setCell ⟨tb, 0, none⟩ (.int .i64 c)
def FaultPost (w : World) (tb : Nat) (r : Option (Int × Int)) (ev : Ending) (w' : World) : Prop :=
  match r with
  | none => ev = .returned (.bool false) ∧ Below w.heap.size w w'
  | some (c, p) => ev = .returned (.bool true) ∧ ∃ w1, Below w.heap.size w w1 ∧ w' = (w1.setCell ⟨tb, 0, none⟩ (.int .i64 c)).setCell ⟨tb, 1, none⟩ (.int .i64 p)
def WithinPost (w : World) (tb : Nat) (r : Option Nat) (ev : Ending) (w' : World) : Prop :=
  match r with
  | none => ev = .returned (.bool false) ∧ Below w.heap.size w w'
  | some b => ev = .returned (.bool true) ∧ ∃ w1, Below w.heap.size w w1 ∧ w' = w1.setCell ⟨tb, 0, none⟩ (.pointer (some ⟨b, 0, none⟩))
end Go.Proofs.YtbhejkjgebhpoaaDoor
