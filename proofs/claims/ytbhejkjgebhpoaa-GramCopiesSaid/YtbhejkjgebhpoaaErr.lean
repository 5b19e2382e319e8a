/- What an error of this program may be, as a tree; the value that stands for it; and that it lies in memory as it did as long as old memory stays as it was. No walk. -/
import Derived.Test.YtbhejkjgebhpoaaBase
import Derived.Test.YtbhejkjgebhpoaaProg
import Derived.WalkKit
import Derived.ProofKit
namespace Go.Proofs.Ytbhejkjgebhpoaa
open Go.RowKit
/-- An error: a code, a fault, a text of package errors, or one that Within has made. -/
inductive Err where
  | code (c : Int)
  | fault (c p : Int)
  | within (b : Nat) (r : ByteArray) (e : Err)
def Err.val : Err → Value
  | .code c => .iface 62 (.int .i64 c)
  | .fault c p => .iface 74 (.agg #[.int .i64 c, .int .i64 p])
  | .within b _ _ => .iface 70 (.pointer (some ⟨b, 0, none⟩))
/-- The dynamic type, and what the interface value holds. -/
def Err.ty : Err → Nat
  | .code _ => 62
  | .fault _ _ => 74
  | .within _ _ _ => 70
def Err.inner : Err → Value
  | .code c => .int .i64 c
  | .fault c p => .agg #[.int .i64 c, .int .i64 p]
  | .within b _ _ => .pointer (some ⟨b, 0, none⟩)
/-- The function that is its method Error. -/
def Err.fnError : Err → Nat
  | .code _ => 64
  | .fault _ _ => 80
  | .within _ _ _ => 79
theorem Err.val_eq (e : Err) : e.val = .iface e.ty e.inner := by cases e <;> rfl
/-- How many errors stand behind it in its chain, a fault's code among them. -/
def Err.deep : Err → Nat
  | .code _ => 0
  | .fault _ _ => 1
  | .within _ _ e => e.deep + 1
def Err.In (_w : World) : Err → Prop
  | .code _ => True
  | .fault _ _ => True
  | .within b r e => _w.cell? ⟨b, 0, none⟩ = some (.string r) ∧ _w.cell? ⟨b, 1, none⟩ = some e.val ∧ e.In _w
/-- The first code in the chain. -/
def Err.codeOf : Err → Option Int
  | .code c => some c
  | .fault c _ => some c
  | .within _ _ e => e.codeOf
def Err.faultOf : Err → Option (Int × Int)
  | .code _ => none
  | .fault c p => some (c, p)
  | .within _ _ e => e.faultOf
/-- The first that Within has made: its block. -/
def Err.withinOf : Err → Option Nat
  | .code _ => none
  | .fault _ _ => none
  | .within b _ _ => some b
theorem Err.In.kept {e : Err} {n : Nat} {w w1 : World} (h : e.In w) (_hb : Below n w w1) (_hn : w.heap.size ≤ n) : e.In w1 := by
  induction e with
  | code c => trivial
  | fault c p => trivial
  | within b r e ih =>
    obtain ⟨h0, h1, h2⟩ := h
    have hl := lt_of_cell h0
    exact ⟨by rw [(bcell _hb).1 _ _ (by omega)]; exact h0, by rw [(bcell _hb).1 _ _ (by omega)]; exact h1, ih h2⟩
theorem Err.val_ne (e : Err) : ∃ t v, e.val = .iface t v := by
  cases e <;> exact ⟨_, _, rfl⟩
end Go.Proofs.Ytbhejkjgebhpoaa
